/-
  Answers to queries, in plain words. A state's value, a world's value; what the laws of layer 11 ask of the program's calls. A leaf's hash: the program's.
-/
import Derived.Test.YtakgolbgeeoioaaGreatYSlYStYFirst
import Derived.Test.YtakgolbgeeoioaaGreatYMathYPlayLoads
import Derived.Test.YtakgolbgeeoioaaGreatYRef3SRefD
import Derived.Test.YtakgolbgeeoioaaGreatLoadsSProveMPath
import Derived.Test.YtakgolbgeeoioaaGreatSMadeMSEntMSRootLSRefV1
import Derived.Test.YtakgolbgeeoioaaGreatMSubMSzWHeadWStrsWBound
import Derived.Test.YtakgolbgeeoioaaGreatMMathMRoot
namespace Go.Proofs.YtakgolbgeeoioaaGreat

/-- what is asked -/
structure Qry where
 k : Int
 a : Int
 b : Int
 key : ByteArray
def Qry.enc (q : Qry) : Array Value := #[.int .i64 q.k, .int .i64 q.a, .int .i64 q.b, .string q.key]
/-- a head's bytes; its size; the hashes of its leaves -/
def hdB1 (h : Hd) : ByteArray := headB h.q h.z h.t h.r h.m
def zQ (hd : List Hd) (q : Int) : Nat := (headAt hd q).1.z.toNat
def lfsQ (tk : List Req) (hd : List Hd) (q : Int) : List ByteArray := (tk.take (zQ hd q)).map leafQ
def AnsH (hd : List Hd) (a : Int) (s : ByteArray) (e : Int) : Prop := if (headAt hd a).2 = true then e = 0 ∧ s = hdB1 (headAt hd a).1 else e = 5 ∧ s = ⟨#[]⟩
def AnsL (tk : List Req) (hd : List Hd) (i q : Int) (s : ByteArray) (e : Int) : Prop := if 0 ≤ i ∧ i < (zQ hd q : Int) then e = 0 ∧ s = listB (reqQ (tk.getD i.toNat default) :: incM (lfsQ tk hd q) i.toNat) else e = 5 ∧ s = ⟨#[]⟩
def AnsB (tk : List Req) (hd : List Hd) (a b : Int) (s : ByteArray) (e : Int) : Prop := if 1 ≤ zQ hd a ∧ zQ hd a ≤ zQ hd b then e = 0 ∧ s = listB (conM (lfsQ tk hd b) (zQ hd a) true) else e = 5 ∧ s = ⟨#[]⟩
/-- the map behind a head; what tells whether a key is in it -/
def prQ (tk : List Req) (hd : List Hd) (a : Int) : List (ByteArray × ByteArray) := prsQ (tk.take (zQ hd a))
def tolB (ps : List (ByteArray × ByteArray)) (key : ByteArray) : ByteArray := if (lookP ps key).isSome = true then ⟨#[49]⟩ else ⟨#[48]⟩
def valB1 (ps : List (ByteArray × ByteArray)) (key : ByteArray) : ByteArray := (lookP ps key).getD ⟨#[]⟩
def AnsK (tk : List Req) (hd : List Hd) (key : ByteArray) (a : Int) (s : ByteArray) (e : Int) : Prop := if 50 < key.size then e = 1 ∧ s = ⟨#[]⟩ else if (headAt hd a).2 = true then e = 0 ∧ ∃ p, PrS (pathS key) (entsD (madeL (prQ tk hd a))) p ∧ s = listB [tolB (prQ tk hd a) key, valB1 (prQ tk hd a) key, p] else e = 5 ∧ s = ⟨#[]⟩
/-- s, e: the answer to q -/
def Ans (tk : List Req) (hd : List Hd) (q : Qry) (s : ByteArray) (e : Int) : Prop :=
 if q.k = 0 then AnsH hd q.a s e else if q.k = 1 then AnsL tk hd q.a q.b s e else if q.k = 2 then AnsB tk hd q.a q.b s e else if q.k = 3 then AnsK tk hd q.key q.a s e else e = 1 ∧ s = ⟨#[]⟩

theorem headAt_no {hd : List Hd} {q : Int} (h : (headAt hd q).2 = false) : headAt hd q = (default, false) ∧ ¬ (1 ≤ q ∧ q ≤ hd.length) := by
 unfold headAt at h ⊢
 by_cases hc : 1 ≤ q ∧ q ≤ (hd.length : Int)
 · rw [if_pos hc] at h; cases h
 · rw [if_neg hc]; exact ⟨rfl, hc⟩
theorem headAt_yes {hd : List Hd} {q : Int} (h : (headAt hd q).2 = true) : ∃ j, j < hd.length ∧ q = (j : Int) + 1 ∧ headAt hd q = (hd.getD j default, true) := by
 unfold headAt at h ⊢
 by_cases hc : 1 ≤ q ∧ q ≤ (hd.length : Int)
 · rw [if_pos hc]
   exact ⟨q.toNat - 1, by omega, by omega, rfl⟩
 · rw [if_neg hc] at h; cases h
theorem zQ_no {hd : List Hd} {q : Int} (h : (headAt hd q).2 = false) : zQ hd q = 0 := by
 unfold zQ
 rw [(headAt_no h).1]
 rfl
/-- a head's size in a log -/
theorem InvW.zQ {W : Wd} (hi : InvW W) (q : Int) : (headAt W.hd q).1.z = (zQ W.hd q : Int) ∧ zQ W.hd q ≤ W.tk.length ∧ ((headAt W.hd q).2 = true → 1 ≤ zQ W.hd q) := by
 cases h : (headAt W.hd q).2 with
 | false =>
  rw [zQ_no h, (headAt_no h).1]
  exact ⟨rfl, Nat.zero_le _, fun e => by cases e⟩
 | true =>
  obtain ⟨j, hj, _, e⟩ := headAt_yes h
  have h1 := hi.least (j + 1) (by omega)
  have h2 := hi.zle (W.hd.length - (j + 1)) (j + 1) (by omega)
  have h3 : zN W.hd (j + 1) = (W.hd.getD j default).z := rfl
  unfold Go.Proofs.YtakgolbgeeoioaaGreat.zQ
  rw [e]
  dsimp only
  refine ⟨by omega, by omega, fun _ => by omega⟩
theorem headAt_front {hd hb : List Hd} {q : Int} (h : (headAt hd q).2 = true) : headAt (hd ++ hb) q = headAt hd q := by
 obtain ⟨j, hj, rfl, e⟩ := headAt_yes h
 rw [e]
 unfold headAt
 rw [if_pos (by rw [List.length_append]; omega), show ((j : Int) + 1).toNat - 1 = j by omega, List.getD_eq_getElem?_getD, List.getElem?_append_left hj, List.getD_eq_getElem?_getD]
theorem byte_ext {x y : Nat} (hx : x < 256) (hy : y < 256) (h : ∀ m, m < 8 → (x / 2 ^ (7 - m) % 2 == 1) = (y / 2 ^ (7 - m) % 2 == 1)) : x = y := by
 refine Nat.eq_of_testBit_eq fun i => ?_
 rcases Nat.lt_or_ge i 8 with hi | hi
 · have := h (7 - i) (by omega)
   rw [show 7 - (7 - i) = i by omega] at this
   rw [Nat.testBit_eq_decide_div_mod_eq, Nat.testBit_eq_decide_div_mod_eq]
   by_cases h1 : x / 2 ^ i % 2 = 1 <;> by_cases h2 : y / 2 ^ i % 2 = 1 <;> simp_all
 · have h2 : 2 ^ 8 ≤ 2 ^ i := Nat.pow_le_pow_right (by decide) hi
   rw [Nat.testBit_lt_two_pow (by omega), Nat.testBit_lt_two_pow (by omega)]
/-- 32 bytes are told by their bits -/
theorem bits_ext {a b : ByteArray} (ha : a.size = 32) (hb : b.size = 32) (h : ∀ i, i < 256 → bitS a i = bitS b i) : a = b := by
 refine ByteArray.ext (Array.ext (by rw [show a.data.size = 32 from ha, show b.data.size = 32 from hb]) fun i h1 h2 => ?_)
 have hi : i < 32 := by rw [show a.data.size = 32 from ha] at h1; exact h1
 have e1 := nums_at a (i := i) (by omega)
 have e2 := nums_at b (i := i) (by omega)
 have : (a[i]'(by omega)).toNat = (b[i]'(by omega)).toNat := by
  refine byte_ext (UInt8.toNat_lt _) (UInt8.toNat_lt _) fun m hm => ?_
  have := h (8 * i + m) (by omega)
  unfold bitS at this
  rw [show (8 * i + m) / 8 = i by omega, show (8 * i + m) % 8 = m by omega, e1, e2] at this
  exact this
 exact UInt8.toNat_inj.1 this
/-- there is one proof -/
theorem prS_one {p : ByteArray} {es : List Ent} {s s' : ByteArray} (h : PrS p es s) (h' : PrS p es s') : s = s' := by
 obtain ⟨fl, h1, h2, rfl⟩ := h
 obtain ⟨fl', h1', h2', rfl⟩ := h'
 rw [bits_ext h1 h1' fun i hi => by rw [h2 i hi, h2' i hi]]
theorem take_front {tk ta : List Req} {n : Nat} (h : n ≤ tk.length) : (tk ++ ta).take n = tk.take n := List.take_append_of_le_length h
/-- what was answered stays -/
theorem ans_stays {V : Wd} (hi : InvW V) {ta : List Req} {hb : List Hd} {q : Qry} {s s' : ByteArray} {e' : Int} (h : Ans V.tk V.hd q s 0) (h' : Ans (V.tk ++ ta) (V.hd ++ hb) q s' e') : e' = 0 ∧ s = s' := by
 have hz : ∀ x, 1 ≤ zQ V.hd x → (headAt V.hd x).2 = true := fun x hx => by
  cases hc : (headAt V.hd x).2 with
  | true => rfl
  | false => rw [zQ_no hc] at hx; omega
 have hf : ∀ x, (headAt V.hd x).2 = true → headAt (V.hd ++ hb) x = headAt V.hd x ∧ zQ (V.hd ++ hb) x = zQ V.hd x ∧ (V.tk ++ ta).take (zQ V.hd x) = V.tk.take (zQ V.hd x) := fun x hx => by
  have e := headAt_front (hb := hb) hx
  refine ⟨e, by unfold zQ; rw [e], take_front (hi.zQ x).2.1⟩
 unfold Ans at h h'
 by_cases k0 : q.k = 0
 · rw [if_pos k0] at h h'
   unfold AnsH at h h'
   by_cases c : (headAt V.hd q.a).2 = true
   · rw [(hf _ c).1] at h'
     rw [if_pos c] at h h'
     exact ⟨h'.1, by rw [h.2, h'.2]⟩
   · rw [if_neg c] at h
     exact absurd h.1 (by decide)
 · rw [if_neg k0] at h h'
   by_cases k1 : q.k = 1
   · rw [if_pos k1] at h h'
     unfold AnsL at h h'
     by_cases c : 0 ≤ q.a ∧ q.a < (zQ V.hd q.b : Int)
     · have c2 := hf _ (hz q.b (by omega))
       unfold lfsQ at h h'
       rw [c2.2.1, c2.2.2, if_pos c] at h'
       rw [if_pos c] at h
       refine ⟨h'.1, ?_⟩
       rw [h.2, h'.2]
       have := (hi.zQ q.b).2.1
       rw [List.getD_eq_getElem?_getD, List.getD_eq_getElem?_getD, List.getElem?_append_left (by omega)]
     · rw [if_neg c] at h
       exact absurd h.1 (by decide)
   · rw [if_neg k1] at h h'
     by_cases k2 : q.k = 2
     · rw [if_pos k2] at h h'
       unfold AnsB at h h'
       by_cases c : 1 ≤ zQ V.hd q.a ∧ zQ V.hd q.a ≤ zQ V.hd q.b
       · have c1 := hf _ (hz q.a c.1)
         have c2 := hf _ (hz q.b (Nat.le_trans c.1 c.2))
         unfold lfsQ at h h'
         rw [c1.2.1, c2.2.1, c2.2.2, if_pos c] at h'
         rw [if_pos c] at h
         exact ⟨h'.1, by rw [h.2, h'.2]⟩
       · rw [if_neg c] at h
         exact absurd h.1 (by decide)
     · rw [if_neg k2] at h h'
       by_cases k3 : q.k = 3
       · rw [if_pos k3] at h h'
         unfold AnsK at h h'
         by_cases cz : 50 < q.key.size
         · rw [if_pos cz] at h
           exact absurd h.1 (by decide)
         · rw [if_neg cz] at h h'
           by_cases c : (headAt V.hd q.a).2 = true
           · have c1 := hf _ c
             unfold prQ at h h'
             rw [c1.1, c1.2.1, c1.2.2, if_pos c] at h'
             rw [if_pos c] at h
             obtain ⟨_, p, hp, hs⟩ := h
             obtain ⟨he, p', hp', hs'⟩ := h'
             exact ⟨he, by rw [hs, hs', prS_one hp hp']⟩
           · rw [if_neg c] at h
             exact absurd h.1 (by decide)
       · rw [if_neg k3] at h
         exact absurd h.1 (by decide)
theorem listB_some (ss : List ByteArray) : (listB ss).size ≠ 0 := by rw [listB_size]; omega
/-- what is told: an answer, or an error of these two -/
theorem ans_told {tk : List Req} {hd : List Hd} {q : Qry} {s : ByteArray} {e : Int} (h : Ans tk hd q s e) :
 ((q.k < 0 ∨ 3 < q.k) → e = 1 ∧ s = ⟨#[]⟩) ∧ ((hd = [] ∧ 0 ≤ q.k ∧ q.k ≤ 3 ∧ (q.k ≠ 3 ∨ q.key.size ≤ 50)) → e = 5 ∧ s = ⟨#[]⟩) ∧ ((e = 0 ∧ s.size ≠ 0) ∨ (s = ⟨#[]⟩ ∧ (e = 5 ∨ e = 1))) := by
 have hn : hd = [] → ∀ x, (headAt hd x).2 = false := fun e x => by
  subst e
  unfold headAt
  rw [if_neg (by simp; omega)]
 unfold Ans at h
 by_cases k0 : q.k = 0
 · rw [if_pos k0] at h
   unfold AnsH at h
   refine ⟨fun h2 => by omega, fun h2 => ?_, ?_⟩
   · rw [if_neg (by rw [hn h2.1]; decide)] at h
     exact h
   · split at h
     · refine .inl ⟨h.1, ?_⟩
       rw [h.2]
       unfold hdB1
       rw [headB_size]
       omega
     · exact .inr ⟨h.2, .inl h.1⟩
 · rw [if_neg k0] at h
   by_cases k1 : q.k = 1
   · rw [if_pos k1] at h
     unfold AnsL at h
     refine ⟨fun h2 => by omega, fun h2 => ?_, ?_⟩
     · rw [if_neg (by rw [zQ_no (hn h2.1 _)]; omega)] at h
       exact h
     · split at h
       · exact .inl ⟨h.1, by rw [h.2]; exact listB_some _⟩
       · exact .inr ⟨h.2, .inl h.1⟩
   · rw [if_neg k1] at h
     by_cases k2 : q.k = 2
     · rw [if_pos k2] at h
       unfold AnsB at h
       refine ⟨fun h2 => by omega, fun h2 => ?_, ?_⟩
       · rw [if_neg (by rw [zQ_no (hn h2.1 q.a)]; omega)] at h
         exact h
       · split at h
         · exact .inl ⟨h.1, by rw [h.2]; exact listB_some _⟩
         · exact .inr ⟨h.2, .inl h.1⟩
     · rw [if_neg k2] at h
       by_cases k3 : q.k = 3
       · rw [if_pos k3] at h
         unfold AnsK at h
         refine ⟨fun h2 => by omega, fun h2 => ?_, ?_⟩
         · rw [if_neg (by rcases h2.2.2.2 with h3 | h3; exact absurd k3 h3; omega), if_neg (by rw [hn h2.1]; decide)] at h
           exact h
         · split at h
           · exact .inr ⟨h.2, .inr h.1⟩
           · split at h
             · obtain ⟨he, p, _, hs⟩ := h
               exact .inl ⟨he, by rw [hs]; exact listB_some _⟩
             · exact .inr ⟨h.2, .inl h.1⟩
       · rw [if_neg k3] at h
         exact ⟨fun _ => h, fun h2 => by omega, .inr ⟨h.2, .inr h.1⟩⟩
end Go.Proofs.YtakgolbgeeoioaaGreat
namespace Go.Proofs.YtakgolbgeeoioaaGreat
open Go.RowKit

/-- the client's last one, of all -/
def lastW (c : Int) (W : Wd) : Lst := lstL c W.tk W.rp W.tk.length
/-- a slice that reads as xs; its block, where there is something in it, is as P says -/
def SlP {α : Type} (K : Kind α) (w : World) (P : Nat → Prop) (v : Value) (xs : List α) : Prop := ∃ oa cap, v = .slice oa xs.length cap ∧ RowG K w oa xs ∧ xs.length ≤ cap ∧ (oa = none → cap = 0) ∧ (∀ a, oa = some a → xs ≠ [] → P a.block)
def geP (B : Nat) : Nat → Prop := fun g => B ≤ g
section
variable {α : Type} {K : Kind α} {w w' : World} {P P' : Nat → Prop} {v : Value} {xs : List α}
theorem SlP.below (h : SlP K w P v xs) (hb : Below w.heap.size w w') : SlP K w' P v xs := by
 obtain ⟨oa, cap, h1, h2, h3, h4, h5⟩ := h
 exact ⟨oa, cap, h1, h2.below hb, h3, h4, h5⟩
theorem SlP.zero (h : SlP K w P v xs) : SlB K w 0 v xs := by
 obtain ⟨oa, cap, h1, h2, h3, h4, _⟩ := h
 exact ⟨oa, cap, h1, h2, h3, h4, fun _ _ => Nat.zero_le _⟩
theorem SlB.slP {B : Nat} (h : SlB K w B v xs) : SlP K w (geP B) v xs := by
 obtain ⟨oa, cap, h1, h2, h3, h4, h5⟩ := h
 exact ⟨oa, cap, h1, h2, h3, h4, fun a ha _ => h5 a ha⟩
theorem RowG.lt {oa : Option Addr} (h : RowG K w oa xs) (hx : xs ≠ []) {a : Addr} (ha : oa = some a) : a.block < w.heap.size := by
 cases xs with
 | nil => exact absurd rfl hx
 | cons x r =>
  obtain ⟨g, o, e, hg, _⟩ := h 0 x rfl
  rw [e] at ha
  injection ha with ha
  rw [← ha]
  exact hg
theorem SlP.imp (h : SlP K w P v xs) (hP : ∀ g, g < w.heap.size → P g → P' g) : SlP K w P' v xs := by
 obtain ⟨oa, cap, h1, h2, h3, h4, h5⟩ := h
 exact ⟨oa, cap, h1, h2, h3, h4, fun a ha hx => hP _ (h2.lt hx ha) (h5 a ha hx)⟩
/-- all blocks that P says are as they were -/
theorem SlP.same (h : SlP K w P v xs) (hs : w.heap.size ≤ w'.heap.size) (hb : ∀ g, g < w.heap.size → P g → w'.heap[g]? = w.heap[g]?) : SlP K w' P v xs := by
 obtain ⟨oa, cap, h1, h2, h3, h4, h5⟩ := h
 refine ⟨oa, cap, h1, fun i x hx => ?_, h3, h4, h5⟩
 obtain ⟨g, o, e, hg, hc⟩ := h2 i x hx
 have hne : xs ≠ [] := fun e => by rw [e] at hx; simp at hx
 refine ⟨g, o, e, Nat.lt_of_lt_of_le hg hs, fun j u hu => ?_⟩
 rw [World.cell?_of_block (a := ⟨g, o + (i * K.k + j), none⟩) (hb g hg (h5 ⟨g, o, none⟩ e hne))]
 exact hc j u hu
theorem SlO.slP {o0 : Option Addr} {xs0 : List α} {B : Nat} (h : SlO K w o0 xs0 B v xs) (h0 : ∀ a, o0 = some a → xs0 ≠ [] → P a.block) (hB : ∀ g, B ≤ g → P g) : SlP K w P v xs := by
 obtain ⟨oa, cap, h1, h2, h3, h4, h5⟩ := h
 refine ⟨oa, cap, h1, h2, h3, h4, fun a ha hx => ?_⟩
 rcases h5 with ⟨e, e2⟩ | h5
 · exact h0 a (by rw [← e]; exact ha) (by rw [← e2]; exact hx)
 · exact hB _ (h5 a ha)
theorem slP_nil (w : World) (P : Nat → Prop) : SlP K w P (.slice none 0 0) [] := ⟨none, 0, rfl, RowG.nil w none, Nat.le_refl _, fun _ => rfl, fun a e => by cases e⟩
end
/-- cells that hold a state, whose slices lie where P says -/
def StC (w : World) (P : Nat → Prop) (cs : Array Value) (W : Wd) : Prop := ∃ a b, cs = cellsS a (lastW 0 W) (lastW 1 W) (lastW 2 W) (lastW 3 W) b ∧ SlP reqK w P a W.tk ∧ SlP hdK w P b W.hd
section
variable {w w' : World} {P P' : Nat → Prop} {cs : Array Value} {W : Wd}
theorem StC.size (h : StC w P cs W) : cs.size = 22 := by
 obtain ⟨a, b, rfl, _⟩ := h
 exact cellsS_size _ _ _ _ _ _
theorem StC.below (h : StC w P cs W) (hb : Below w.heap.size w w') : StC w' P cs W := by
 obtain ⟨a, b, e, h1, h2⟩ := h
 exact ⟨a, b, e, h1.below hb, h2.below hb⟩
theorem StC.imp (h : StC w P cs W) (hP : ∀ g, g < w.heap.size → P g → P' g) : StC w P' cs W := by
 obtain ⟨a, b, e, h1, h2⟩ := h
 exact ⟨a, b, e, h1.imp hP, h2.imp hP⟩
theorem StC.same (h : StC w P cs W) (hs : w.heap.size ≤ w'.heap.size) (hb : ∀ g, g < w.heap.size → P g → w'.heap[g]? = w.heap[g]?) : StC w' P cs W := by
 obtain ⟨a, b, e, h1, h2⟩ := h
 exact ⟨a, b, e, h1.same hs hb, h2.same hs hb⟩
theorem StC.one (h : StC w P cs W) : (cs.all fun x => x.oneCell') = true := by
 obtain ⟨a, b, rfl, ⟨_, _, rfl, _⟩, ⟨_, _, rfl, _⟩⟩ := h
 exact cellsS_one _ _ _ _ _ _ _ _ _ _
/-- cells that hold a world -/
def WdC (w : World) (P : Nat → Prop) (cs : Array Value) (W : Wd) : Prop := ∃ a b c, cs = #[a, b, c] ∧ SlP reqK w P a W.tk ∧ SlP repK w P b W.rp ∧ SlP hdK w P c W.hd
theorem WdC.size (h : WdC w P cs W) : cs.size = 3 := by
 obtain ⟨a, b, c, rfl, _⟩ := h
 rfl
theorem WdC.one (h : WdC w P cs W) : (cs.all fun x => x.oneCell') = true := by
 obtain ⟨a, b, c, rfl, ⟨_, _, rfl, _⟩, ⟨_, _, rfl, _⟩, ⟨_, _, rfl, _⟩⟩ := h
 simp [Value.oneCell']
theorem WdC.below (h : WdC w P cs W) (hb : Below w.heap.size w w') : WdC w' P cs W := by
 obtain ⟨a, b, c, e, h1, h2, h3⟩ := h
 exact ⟨a, b, c, e, h1.below hb, h2.below hb, h3.below hb⟩
theorem WdC.imp (h : WdC w P cs W) (hP : ∀ g, g < w.heap.size → P g → P' g) : WdC w P' cs W := by
 obtain ⟨a, b, c, e, h1, h2, h3⟩ := h
 exact ⟨a, b, c, e, h1.imp hP, h2.imp hP, h3.imp hP⟩
theorem WdC.same (h : WdC w P cs W) (hs : w.heap.size ≤ w'.heap.size) (hb : ∀ g, g < w.heap.size → P g → w'.heap[g]? = w.heap[g]?) : WdC w' P cs W := by
 obtain ⟨a, b, c, e, h1, h2, h3⟩ := h
 exact ⟨a, b, c, e, h1.same hs hb, h2.same hs hb, h3.same hs hb⟩
end
theorem wd_load {w : World} {g : Nat} {cs : Array Value} (hs : cs.size = 3) (h : Blk w g 43 cs) : (loadVar 43 ⟨g, 0, none⟩).run Tryz.prog w = .ok (.agg cs) w :=
 run_loadVar_row w g 43 43 cs (0, 0) _ h Tryz.underlying43 rfl (by rw [hs]; kernel_rfl)
/-- a request is asked -/
def askS (W : Wd) (r : Req) : Wd := ⟨(askW W.tk W.rp W.hd.length r).1, (askW W.tk W.rp W.hd.length r).2.1, W.hd⟩
def saysS (W : Wd) (r : Req) : Rep := (askW W.tk W.rp W.hd.length r).2.2
/-- a head is cut -/
def cutS (W : Wd) (now : Int) : Wd := ⟨W.tk, W.rp, (cutW W.tk W.hd now).1⟩
def isS (W : Wd) (now : Int) : Bool := (cutW W.tk W.hd now).2
theorem stepW_eq (W : Wd) (x : OpR) : stepW W x = if x.cut then cutS W x.now else askS W x.r := rfl
/-- THE PROGRAM'S Apply, as the laws want it -/
def ApplyC : Prop := ∀ (P : Nat → Prop) (cs : Array Value) (W : Wd) (r : Req) (w : World), InvW W → smallB r = true → StC w P cs W →
 Calls Tryz.prog 22 #[.agg cs, .agg r.enc.toArray] w fun e w' => ∃ cs', e = .returned (.tuple #[.agg cs', .agg (saysS W r).enc.toArray]) ∧ StC w' (geP w.heap.size) cs' (askS W r) ∧ Below w.heap.size w w'
/-- THE PROGRAM'S Cut -/
def CutC : Prop := ∀ (P : Nat → Prop) (cs : Array Value) (W : Wd) (now : Int) (w : World), InvW W → (-9223372036854775808 ≤ now ∧ now ≤ 9223372036854775807) → StC w P cs W →
 Calls Tryz.prog 20 #[.agg cs, .agg tabV, .int .i64 now] w fun e w' => ∃ cs', e = .returned (.tuple #[.agg cs', .bool (isS W now)]) ∧ StC w' (geP w.heap.size) cs' (cutS W now) ∧ Below w.heap.size w w'
/-- the reference's -/
def RAskC : Prop := ∀ (P : Nat → Prop) (cs : Array Value) (W : Wd) (r : Req) (w : World), (∀ g, w.heap.size ≤ g → P g) → InvW W → smallB r = true → WdC w P cs W →
 Calls Tryz.prog 23 #[.agg cs, .agg r.enc.toArray] w fun e w' => ∃ cs', e = .returned (.tuple #[.agg cs', .agg (saysS W r).enc.toArray]) ∧ WdC w' P cs' (askS W r) ∧ Below w.heap.size w w'
def RCutC : Prop := ∀ (P : Nat → Prop) (cs : Array Value) (W : Wd) (now : Int) (w : World), (∀ g, w.heap.size ≤ g → P g) → InvW W → WdC w P cs W →
 Calls Tryz.prog 21 #[.agg cs, .agg (emC emp), .int .i64 now] w fun e w' => ∃ cs', e = .returned (.tuple #[.agg cs', .bool (isS W now)]) ∧ WdC w' P cs' (cutS W now) ∧ Below w.heap.size w w'
/-- what is right is small -/
theorem InvW.szq {W : Wd} (h : InvW W) : SzQ W.tk := fun r hr => by
 have := h.right r hr
 unfold rightQ rightB at this
 unfold smallB
 simp at this ⊢
 omega
def zeroWd : Array Value := #[.slice none 0 0, .slice none 0 0, .slice none 0 0]
theorem zeroW (w : World) : (zeroValue 43).run Tryz.prog w = .ok (.agg zeroWd) w := by kernel_rfl
theorem zeroSt_at (w : World) (P : Nat → Prop) : StC w P zeroSt ⟨[], [], []⟩ := ⟨_, _, rfl, slP_nil w P, slP_nil w P⟩
theorem zeroWd_at (w : World) (P : Nat → Prop) : WdC w P zeroWd ⟨[], [], []⟩ := ⟨_, _, _, rfl, slP_nil w P, slP_nil w P, slP_nil w P⟩
/-- what Do comes to -/
def RDo (l : List OpR) (w : World) (e : Ending) (w' : World) : Prop := ∃ cs ds, e = .returned (.tuple #[.agg cs, .agg ds, .bool true]) ∧ StC w' (geP w.heap.size) cs (playW l) ∧ WdC w' (geP w.heap.size) ds (playW l) ∧ Below w.heap.size w w'
end Go.Proofs.YtakgolbgeeoioaaGreat
namespace Go.Proofs.YtakgolbgeeoioaaGreat
open Go.RowKit

section
attribute [-go_sem] loadVar
set_option maxRecDepth 100000 in
set_option maxHeartbeats 1000000 in
theorem mleaf_any (b : ByteArray) (hb : b.size ≤ 1073741824) (w : World) :
 Calls Tryz.prog 77 #[.agg tabV, .string b] w fun e w' => e = .returned (.string (leafM b)) ∧ Below w.heap.size w w' := by
 have z0 : (⟨#[0]⟩ : ByteArray).size = 1 := rfl
 have a1 : ¬ (⟨#[0]⟩ : ByteArray).size + b.size > 9223372036854775807 := by omega
 have HS := Lib.hid (fun W => hsum_any (⟨#[0]⟩ ++ b) (by simp only [ByteArray.size_append]; omega) W)
 change Hid (∀ W, Calls Tryz.prog 73 _ W fun e w' => e = .returned (.string (leafM b)) ∧ Below W.heap.size W w') at HS
 generalize leafM b = R at *
 have hB0 := (Below.refl _ w).alloc (Nat.le_refl _) (.cells tabV 29)
 have hT := tab_run (Blk.new w 29 tabV)
 clear z0
 go_enter Tryz.func77, Tryz.ntmps77
 go_wp2_with fail
 refine (HS.out _).mono ?_
 rintro e w' ⟨rfl, hB⟩
 have hB2 := hB0.trans (hB.mono hB0.size)
 go_wp2
 go_ret
 exact ⟨rfl, hB2⟩
end
end Go.Proofs.YtakgolbgeeoioaaGreat
