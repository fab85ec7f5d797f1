/-
  What a log's requests come to, in plain words; a state's value; what the laws of layer 11 ask of the program's Apply.
-/
import Derived.Test.YtjmjkcgldencoaaYSt
import Derived.Deep.WholeRow
namespace Go.Proofs.Ytjmjkcgldencoaa
open Go.RowKit

/-- a request of a size that is looked at -/
def smallB (r : Req) : Bool := decide (r.l.size ≤ 250 ∧ r.k.size ≤ 100 ∧ r.v.size ≤ 150)
/-- the last of the first j requests that is the client's, and how many are -/
def lstN (c : Int) (tk : List Req) : Nat → Int
  | 0 => -1
  | j + 1 => if (tk.getD j default).c = c then (j : Int) else lstN c tk j
def cntN (c : Int) (tk : List Req) : Nat → Int
  | 0 => 0
  | j + 1 => if (tk.getD j default).c = c then cntN c tk j + 1 else cntN c tk j
theorem lstN_lt (c : Int) (tk : List Req) : ∀ j, -1 ≤ lstN c tk j ∧ lstN c tk j < j
  | 0 => ⟨by show (-1 : Int) ≤ -1; omega, by show (-1 : Int) < 0; omega⟩
  | j + 1 => by
    have := lstN_lt c tk j
    unfold lstN
    split <;> omega
theorem cntN_le (c : Int) (tk : List Req) : ∀ j, 0 ≤ cntN c tk j ∧ cntN c tk j ≤ j
  | 0 => ⟨by show (0 : Int) ≤ 0; omega, by show (0 : Int) ≤ 0; omega⟩
  | j + 1 => by
    have := cntN_le c tk j
    unfold cntN
    split <;> omega
def rightQ (r : Req) : Bool := rightB r.c r.q r.l r.k r.v
/-- what a request is answered, and what was taken then -/
def askW (tk : List Req) (rp : List Rep) (h : Nat) (r : Req) : List Req × List Rep × Rep :=
  if rightQ r = false then (tk, rp, ⟨1, 0, 0⟩)
  else if 0 ≤ lstN r.c tk tk.length ∧ (tk.getD (lstN r.c tk tk.length).toNat default).q = r.q then (tk, rp, rp.getD (lstN r.c tk tk.length).toNat default)
  else if 0 ≤ lstN r.c tk tk.length ∧ r.q < (tk.getD (lstN r.c tk tk.length).toNat default).q then (tk, rp, ⟨7, 0, 0⟩)
  else if cntN r.c tk tk.length = 20 then (tk, rp, ⟨6, 0, 0⟩)
  else if tk.length = 64 then (tk, rp, ⟨10, 0, 0⟩)
  else (tk ++ [r], rp ++ [⟨0, tk.length, (h : Int) + 1⟩], ⟨0, tk.length, (h : Int) + 1⟩)
def lstL (c : Int) (tk : List Req) (rp : List Rep) : Nat → Lst
  | 0 => default
  | j + 1 => if (tk.getD j default).c = c then ⟨(tk.getD j default).q, (lstL c tk rp j).n + 1, rp.getD j default⟩ else lstL c tk rp j
theorem lstL_none (c : Int) (tk : List Req) (rp : List Rep) : ∀ j, lstN c tk j < 0 → lstL c tk rp j = default
  | 0, _ => rfl
  | j + 1, h => by
    unfold lstN at h
    unfold lstL
    split at h
    · omega
    · rename_i hc
      rw [if_neg hc]
      exact lstL_none c tk rp j h
theorem lstL_some (c : Int) (tk : List Req) (rp : List Rep) : ∀ j, 0 ≤ lstN c tk j →
    (lstL c tk rp j).q = (tk.getD (lstN c tk j).toNat default).q ∧ (lstL c tk rp j).r = rp.getD (lstN c tk j).toNat default ∧ (tk.getD (lstN c tk j).toNat default).c = c
  | 0, h => by unfold lstN at h; omega
  | j + 1, h => by
    unfold lstN at h ⊢
    unfold lstL
    by_cases hc : (tk.getD j default).c = c
    · rw [if_pos hc, if_pos hc]
      exact ⟨rfl, rfl, hc⟩
    · rw [if_neg hc] at h
      rw [if_neg hc, if_neg hc]
      exact lstL_some c tk rp j h
theorem lstL_n (c : Int) (tk : List Req) (rp : List Rep) : ∀ j, (lstL c tk rp j).n = cntN c tk j
  | 0 => rfl
  | j + 1 => by
    unfold lstL cntN
    split
    · show (lstL c tk rp j).n + 1 = _
      rw [lstL_n c tk rp j]
    · exact lstL_n c tk rp j
theorem getD_front {α : Type} (d : α) (l m : List α) {j : Nat} (h : j < l.length) : (l ++ m).getD j d = l.getD j d := by
  rw [List.getD_eq_getElem?_getD, List.getD_eq_getElem?_getD, List.getElem?_append_left h]
theorem getD_last {α : Type} (d : α) (l : List α) (x : α) : (l ++ [x]).getD l.length d = x := by
  rw [List.getD_eq_getElem?_getD, List.getElem?_append_right (Nat.le_refl _), Nat.sub_self]
  rfl
theorem lstL_front (c : Int) (tk : List Req) (rp : List Rep) (hl : rp.length = tk.length) (a : List Req) (b : List Rep) : ∀ j, j ≤ tk.length → lstL c (tk ++ a) (rp ++ b) j = lstL c tk rp j
  | 0, _ => rfl
  | j + 1, h => by
    unfold lstL
    rw [getD_front _ tk a (by omega), getD_front _ rp b (by omega), lstL_front c tk rp hl a b j (by omega)]
theorem lstL_snoc (c : Int) (tk : List Req) (rp : List Rep) (hl : rp.length = tk.length) (r : Req) (x : Rep) :
    lstL c (tk ++ [r]) (rp ++ [x]) (tk ++ [r]).length = if r.c = c then ⟨r.q, (lstL c tk rp tk.length).n + 1, x⟩ else lstL c tk rp tk.length := by
  rw [List.length_append]
  show lstL c (tk ++ [r]) (rp ++ [x]) (tk.length + 1) = _
  conv => lhs; unfold lstL
  rw [getD_last, ← hl, getD_last, hl, lstL_front c tk rp hl [r] [x] tk.length (Nat.le_refl _)]
theorem rightQ_q {r : Req} (h : rightQ r = true) : 1 ≤ r.q ∧ r.q ≤ 2147483647 ∧ 0 ≤ r.c ∧ r.c < 4 := by
  unfold rightQ rightB at h
  simp at h
  omega
/-- what a request is answered, of the client's last one -/
theorem askW_last (tk : List Req) (rp : List Rep) (h : Nat) (r : Req) : askW tk rp h r =
    if rightQ r = false then (tk, rp, ⟨1, 0, 0⟩)
    else if (lstL r.c tk rp tk.length).q = r.q then (tk, rp, (lstL r.c tk rp tk.length).r)
    else if r.q < (lstL r.c tk rp tk.length).q then (tk, rp, ⟨7, 0, 0⟩)
    else if (lstL r.c tk rp tk.length).n = 20 then (tk, rp, ⟨6, 0, 0⟩)
    else if tk.length = 64 then (tk, rp, ⟨10, 0, 0⟩)
    else (tk ++ [r], rp ++ [⟨0, tk.length, (h : Int) + 1⟩], ⟨0, tk.length, (h : Int) + 1⟩) := by
  unfold askW
  rw [lstL_n]
  by_cases hr : rightQ r = false
  · rw [if_pos hr, if_pos hr]
  · rw [if_neg hr, if_neg hr]
    have hq := (rightQ_q (by simpa using hr)).1
    by_cases h0 : 0 ≤ lstN r.c tk tk.length
    · obtain ⟨e1, e2, _⟩ := lstL_some r.c tk rp tk.length h0
      rw [e1, e2]
      simp only [h0, true_and]
    · have e := lstL_none r.c tk rp tk.length (by omega)
      have z : (lstL r.c tk rp tk.length).q = 0 := by rw [e]; rfl
      rw [if_neg (fun x => h0 x.1), if_neg (fun x => h0 x.1), z, if_neg (show ¬ (0 : Int) = r.q by omega), if_neg (show ¬ r.q < (0 : Int) by omega)]
/-- a log: what was taken, the replies, heads -/
structure Wd where
  tk : List Req
  rp : List Rep
  hd : List Hd
/-- what holds of all logs -/
structure InvW (w : Wd) : Prop where
  len : w.rp.length = w.tk.length
  most : w.tk.length ≤ 64
  cnt : ∀ c, cntN c w.tk w.tk.length ≤ 20
  heads : w.hd.length ≤ w.tk.length
theorem InvW.nil : InvW ⟨[], [], []⟩ where
  len := rfl
  most := by decide
  cnt := fun c => by show cntN c [] 0 ≤ 20; unfold cntN; omega
  heads := by decide
theorem askW_cases (tk : List Req) (rp : List Rep) (h : Nat) (r : Req) :
    ((askW tk rp h r).1 = tk ∧ (askW tk rp h r).2.1 = rp) ∨ (rightQ r = true ∧ (lstL r.c tk rp tk.length).q < r.q ∧ (lstL r.c tk rp tk.length).n ≠ 20 ∧ tk.length ≠ 64 ∧ askW tk rp h r = (tk ++ [r], rp ++ [⟨0, tk.length, (h : Int) + 1⟩], ⟨0, tk.length, (h : Int) + 1⟩)) := by
  rw [askW_last]
  split
  · exact .inl ⟨rfl, rfl⟩
  · rename_i h1
    split
    · exact .inl ⟨rfl, rfl⟩
    · rename_i h2
      split
      · exact .inl ⟨rfl, rfl⟩
      · rename_i h3
        split
        · exact .inl ⟨rfl, rfl⟩
        · rename_i h4
          split
          · exact .inl ⟨rfl, rfl⟩
          · rename_i h5
            exact .inr ⟨by simpa using h1, by omega, h4, h5, rfl⟩
theorem InvW.ask {w : Wd} (h : InvW w) (r : Req) : InvW ⟨(askW w.tk w.rp w.hd.length r).1, (askW w.tk w.rp w.hd.length r).2.1, w.hd⟩ := by
  rcases askW_cases w.tk w.rp w.hd.length r with ⟨e1, e2⟩ | ⟨hr, _, hn, hf, e⟩
  · rw [e1, e2]
    exact h
  · rw [e]
    have hm := h.most
    refine ⟨?_, ?_, ?_, ?_⟩
    · show (w.rp ++ _).length = (w.tk ++ _).length
      rw [List.length_append, List.length_append, h.len]
      rfl
    · show (w.tk ++ [r]).length ≤ 64
      rw [List.length_append]
      simp
      omega
    · intro c
      show cntN c (w.tk ++ [r]) (w.tk ++ [r]).length ≤ 20
      rw [← lstL_n c (w.tk ++ [r]) (w.rp ++ [⟨0, w.tk.length, (w.hd.length : Int) + 1⟩]), lstL_snoc c w.tk w.rp h.len]
      have hc := h.cnt c
      rw [← lstL_n c w.tk w.rp] at hc
      split
      · rename_i hc'
        subst hc'
        show (lstL r.c w.tk w.rp w.tk.length).n + 1 ≤ 20
        omega
      · exact hc
    · have := h.heads
      show w.hd.length ≤ (w.tk ++ [r]).length
      rw [List.length_append]
      omega
/-- the client's last one, of all -/
def lastW (c : Int) (W : Wd) : Lst := lstL c W.tk W.rp W.tk.length
/-- a slice that reads as xs; its block, where there is something in it, is as P says -/
def SlP {α : Type} (K : Kind α) (w : World) (P : Nat → Prop) (v : Value) (xs : List α) : Prop := ∃ oa cap, v = .slice oa xs.length cap ∧ RowG K w oa xs ∧ xs.length ≤ cap ∧ (oa = none → cap = 0) ∧ (∀ a, oa = some a → xs ≠ [] → P a.block)
def geP (B : Nat) : Nat → Prop := fun g => B ≤ g
section
variable {α : Type} {K : Kind α} {w w' : World} {P P' : Nat → Prop} {v : Value} {xs : List α}
theorem SlP.below (h : SlP K w P v xs) (hb : Below w.heap.size w w') : SlP K w' P v xs := by
  obtain ⟨oa, cap, h1, h2, h3, h4, h5⟩ := h
  exact ⟨oa, cap, h1, h2.below hb, h3, h4, h5⟩
theorem SlP.zero (h : SlP K w P v xs) : SlB K w 0 v xs := by
  obtain ⟨oa, cap, h1, h2, h3, h4, _⟩ := h
  exact ⟨oa, cap, h1, h2, h3, h4, fun _ _ => Nat.zero_le _⟩
theorem SlB.slP {B : Nat} (h : SlB K w B v xs) : SlP K w (geP B) v xs := by
  obtain ⟨oa, cap, h1, h2, h3, h4, h5⟩ := h
  exact ⟨oa, cap, h1, h2, h3, h4, fun a ha _ => h5 a ha⟩
theorem RowG.lt {oa : Option Addr} (h : RowG K w oa xs) (hx : xs ≠ []) {a : Addr} (ha : oa = some a) : a.block < w.heap.size := by
  cases xs with
  | nil => exact absurd rfl hx
  | cons x r =>
    obtain ⟨g, o, e, hg, _⟩ := h 0 x rfl
    rw [e] at ha
    injection ha with ha
    rw [← ha]
    exact hg
theorem SlP.imp (h : SlP K w P v xs) (hP : ∀ g, g < w.heap.size → P g → P' g) : SlP K w P' v xs := by
  obtain ⟨oa, cap, h1, h2, h3, h4, h5⟩ := h
  exact ⟨oa, cap, h1, h2, h3, h4, fun a ha hx => hP _ (h2.lt hx ha) (h5 a ha hx)⟩
/-- all blocks that P says are as they were -/
theorem SlP.same (h : SlP K w P v xs) (hs : w.heap.size ≤ w'.heap.size) (hb : ∀ g, g < w.heap.size → P g → w'.heap[g]? = w.heap[g]?) : SlP K w' P v xs := by
  obtain ⟨oa, cap, h1, h2, h3, h4, h5⟩ := h
  refine ⟨oa, cap, h1, fun i x hx => ?_, h3, h4, h5⟩
  obtain ⟨g, o, e, hg, hc⟩ := h2 i x hx
  have hne : xs ≠ [] := fun e => by rw [e] at hx; simp at hx
  refine ⟨g, o, e, Nat.lt_of_lt_of_le hg hs, fun j u hu => ?_⟩
  rw [World.cell?_of_block (a := ⟨g, o + (i * K.k + j), none⟩) (hb g hg (h5 ⟨g, o, none⟩ e hne))]
  exact hc j u hu
theorem slP_nil (w : World) (P : Nat → Prop) : SlP K w P (.slice none 0 0) [] := ⟨none, 0, rfl, RowG.nil w none, Nat.le_refl _, fun _ => rfl, fun a e => by cases e⟩
end
/-- cells that hold a state, whose slices lie where P says -/
def StC (w : World) (P : Nat → Prop) (cs : Array Value) (W : Wd) : Prop := ∃ a b, cs = cellsS a (lastW 0 W) (lastW 1 W) (lastW 2 W) (lastW 3 W) b ∧ SlP reqK w P a W.tk ∧ SlP hdK w P b W.hd
section
variable {w w' : World} {P P' : Nat → Prop} {cs : Array Value} {W : Wd}
theorem StC.size (h : StC w P cs W) : cs.size = 22 := by
  obtain ⟨a, b, rfl, _⟩ := h
  exact cellsS_size _ _ _ _ _ _
theorem StC.below (h : StC w P cs W) (hb : Below w.heap.size w w') : StC w' P cs W := by
  obtain ⟨a, b, e, h1, h2⟩ := h
  exact ⟨a, b, e, h1.below hb, h2.below hb⟩
theorem StC.imp (h : StC w P cs W) (hP : ∀ g, g < w.heap.size → P g → P' g) : StC w P' cs W := by
  obtain ⟨a, b, e, h1, h2⟩ := h
  exact ⟨a, b, e, h1.imp hP, h2.imp hP⟩
theorem StC.same (h : StC w P cs W) (hs : w.heap.size ≤ w'.heap.size) (hb : ∀ g, g < w.heap.size → P g → w'.heap[g]? = w.heap[g]?) : StC w' P cs W := by
  obtain ⟨a, b, e, h1, h2⟩ := h
  exact ⟨a, b, e, h1.same hs hb, h2.same hs hb⟩
theorem StC.one (h : StC w P cs W) : (cs.all fun x => x.oneCell') = true := by
  obtain ⟨a, b, rfl, ⟨_, _, rfl, _⟩, ⟨_, _, rfl, _⟩⟩ := h
  exact cellsS_one _ _ _ _ _ _ _ _ _ _
end
/-- a request is asked -/
def askS (W : Wd) (r : Req) : Wd := ⟨(askW W.tk W.rp W.hd.length r).1, (askW W.tk W.rp W.hd.length r).2.1, W.hd⟩
def saysS (W : Wd) (r : Req) : Rep := (askW W.tk W.rp W.hd.length r).2.2
/-- THE PROGRAM'S Apply, as the laws want it -/
def ApplyC : Prop := ∀ (P : Nat → Prop) (cs : Array Value) (W : Wd) (r : Req) (w : World), InvW W → smallB r = true → StC w P cs W →
  Calls Try.prog 11 #[.agg cs, .agg r.enc.toArray] w fun e w' => ∃ cs', e = .returned (.tuple #[.agg cs', .agg (saysS W r).enc.toArray]) ∧ StC w' (geP w.heap.size) cs' (askS W r) ∧ Below w.heap.size w w'
theorem zeroSt_at (w : World) (P : Nat → Prop) : StC w P zeroSt ⟨[], [], []⟩ := ⟨_, _, rfl, slP_nil w P, slP_nil w P⟩
end Go.Proofs.Ytjmjkcgldencoaa
