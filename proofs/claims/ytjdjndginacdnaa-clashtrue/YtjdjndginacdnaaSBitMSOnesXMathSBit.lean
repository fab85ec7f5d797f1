/-
  Bits of strings: plain words. How many bits are 1: bits.OnesCount8, and the plain count. Layer 9 in plain words: the way of an answer from its key's own place up to the root, over a hasher h, and why two ways that meet show a collision. Bits of strings: the program's closure, and the reference's Bit.
-/
import Derived.Test.YtjdjndginacdnaaRounds
import Derived.Test.YtjdjndginacdnaaTxt
import Derived.Shelf.Small.Bits
namespace Go.Proofs.Ytjdjndginacdnaa
open Go.RowKit

/-- the bit i of a string, each byte's highest first -/
def bitS (s : ByteArray) (i : Nat) : Bool := (nums s).getD (i / 8) 0 / 2 ^ (7 - i % 8) % 2 == 1
theorem and_pow (x m : Nat) : x &&& 2 ^ m = if x.testBit m then 2 ^ m else 0 := by
  apply Nat.eq_of_testBit_eq
  intro i
  rw [Nat.testBit_and, Nat.testBit_two_pow]
  by_cases h : m = i
  · subst h
    cases hx : x.testBit m <;> simp
  · simp only [h, decide_false, Bool.and_false]
    split
    · rw [Nat.testBit_two_pow]; simp [h]
    · simp
theorem and_mask (x m : Nat) : ((x &&& 2 ^ m) != 0) = (x / 2 ^ m % 2 == 1) := by
  rw [and_pow, Nat.testBit_eq_decide_div_mod_eq]
  by_cases h : x / 2 ^ m % 2 = 1 <;> simp [h]
theorem nums_at (s : ByteArray) {i : Nat} (h : i < s.size) : (nums s).getD i 0 = s[i].toNat := by
  simp [nums, List.getD_eq_getElem?_getD]
  rw [Array.getElem?_eq_getElem (by simpa using h)]
  rfl
theorem str_idx (s : ByteArray) (j : Nat) (hj : j < s.size) (W : World) : (Instr.index 9 (.string s) (.int .i64 (j : Int))).run Try.prog W = .ok (.int .u8 ((nums s).getD j 0 : Nat)) W := by
  have h2 : (j : Int) < (s.size : Int) := by omega
  rw [nums_at s hj]
  go_simp
theorem i64_small {n : Nat} (h : n ≤ 4611686018427387904) : IntKind.i64.wrap (n : Int) = n := by
  simp [IntKind.wrap, IntKind.bits, IntKind.signed]
  omega
end Go.Proofs.Ytjdjndginacdnaa
namespace Go.Proofs.Ytjdjndginacdnaa
open Go.RowKit

def oren : Go.Shelf.Ren := ⟨fun | 135 => 85 | n => n, fun | 3 => 3 | 5 => 5 | 9 => 9 | n => n, fun | n => n⟩
theorem olays : Go.Proofs.Lays.n135 Try.prog oren := {
  mixed := by kernel_rfl
  f135 := Try.func85.trans (congrArg some (by kernel_rfl))
  t3 := Try.underlying3, a3 := Try.isAgg3, z3 := Try.sizeOf3, v3 := Try.zeroValue3
  t5 := Try.underlying5, a5 := Try.isAgg5, z5 := Try.sizeOf5, v5 := Try.zeroValue5
  t9 := Try.underlying9, a9 := Try.isAgg9, z9 := Try.sizeOf9, v9 := Try.zeroValue9 }
def pop8 (x : Nat) : Nat := (List.range 8).countP fun m => x / 2 ^ (7 - m) % 2 == 1
theorem pop8_ones : ∀ x : Fin 256, Lib.onesCount x.val = pop8 x.val := by decide +kernel
theorem pop8_le (x : Nat) : pop8 x ≤ 8 := by
  have := List.countP_le_length (p := fun m => x / 2 ^ (7 - m) % 2 == 1) (l := List.range 8)
  simpa [pop8] using this
theorem ones_any (x : Nat) (hx : x < 256) (w : World) : Calls Try.prog 85 #[.int .u8 x] w fun e w' => e = .returned (.int .i64 (pop8 x : Nat)) ∧ w' = w := by
  have h := Any.bits_OnesCount8 olays (x : Int) w (by omega) (by omega)
  rw [Int.toNat_natCast, pop8_ones ⟨x, hx⟩] at h
  exact h
/-- how many of the first k bits are 1 -/
def cntS (s : ByteArray) (k : Nat) : Nat := (List.range k).countP (bitS s)
theorem cntS_succ (s : ByteArray) (k : Nat) : cntS s (k + 1) = cntS s k + (if bitS s k then 1 else 0) := by
  unfold cntS
  rw [List.range_succ, List.countP_append]
  simp [List.countP_cons]
theorem cntS_le (s : ByteArray) (k : Nat) : cntS s k ≤ k := by
  have := List.countP_le_length (p := bitS s) (l := List.range k)
  simpa [cntS] using this
theorem cntS_mono (s : ByteArray) {a b : Nat} (h : a ≤ b) : cntS s a ≤ cntS s b := by
  induction b with
  | zero => rw [show a = 0 by omega]; exact Nat.le_refl _
  | succ b ih =>
    rcases Nat.lt_or_eq_of_le h with h | rfl
    · rw [cntS_succ]; have := ih (by omega); omega
    · exact Nat.le_refl _
theorem cntS_byte (s : ByteArray) (j : Nat) : cntS s (8 * (j + 1)) = cntS s (8 * j) + pop8 ((nums s).getD j 0) := by
  unfold cntS pop8
  rw [show 8 * (j + 1) = 8 * j + 8 by omega, List.range_add, List.countP_append, List.countP_map]
  congr 1
  apply List.countP_congr
  intro m hm
  have hm := List.mem_range.1 hm
  simp only [Function.comp, bitS]
  rw [show (8 * j + m) / 8 = j by omega, show (8 * j + m) % 8 = m by omega]
def wfS (s : ByteArray) : Bool := decide (32 ≤ s.size) && decide (s.size = (1 + cntS s 256) * 32)
theorem nums_get_lt (s : ByteArray) (t : Nat) : (nums s).getD t 0 < 256 := by
  by_cases ht : t < (nums s).length
  · rw [List.getD_eq_getElem?_getD, List.getElem?_eq_getElem ht]; exact nums_lt s _ (List.getElem_mem ht)
  · rw [List.getD_eq_getElem?_getD, List.getElem?_eq_none (by omega)]; decide
end Go.Proofs.Ytjdjndginacdnaa
namespace Go.Proofs.Ytjdjndginacdnaa

def nod9 (b : Bool) (along beside : ByteArray) : ByteArray := if b then ⟨#[78]⟩ ++ beside ++ along else ⟨#[78]⟩ ++ along ++ beside
theorem nod9_size (b : Bool) (x y : ByteArray) : (nod9 b x y).size = 1 + x.size + y.size := by
  have e : (⟨#[78]⟩ : ByteArray).size = 1 := rfl
  unfold nod9
  split <;> simp only [ByteArray.size_append, e] <;> omega
theorem app9_inj {a b c d : ByteArray} (hs : a.size = c.size) (e : a ++ b = c ++ d) : a = c ∧ b = d := by
  have e1 : a.data.toList ++ b.data.toList = c.data.toList ++ d.data.toList := by
    have := congrArg (fun x : ByteArray => x.data.toList) e
    simpa [ByteArray.data_append] using this
  obtain ⟨h1, h2⟩ := List.append_inj e1 (by rw [Array.length_toList, Array.length_toList]; exact hs)
  exact ⟨ByteArray.ext (Array.toList_inj.1 h1), ByteArray.ext (Array.toList_inj.1 h2)⟩
theorem nod9_inj (b : Bool) {x y q r : ByteArray} (hx : x.size = 32) (hy : y.size = 32) (hq : q.size = 32) (hr : r.size = 32) (e : nod9 b x q = nod9 b y r) : x = y := by
  unfold nod9 at e
  cases b
  · rw [if_neg (by simp), if_neg (by simp)] at e
    obtain ⟨e1, _⟩ := app9_inj (by rw [ByteArray.size_append, ByteArray.size_append, hx, hy]) e
    exact (app9_inj rfl e1).2
  · rw [if_pos rfl, if_pos rfl] at e
    exact (app9_inj (by rw [ByteArray.size_append, ByteArray.size_append, hq, hr]) e).2
/-- how many of the last k bits are 1 -/
def ct9 (s : ByteArray) : Nat → Nat
  | 0 => 0
  | k + 1 => ct9 s k + if bitS s (255 - k) then 1 else 0
theorem ct9_cnt (s : ByteArray) : ∀ k, k ≤ 256 → ct9 s k + cntS s (256 - k) = cntS s 256
  | 0, _ => by show 0 + cntS s 256 = _; omega
  | k + 1, hk => by
    have ih := ct9_cnt s k (by omega)
    have e := cntS_succ s (255 - k)
    rw [show 255 - k + 1 = 256 - k by omega] at e
    rw [show 256 - (k + 1) = 255 - k by omega, ct9]
    omega
theorem ct9_mono (s : ByteArray) {a b : Nat} (h : a ≤ b) : ct9 s a ≤ ct9 s b := by
  induction b with
  | zero => rw [show a = 0 by omega]; exact Nat.le_refl _
  | succ b ih =>
    rcases Nat.lt_or_eq_of_le h with h | rfl
    · have := ih (by omega); rw [ct9]; omega
    · exact Nat.le_refl _
theorem ct9_all (s : ByteArray) : ct9 s 256 = cntS s 256 := by
  have := ct9_cnt s 256 (Nat.le_refl _)
  have e : cntS s (256 - 256) = 0 := rfl
  omega
theorem ct9_le (s : ByteArray) : ∀ k, ct9 s k ≤ k
  | 0 => Nat.le_refl _
  | k + 1 => by have := ct9_le s k; rw [ct9]; split <;> omega
theorem wf9_size {s : ByteArray} (h : wfS s = true) : s.size = (1 + ct9 s 256) * 32 := by
  unfold wfS at h
  simp only [Bool.and_eq_true, decide_eq_true_eq] at h
  rw [ct9_all]
  exact h.2
theorem wf9_room {s : ByteArray} (h : wfS s = true) {k : Nat} (hk : k ≤ 256) : 32 + 32 * ct9 s k ≤ s.size := by
  have h1 := wf9_size h
  have h2 := ct9_mono s hk
  omega
theorem wf9_room1 {s : ByteArray} (h : wfS s = true) {k : Nat} (hk : k < 256) (hb : bitS s (255 - k) = true) : 64 + 32 * ct9 s k ≤ s.size := by
  have := wf9_room h (k := k + 1) (by omega)
  rw [ct9, hb] at this
  simp at this
  omega
/-- what is told at the key's own place -/
def ow9 (key : ByteArray) (th : Bool) (v : ByteArray) : ByteArray := if th then ⟨#[86]⟩ ++ strN [key.size % 256] ++ key ++ v else ⟨#[69]⟩
theorem ow9_size (key : ByteArray) (th : Bool) (v : ByteArray) : (ow9 key th v).size ≤ 2 + key.size + v.size := by
  have e : (⟨#[86]⟩ : ByteArray).size = 1 := rfl
  have e2 : (⟨#[69]⟩ : ByteArray).size = 1 := rfl
  unfold ow9
  split
  · simp only [ByteArray.size_append, e, strN_size, List.length_cons, List.length_nil]; omega
  · rw [e2]; omega
/-- may the answer hold under some root? -/
def may9 (key : ByteArray) (th : Bool) (v s : ByteArray) : Bool := decide (key.size ≤ 255) && decide (v.size ≤ 255) && (th || decide (v.size = 0)) && wfS s
theorem may9_parts {key : ByteArray} {th : Bool} {v s : ByteArray} (h : may9 key th v s = true) : key.size ≤ 255 ∧ v.size ≤ 255 ∧ (th = false → v.size = 0) ∧ wfS s = true := by
  unfold may9 at h
  simp only [Bool.and_eq_true, Bool.or_eq_true, decide_eq_true_eq] at h
  obtain ⟨⟨⟨h1, h2⟩, h3⟩, h4⟩ := h
  refine ⟨h1, h2, fun e => ?_, h4⟩
  rcases h3 with h3 | h3
  · rw [e] at h3; cases h3
  · exact h3
theorem size_nil {v : ByteArray} (h : v.size = 0) : v = ⟨#[]⟩ := ByteArray.ext (Array.size_eq_zero_iff.1 h)
theorem ow9_ne {key : ByteArray} {ta tb : Bool} {va vb : ByteArray} (ha : ta = false → va.size = 0) (hb : tb = false → vb.size = 0) (hne : ta ≠ tb ∨ va ≠ vb) : ow9 key ta va ≠ ow9 key tb vb := by
  have e : (⟨#[86]⟩ : ByteArray).size = 1 := rfl
  have e2 : (⟨#[69]⟩ : ByteArray).size = 1 := rfl
  have hs : ∀ v : ByteArray, (ow9 key true v).size ≠ (ow9 key false v).size := fun v => by
    unfold ow9
    rw [if_pos rfl, if_neg (by simp)]
    simp only [ByteArray.size_append, e, e2, strN_size, List.length_cons, List.length_nil]; omega
  have hf : ∀ v v' : ByteArray, ow9 key false v = ow9 key false v' := fun v v' => rfl
  intro h
  cases ta <;> cases tb
  · rcases hne with hne | hne
    · exact hne rfl
    · exact hne ((size_nil (ha rfl)).trans (size_nil (hb rfl)).symm)
  · exact hs vb (by rw [← h]; exact congrArg ByteArray.size (hf va vb))
  · exact hs va (by rw [h]; exact congrArg ByteArray.size (hf vb va))
  · rcases hne with hne | hne
    · exact hne rfl
    · unfold ow9 at h
      rw [if_pos rfl, if_pos rfl] at h
      exact hne (app9_inj rfl h).2
section
variable (h : ByteArray → ByteArray)
/-- the empty root, so many depths above the last -/
def em9 : Nat → ByteArray
  | 0 => h ⟨#[69]⟩
  | k + 1 => h (⟨#[78]⟩ ++ em9 k ++ em9 k)
/-- the root beside the way, so many depths above the last: the proof's are taken from its end -/
def bs9 (s : ByteArray) (k : Nat) : ByteArray := if bitS s (255 - k) then s.extract (s.size - 32 * (ct9 s k + 1)) (s.size - 32 * ct9 s k) else em9 h k
/-- the texts on the way up -/
def tx9 (p s o : ByteArray) : Nat → ByteArray
  | 0 => o
  | k + 1 => nod9 (bitS p (255 - k)) (h (tx9 p s o k)) (bs9 h s k)
def stp9 (p s o : ByteArray) (k : Nat) : ByteArray × ByteArray := (tx9 h p s o k, h (tx9 h p s o k))
/-- the way's first k steps -/
def wy9 (p s o : ByteArray) (k : Nat) : List (ByteArray × ByteArray) := (List.range k).map (stp9 h p s o)
def pa9 (key : ByteArray) : ByteArray := h (⟨#[75]⟩ ++ key)
/-- the way of an answer: none, if it may not hold -/
def way9 (key : ByteArray) (th : Bool) (v s : ByteArray) : List (ByteArray × ByteArray) := if may9 key th v s then wy9 h (pa9 h key) s (ow9 key th v) 257 else []
/-- the root under which it holds -/
def rt9 (key : ByteArray) (th : Bool) (v s : ByteArray) : ByteArray := if may9 key th v s then h (tx9 h (pa9 h key) s (ow9 key th v) 256) else ⟨#[]⟩
theorem em9_size (h32 : ∀ s, (h s).size = 32) : ∀ k, (em9 h k).size = 32
  | 0 => h32 _
  | _ + 1 => h32 _
theorem bs9_size (h32 : ∀ s, (h s).size = 32) {s : ByteArray} (hw : wfS s = true) {k : Nat} (hk : k < 256) : (bs9 h s k).size = 32 := by
  unfold bs9
  split
  · next hb =>
    have := wf9_room1 hw hk hb
    rw [ByteArray.size_extract, Nat.min_eq_left (by omega)]
    omega
  · exact em9_size h h32 k
theorem tx9_size (h32 : ∀ s, (h s).size = 32) {s : ByteArray} (hw : wfS s = true) (p : ByteArray) {o : ByteArray} (ho : o.size ≤ 512) : ∀ k, k ≤ 256 → (tx9 h p s o k).size ≤ 512
  | 0, _ => ho
  | k + 1, hk => by rw [tx9, nod9_size, h32, bs9_size h h32 hw (by omega)]; decide
theorem wy9_len (p s o : ByteArray) (k : Nat) : (wy9 h p s o k).length = k := by simp [wy9]
theorem wy9_succ (p s o : ByteArray) (k : Nat) : wy9 h p s o (k + 1) = wy9 h p s o k ++ [stp9 h p s o k] := by simp [wy9, List.range_succ]
theorem wy9_get (p s o : ByteArray) {k i : Nat} (hi : i < (wy9 h p s o k).length) : (wy9 h p s o k)[i] = stp9 h p s o i := by simp [wy9]
/-- two ways that start unlike and end under one root meet in a collision -/
theorem meet9 (h32 : ∀ s, (h s).size = 32) {p sa sb oa ob : ByteArray} (ha : wfS sa = true) (hb : wfS sb = true) (ho : oa ≠ ob) (hr : h (tx9 h p sa oa 256) = h (tx9 h p sb ob 256)) :
    ∃ i, i < 257 ∧ tx9 h p sa oa i ≠ tx9 h p sb ob i ∧ h (tx9 h p sa oa i) = h (tx9 h p sb ob i) := by
  apply Classical.byContradiction
  intro hn
  have hn : ∀ i, i < 257 → tx9 h p sa oa i ≠ tx9 h p sb ob i → h (tx9 h p sa oa i) ≠ h (tx9 h p sb ob i) := fun i hi h1 h2 => hn ⟨i, hi, h1, h2⟩
  have hall : ∀ k, k ≤ 256 → tx9 h p sa oa k ≠ tx9 h p sb ob k := by
    intro k
    induction k with
    | zero => intro _; exact ho
    | succ k ih =>
      intro hk e
      rw [tx9, tx9] at e
      exact hn k (by omega) (ih (by omega)) (nod9_inj _ (h32 _) (h32 _) (bs9_size h h32 ha (by omega)) (bs9_size h h32 hb (by omega)) e)
  exact hn 256 (by omega) (hall 256 (Nat.le_refl _)) hr
end
end Go.Proofs.Ytjdjndginacdnaa
namespace Go.Proofs.Ytjdjndginacdnaa
open Go.RowKit

set_option maxRecDepth 100000 in
theorem mask_any (i : Nat) (hi : i < 256) (w : World) : Calls Try.prog 60 #[.int .i64 i] w fun e w' => e = .returned (.int .u8 (2 ^ (7 - i % 8) : Nat)) ∧ w = w' := by
  have hm : i % 8 < 8 := Nat.mod_lt _ (by decide)
  have he : ((i : Int) % 8) = ((i % 8 : Nat) : Int) := by omega
  generalize i % 8 = m at *
  have HE := Lib.hid (show (128 : Int) / 2 ^ m = ((2 ^ (7 - m) : Nat) : Int) by
    have : ∀ m : Fin 8, (128 : Int) / 2 ^ m.val = ((2 ^ (7 - m.val) : Nat) : Int) := by decide +kernel
    exact this ⟨m, hm⟩)
  go_enter Try.func60, Try.ntmps60
  go_wp2
  go_ret
  refine ⟨?_, rfl⟩
  rw [← HE.out]
  rfl
set_option maxRecDepth 100000 in
set_option maxHeartbeats 400000 in
theorem bitf_any (c i : Nat) (hi : i < 256) (s : ByteArray) (hs : s.size = 32) (w : World) (hc : w.cell? ⟨c, 0, none⟩ = some (.int .i64 i)) :
    Calls Try.prog 82 #[.string s, .pointer (some ⟨c, 0, none⟩)] w fun e w' => e = .returned (.bool (bitS s i)) ∧ ∃ q, w' = w.drewN q := by
  have HM := Lib.hid (fun W => mask_any i hi W)
  obtain ⟨j, hj⟩ : ∃ j, i / 8 = j := ⟨_, rfl⟩
  have he : ((i : Int) / 8) = (j : Int) := by omega
  have hlt : j < s.size := by omega
  have hw : IntKind.i64.wrap (j : Int) = j := i64_small (by omega)
  have hx := str_idx s j hlt
  have HB := Lib.hid (show bitS s i = (((nums s).getD j 0 &&& 2 ^ (7 - i % 8)) != 0) by
    unfold bitS
    rw [hj]
    exact (and_mask _ _).symm)
  rw [HB.out]
  have hm : 2 ^ (7 - i % 8) < 256 := by
    have : 2 ^ (7 - i % 8) ≤ 2 ^ 7 := Nat.pow_le_pow_right (by decide) (by omega)
    omega
  generalize 2 ^ (7 - i % 8) = M at *
  have hX : (nums s).getD j 0 < 256 := by rw [nums_at s hlt]; exact UInt8.toNat_lt _
  generalize (nums s).getD j 0 = X at *
  have HA := Lib.hid (u8_and_nat X M hX hm)
  clear hj HB
  go_enter Try.func82, Try.ntmps82
  go_wp2
  go_quiet ((go_at_call 60; exact quiet_left (HM.out _)))
  rw [HA.out]
  go_wp2
  go_ret
  refine ⟨boolEq ?_, nq, rfl⟩
  rw [Bool.eq_iff_iff]
  simp
end Go.Proofs.Ytjdjndginacdnaa
