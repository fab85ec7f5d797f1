/-
  Layer 8, the reference: half, good, up.
-/
import Derived.Test.YtfhfmfcmkiobdaaCRoot
namespace Go.Proofs.Ytfhfmfcmkiobdaa
open Go.RowKit

set_option maxRecDepth 100000 in
theorem rhalf_any (n : Nat) (h2 : 2 ≤ n) (hn : n ≤ 1048576) (w : World) : Calls Try.prog 31 #[.int .i64 n] w fun e w' => e = .returned (.int .i64 (kC n : Nat)) ∧ w' = w := by
  have HK := Lib.hid (fun (k j : Nat) (h1 : k = 2 ^ j) (h3 : k < n) (h4 : n ≤ k + k) => kC_of h2 j h1 h3 h4)
  generalize kC n = K at *
  go_enter Try.func31, Try.ntmps31
  go_wp2
  go_loop [3] (fun v => ∃ k : Nat, Hid (∃ j : Nat, k = 2 ^ j) ∧ 0 < k ∧ k < n ∧ v = .int .i64 k) (fun v => n - (intOf v).toNat)
  case atStart => exact ⟨1, Lib.hid ⟨0, rfl⟩, by omega, by omega, rfl⟩
  case round =>
    obtain ⟨k, HJ, hk0, hkn, rfl⟩ := hrel
    by_cases hlt : k + k < n
    · have hlt' : (k : Int) + (k : Int) < (n : Int) := by omega
      go_wp2
      go_round
      case rel =>
        obtain ⟨j, hj⟩ := HJ.out
        exact ⟨k + k, Lib.hid ⟨j + 1, by rw [Nat.pow_succ, ← hj]; omega⟩, by omega, hlt, by go_num⟩
      case measure => simp [intOf]; omega
    · have hlt' : ¬ (k : Int) + (k : Int) < (n : Int) := by omega
      have HE := Lib.hid (show K = k by obtain ⟨j, hj⟩ := HJ.out; exact HK.out k j hj hkn (by omega))
      go_wp2
      go_ret
      exact ⟨by rw [HE.out]; rfl, rfl⟩
set_option maxRecDepth 100000 in
theorem good_any (oa : Option Addr) (n cap : Nat) (ss : List ByteArray) (hn : ss.length = n) (hm : n ≤ 9223372036854775807) (hsz : ∀ s ∈ ss, s.size ≤ 9223372036854775807) (w : World) (hc : Strs w oa ss) :
    Calls Try.prog 21 #[.slice oa n cap] w fun e w' => e = .returned (.bool (allC ss)) ∧ w' = w := by
  have HN := Lib.hid hn
  have HC := Lib.hid hc
  have HSZ := Lib.hid (ss_sizeC hsz)
  obtain ⟨A, hA⟩ : ∃ A, allC ss = A := ⟨_, rfl⟩
  rw [hA]
  have HA := Lib.hid hA
  clear hn hc hsz hA
  go_enter Try.func21, Try.ntmps21
  go_wp2
  go_loop [3] (fun i => ∃ j : Nat, j ≤ n ∧ i = .int .i64 j ∧ ∀ q, q < j → (ss.getD q ByteArray.empty).size = 32) (fun i => n - (intOf i).toNat)
  case atStart => exact ⟨0, by omega, rfl, fun q hq => absurd hq (by omega)⟩
  case round =>
    obtain ⟨j, hj, rfl, hall⟩ := hrel
    have HL := Lib.hid hall
    clear hall
    by_cases hlt : j < n
    · have hlt1 : (j : Int) < (n : Int) := by omega
      obtain ⟨a, rfl, hab, hcell⟩ := HC.out j (by have := HN.out; omega)
      have hxz := HSZ.out j
      by_cases hz : (ss.getD j ByteArray.empty).size = 32
      · have HZ := Lib.hid hz
        obtain ⟨x, hx⟩ : ∃ x, ss.getD j ByteArray.empty = x := ⟨_, rfl⟩
        rw [hx] at hcell HZ hxz hz
        have hb : ((x.size : Int) != 32) = false := by rw [hz]; rfl
        have HX := Lib.hid hx
        clear hx hz
        go_wp2
        go_round
        case rel =>
          refine ⟨j + 1, by omega, by go_num, fun q hq => ?_⟩
          rcases Nat.lt_or_ge q j with h | h
          · exact HL.out q h
          · obtain rfl : q = j := by omega
            rw [HX.out]; exact HZ.out
        case measure => simp [intOf]; omega
      · have HF := Lib.hid (allC_false (by have := HN.out; omega) hz)
        obtain ⟨x, hx⟩ : ∃ x, ss.getD j ByteArray.empty = x := ⟨_, rfl⟩
        rw [hx] at hcell hxz hz
        have hb : ((x.size : Int) != 32) = true := by rw [bne_iff_ne]; omega
        clear hx hz
        go_wp2
        go_ret
        exact ⟨boolEq (by rw [← HA.out, HF.out]), rfl⟩
    · have hlt1 : ¬ (j : Int) < (n : Int) := by omega
      have HF := Lib.hid (allC_true (ss := ss) (fun i hi => HL.out i (by have := HN.out; omega)))
      go_wp2
      go_ret
      exact ⟨boolEq (by rw [← HA.out, HF.out]), rfl⟩
/-- what Hash tells with the number q -/
def HashC (q : Nat) (h : ByteArray → ByteArray) : Prop := ∀ s W, s.size ≤ 1000 → Calls Try.prog 23 #[.int .u8 q, .string s] W fun e w' => e = .returned (.string (h s)) ∧ Below W.heap.size W w'
theorem upC_size {h : ByteArray → ByteArray} (h32 : ∀ s, (h s).size = 32) {x : ByteArray} (hx : x.size = 32) : ∀ (P : List ByteArray) (i n : Nat), (upC h x i n P).1.size ≤ 32
  | [], i, n => by
    unfold upC
    split
    · show x.size ≤ 32; omega
    · exact Nat.zero_le _
  | q :: P, i, n => by
    unfold upC
    split
    · simp [hx]
    · split
      · show (h _).size ≤ 32; rw [h32]; decide
      · show (h _).size ≤ 32; rw [h32]; decide
theorem upC_one (h : ByteArray → ByteArray) (x : ByteArray) (i : Nat) (p : List ByteArray) : upC h x i 1 p.reverse = (x, decide (p.length = 0)) := by
  cases hp : p.reverse with
  | nil => have : p = [] := by simpa using hp
           subst this; unfold upC; simp
  | cons q P =>
    have : p.length ≠ 0 := by intro e; have : p = [] := List.length_eq_zero_iff.1 e; subst this; simp at hp
    unfold upC; simp [this]
theorem slice_toC (oa : Option Addr) (n cap k : Nat) (hk : k ≤ cap) (W : World) : (Instr.slice 22 (.slice oa n cap) none (some (.int .i64 (k : Int))) none).run Try.prog W = .ok (.slice oa k cap) W := by
  rw [run_slice_h W _ _ n cap Try.underlying22 .i64 (k : Int) (by omega) (by omega)]
  have hs : (sizeOf (Try.prog.elem 22)).run Try.prog W = .ok 1 W := by kernel_rfl
  rw [hs]
  simp only [Result.andThen_ok, sliced, Int.toNat_natCast, Nat.zero_mul, Nat.sub_zero]
  congr 2
  split
  · rfl
  · cases oa with
    | none => rfl
    | some a => simp [Addr.add]
theorem Strs.initC {w : World} {oa : Option Addr} {p : List ByteArray} {q : ByteArray} (h : Strs w oa (p ++ [q])) : Strs w oa p := by
  intro i hi
  obtain ⟨a, e, hb, hc⟩ := h i (by simp; omega)
  refine ⟨a, e, hb, hc.trans ?_⟩
  rw [List.getD_eq_getElem?_getD, List.getElem?_append_left hi, List.getD_eq_getElem?_getD]
theorem upC_snoc (h : ByteArray → ByteArray) (x : ByteArray) {i n : Nat} (hn : n ≠ 1) (p : List ByteArray) (q : ByteArray) : upC h x i n (p ++ [q]).reverse =
    if i < kC n then (h (nodC false (upC h x i (kC n) p.reverse).1 q), (upC h x i (kC n) p.reverse).2) else (h (nodC true (upC h x (i - kC n) (n - kC n) p.reverse).1 q), (upC h x (i - kC n) (n - kC n) p.reverse).2) := by
  rw [List.reverse_append]
  show upC h x i n (q :: p.reverse) = _
  rw [upC, if_neg hn]
set_option maxRecDepth 100000 in
set_option maxHeartbeats 4000000 in
theorem rup_any {qh : Nat} {h : ByteArray → ByteArray} (HH : HashC qh h) (h32 : ∀ s, (h s).size = 32) (x : ByteArray) (hx : x.size = 32) : ∀ (m : Nat) (i n : Nat) (oa : Option Addr) (cap : Nat) (p : List ByteArray) (_ : i < n) (_ : n ≤ 1048576) (_ : p.length = m) (_ : m ≤ 1048576) (_ : m ≤ cap) (_ : ∀ s ∈ p, s.size = 32) (w : World) (_ : Strs w oa p),
    Calls Try.prog 22 #[.int .u8 qh, .string x, .int .i64 i, .int .i64 n, .slice oa m cap] w fun e w' => e = .returned (.tuple #[.string (upC h x i n p.reverse).1, .bool (upC h x i n p.reverse).2]) ∧ Below w.heap.size w w' := by
  intro m
  induction m with
  | zero =>
    intro i n oa cap p hi hn hp hm hcap hz w hc
    by_cases h1 : n = 1
    · subst h1
      rw [upC_one, hp]
      show Calls _ _ _ _ fun e w' => e = .returned (.tuple #[.string x, .bool true]) ∧ _
      clear hz hc hp
      go_enter Try.func22, Try.ntmps22
      go_wp2
      go_ret2
      exact ⟨rfl, Below.refl _ _⟩
    · have e : p = [] := List.length_eq_zero_iff.1 hp
      subst e
      have hn1 : ((n : Int) == 1) = false := by rw [beq_eq_false_iff_ne]; omega
      have e2 : upC h x i n [].reverse = (⟨#[]⟩, false) := by show upC h x i n [] = _; rw [upC, if_neg h1]
      rw [e2]
      clear hz hc hp e2
      go_enter Try.func22, Try.ntmps22
      go_wp2
      go_ret2
      exact ⟨rfl, Below.refl _ _⟩
  | succ m ih =>
    intro i n oa cap p hi hn hp hm hcap hz w hc
    by_cases h1 : n = 1
    · subst h1
      have e0 : decide (p.length = 0) = false := by rw [hp]; simp
      rw [upC_one, e0]
      show Calls _ _ _ _ fun e w' => e = .returned (.tuple #[.string x, .bool false]) ∧ _
      have hb : (((m + 1 : Nat) : Int) == 0) = false := by rw [beq_eq_false_iff_ne]; omega
      clear hz hc hp e0 ih
      go_enter Try.func22, Try.ntmps22
      go_wp2
      go_ret2
      exact ⟨rfl, Below.refl _ _⟩
    · have hn1 : ((n : Int) == 1) = false := by rw [beq_eq_false_iff_ne]; omega
      have h2 : 2 ≤ n := by omega
      have hk1 := kC_lt h2
      have hk0 := kC_pos n
      have HP := Lib.hid (fun W => rhalf_any n h2 hn W)
      obtain ⟨p', q, rfl⟩ : ∃ p' q, p = p' ++ [q] := by
        rcases List.eq_nil_or_concat p with e | ⟨p', q, e⟩
        · subst e; simp at hp
        · exact ⟨p', q, by simpa using e⟩
      have hp' : p'.length = m := by simpa using hp
      obtain ⟨a, rfl, hab, hcell⟩ := hc m (by omega)
      rw [show (p' ++ [q]).getD m ByteArray.empty = q from getD_mid _ _ _ _ hp'] at hcell
      have hqs : q.size = 32 := hz q (by simp)
      have HS := Lib.hid hc.initC
      have hsl := slice_toC (some a) (m + 1) cap m (by omega)
      have z1 : (⟨#[1]⟩ : ByteArray).size = 1 := rfl
      rw [upC_snoc h x h1]
      by_cases hik : i < kC n
      · have hik' : (i : Int) < (kC n : Int) := by omega
        rw [if_pos hik]
        have HL := Lib.hid (fun W hW => ih i (kC n) (some a) cap p' hik (by omega) hp' (by omega) (by omega) (fun s hs => hz s (by simp [hs])) W hW)
        have zr := upC_size (h := h) h32 hx p'.reverse i (kC n)
        generalize upC h x i (kC n) p'.reverse = T at *
        obtain ⟨r, b⟩ := T
        change r.size ≤ 32 at zr
        show Calls _ _ _ _ fun e w' => e = .returned (.tuple #[.string (h (nodC false r q)), .bool b]) ∧ _
        have q1 := addRun (a := ⟨#[1]⟩) (b := r) (by omega)
        have q2 := addRun (a := ⟨#[1]⟩ ++ r) (b := q) (by simp only [ByteArray.size_append]; omega)
        have HJ := Lib.hid (fun W => HH (nodC false r q) W (by rw [nodC_false, ByteArray.size_append, ByteArray.size_append]; omega))
        rw [nodC_false] at HJ ⊢
        generalize h (⟨#[1]⟩ ++ r ++ q) = R at *
        generalize kC n = k at *
        have HM := Lib.hid (show ((m + 1 : Nat) : Int) - 1 = (m : Int) by omega)
        have hml : (m : Int) < ((m + 1 : Nat) : Int) := by omega
        have hm0 : ¬ (m : Int) < 0 := by omega
        clear ih hz hc hp hp' hqs zr z1
        go_enter Try.func22, Try.ntmps22
        go_wp2_with (first | rw [HM.out] | (go_at_call 31; refine (HP.out _).mono ?_; rintro e w' ⟨rfl, hw'⟩; rw [hw']; clear hw' w'))
        refine (HL.out _ HS.out).mono ?_
        rintro e w1 ⟨rfl, hb1⟩
        have hcell1 := (hb1.cell (by rw [add_block]; exact hab)).trans hcell
        clear hcell
        go_wp2_with fail
        refine (HJ.out _).mono ?_
        rintro e w2 ⟨rfl, hb2⟩
        have hb3 := hb1.trans (hb2.mono hb1.size)
        go_wp2
        go_ret2
        exact ⟨rfl, hb3⟩
      · have hik' : ¬ (i : Int) < (kC n : Int) := by omega
        rw [if_neg hik]
        have HL := Lib.hid (fun W hW => ih (i - kC n) (n - kC n) (some a) cap p' (by omega) (by omega) hp' (by omega) (by omega) (fun s hs => hz s (by simp [hs])) W hW)
        have zr := upC_size (h := h) h32 hx p'.reverse (i - kC n) (n - kC n)
        generalize upC h x (i - kC n) (n - kC n) p'.reverse = T at *
        obtain ⟨r, b⟩ := T
        change r.size ≤ 32 at zr
        show Calls _ _ _ _ fun e w' => e = .returned (.tuple #[.string (h (nodC true r q)), .bool b]) ∧ _
        have q1 := addRun (a := ⟨#[1]⟩) (b := q) (by omega)
        have q2 := addRun (a := ⟨#[1]⟩ ++ q) (b := r) (by simp only [ByteArray.size_append]; omega)
        have HJ := Lib.hid (fun W => HH (nodC true r q) W (by rw [nodC_true, ByteArray.size_append, ByteArray.size_append]; omega))
        rw [nodC_true] at HJ ⊢
        have e1 : ((i - kC n : Nat) : Int) = (i : Int) - (kC n : Int) := by omega
        have e2 : ((n - kC n : Nat) : Int) = (n : Int) - (kC n : Int) := by omega
        rw [e1, e2] at HL
        generalize h (⟨#[1]⟩ ++ q ++ r) = R at *
        generalize kC n = k at *
        have HM := Lib.hid (show ((m + 1 : Nat) : Int) - 1 = (m : Int) by omega)
        have hml : (m : Int) < ((m + 1 : Nat) : Int) := by omega
        have hm0 : ¬ (m : Int) < 0 := by omega
        clear ih hz hc hp hp' hqs zr z1 e1 e2
        go_enter Try.func22, Try.ntmps22
        go_wp2_with (first | rw [HM.out] | (go_at_call 31; refine (HP.out _).mono ?_; rintro e w' ⟨rfl, hw'⟩; rw [hw']; clear hw' w'))
        refine (HL.out _ HS.out).mono ?_
        rintro e w1 ⟨rfl, hb1⟩
        have hcell1 := (hb1.cell (by rw [add_block]; exact hab)).trans hcell
        clear hcell
        go_wp2_with fail
        refine (HJ.out _).mono ?_
        rintro e w2 ⟨rfl, hb2⟩
        have hb3 := hb1.trans (hb2.mono hb1.size)
        go_wp2
        go_ret2
        exact ⟨rfl, hb3⟩
end Go.Proofs.Ytfhfmfcmkiobdaa
