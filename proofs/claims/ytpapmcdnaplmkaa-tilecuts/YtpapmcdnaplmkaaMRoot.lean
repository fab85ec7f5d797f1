/-
  Leaves, nodes, roots: the program's and the reference's.
-/
import Derived.Test.YtpapmcdnaplmkaaMMath
import Derived.Deep.RegionHeld3
namespace Go.Proofs.Ytpapmcdnaplmkaa
open Go.RowKit

set_option maxRecDepth 100000 in
/-- slices of slices of texts -/
theorem slice_to (oa : Option Addr) (n cap k : Nat) (hk : k ≤ cap) (W : World) : (Instr.slice 30 (.slice oa n cap) none (some (.int .i64 (k : Int))) none).run Try.prog W = .ok (.slice oa k cap) W := by
  rw [run_slice_h W _ _ n cap Try.underlying30 .i64 (k : Int) (by omega) (by omega)]
  have hs : (sizeOf (Try.prog.elem 30)).run Try.prog W = .ok 1 W := by kernel_rfl
  rw [hs]
  simp only [Result.andThen_ok, sliced, Int.toNat_natCast, Nat.zero_mul, Nat.sub_zero]
  congr 2
  split
  · rfl
  · cases oa with
    | none => rfl
    | some a => simp [Addr.add]
set_option maxRecDepth 100000 in
theorem slice_on (oa : Option Addr) (n cap k : Nat) (hk : k < n) (hn : n ≤ cap) (W : World) : (Instr.slice 30 (.slice oa n cap) (some (.int .i64 (k : Int))) none none).run Try.prog W = .ok (.slice (oa.map (·.add k)) (n - k) (cap - k)) W := by
  rw [run_slice_l W _ _ n cap Try.underlying30 .i64 (k : Int) (by omega) (by omega)]
  have hs : (sizeOf (Try.prog.elem 30)).run Try.prog W = .ok 1 W := by kernel_rfl
  rw [hs]
  simp only [Result.andThen_ok, sliced, Int.toNat_natCast, if_neg (show ¬ cap = k by omega), Nat.mul_one]
theorem add_add (a : Addr) (k i : Nat) : (a.add k).add i = a.add (k + i) := by
  unfold Addr.add
  by_cases hk : k = 0
  · subst hk; simp
  · by_cases hi : i = 0
    · subst hi; simp
    · rw [if_neg hk, if_neg hi, if_neg (by omega)]
      simp [Nat.add_assoc]
theorem Strs.take {w : World} {oa : Option Addr} {ss : List ByteArray} (h : Strs w oa ss) (k : Nat) : Strs w oa (ss.take k) := by
  intro i hi
  rw [List.length_take] at hi
  obtain ⟨a, h1, h2, h3⟩ := h i (by omega)
  refine ⟨a, h1, h2, ?_⟩
  rw [h3, List.getD_eq_getElem?_getD, List.getD_eq_getElem?_getD, List.getElem?_take, if_pos (by omega)]
theorem Strs.drop {w : World} {oa : Option Addr} {ss : List ByteArray} (h : Strs w oa ss) (k : Nat) : Strs w (oa.map (·.add k)) (ss.drop k) := by
  intro i hi
  rw [List.length_drop] at hi
  obtain ⟨a, rfl, h2, h3⟩ := h (k + i) (by omega)
  refine ⟨a.add k, rfl, by rw [add_block]; exact h2, ?_⟩
  rw [add_add, h3, List.getD_eq_getElem?_getD, List.getD_eq_getElem?_getD, List.getElem?_drop]

section
attribute [-go_sem] loadVar
set_option maxRecDepth 100000 in
set_option maxHeartbeats 1000000 in
theorem mjoin_any (l r : ByteArray) (hl : l.size ≤ 1073741824) (hr : r.size ≤ 1073741824) (w : World) :
    Calls Try.prog 46 #[.agg tabV, .string l, .string r] w fun e w' => e = .returned (.string (nodM l r)) ∧ Below w.heap.size w w' := by
  have z0 : (⟨#[1]⟩ : ByteArray).size = 1 := rfl
  have a1 : ¬ (⟨#[1]⟩ : ByteArray).size + l.size > 9223372036854775807 := by omega
  have a2 : ¬ ((⟨#[1]⟩ : ByteArray) ++ l).size + r.size > 9223372036854775807 := by simp only [ByteArray.size_append]; omega
  have HS := Lib.hid (fun W => hsum_any (⟨#[1]⟩ ++ l ++ r) (by simp only [ByteArray.size_append]; omega) W)
  change Hid (∀ W, Calls Try.prog 44 _ W fun e w' => e = .returned (.string (nodM l r)) ∧ Below W.heap.size W w') at HS
  generalize nodM l r = R at *
  have hB0 := (Below.refl _ w).alloc (Nat.le_refl _) (.cells tabV 36)
  have hT := tab_run (Blk.new w 36 tabV)
  clear z0
  go_enter Try.func46, Try.ntmps46
  go_wp2_with fail
  refine (HS.out _).mono ?_
  rintro e w' ⟨rfl, hB⟩
  have hB2 := hB0.trans (hB.mono hB0.size)
  go_wp2
  go_ret
  exact ⟨rfl, hB2⟩
set_option maxRecDepth 100000 in
set_option maxHeartbeats 4000000 in
theorem mroot_any (n : Nat) : ∀ (oa : Option Addr) (cap : Nat) (ss : List ByteArray) (_ : ss.length = n) (_ : n ≤ 256) (_ : n ≤ cap) (_ : Sz ss) (w : World) (_ : Strs w oa ss),
    Calls Try.prog 34 #[.agg tabV, .slice oa n cap] w fun e w' => e = .returned (.string (rootM ss)) ∧ Below w.heap.size w w' := by
  induction n using Nat.strongRecOn with
  | _ n ih =>
  intro oa cap ss hn hm hcap hz w hc
  have hB0 := (Below.refl _ w).alloc (Nat.le_refl _) (.cells tabV 36)
  have hT : Blk (w.alloc (.cells tabV 36)) w.heap.size 36 tabV := Blk.new _ _ _
  have hc0 := hc.below hB0
  clear hc
  by_cases h2 : 2 ≤ n
  · have hn0 : ((n : Int) == 0) = false := by rw [beq_eq_false_iff_ne]; omega
    have hn1 : ((n : Int) == 1) = false := by rw [beq_eq_false_iff_ne]; omega
    have HP := Lib.hid (fun W => parting_any n h2 hm W)
    have hk1 := kM_lt h2
    have hk0 := kM_pos n
    have HR := Lib.hid (show rootM ss = nodM (rootM (ss.take (kM n))) (rootM (ss.drop (kM n))) by rw [rootM_more (by omega), hn])
    have HL := Lib.hid (fun W hW => ih (kM n) hk1 oa cap (ss.take (kM n)) (by rw [List.length_take]; omega) (by omega) (by omega) (hz.take _) W hW)
    have HRR := Lib.hid (fun W hW => ih (n - kM n) (by omega) (oa.map (·.add (kM n))) (cap - kM n) (ss.drop (kM n)) (by rw [List.length_drop]; omega) (by omega) (by omega) (hz.drop _) W hW)
    have HJ := Lib.hid (fun W => mjoin_any (rootM (ss.take (kM n))) (rootM (ss.drop (kM n))) (rootM_sz (hz.take _)) (rootM_sz (hz.drop _)) W)
    rw [← HR.out] at HJ
    have hs1 := slice_to oa n cap (kM n) (by omega)
    have hs2 := slice_on oa n cap (kM n) hk1 hcap
    have HC1 := Lib.hid (hc0.take (kM n))
    have HC2 := Lib.hid (hc0.drop (kM n))
    generalize ss.take (kM n) = s1 at *
    generalize ss.drop (kM n) = s2 at *
    generalize rootM ss = R at *
    generalize rootM s1 = R1 at *
    generalize rootM s2 = R2 at *
    generalize kM n = k at *
    generalize oa.map (·.add k) = ob at *
    clear HR ih hz hc0 hn
    go_enter Try.func34, Try.ntmps34
    go_wp2_with fail
    refine (HP.out _).mono ?_
    rintro e w' ⟨rfl, rfl⟩
    go_wp2
    generalize w.alloc (.cells tabV 36) = w0 at *
    obtain ⟨B, hBB⟩ : ∃ B, w.heap.size = B := ⟨_, rfl⟩
    rw [hBB] at hB0 hT ⊢
    have HBB := Lib.hid hBB
    clear hBB
    have HKP : Hid (∀ W, Below w0.heap.size w0 W → (loadVar 36 ⟨B, 0, none⟩).run Try.prog W = .ok (.agg tabV) W ∧ Below w0.heap.size w0 W) := Lib.hid fun W hW => ⟨tab_run (hT.below hW hT.lt), hW⟩
    clear hT
    go_region_held3 (fun w' => (loadVar 36 ⟨B, 0, none⟩).run Try.prog w' = .ok (.agg tabV) w' ∧ Below w0.heap.size w0 w')
      ((refine HKP.out _ ?_; first | exact hB3' | exact hB2' | exact hB1' | exact (Below.refl _ _).drew | exact Below.refl _ _))
      (first
        | (have := hB2'; go_at_call 46; refine (HJ.out _).mono ?_; rintro e w3 ⟨rfl, hb3⟩; have hB3' : Below w0.heap.size w0 w3 := hB2'.trans (hb3.mono hB2'.size))
        | (have := hB1'; go_at_call 34; refine (HRR.out _ (HC2.out.below hB1')).mono ?_; rintro e w2 ⟨rfl, hb2⟩; have hB2' : Below w0.heap.size w0 w2 := hB1'.trans (hb2.mono hB1'.size))
        | (go_at_call 34; refine (HL.out _ (HC1.out.below (Below.refl _ _).drew)).mono ?_; rintro e w1 ⟨rfl, hb1⟩; have hB1' : Below w0.heap.size w0 w1 := (Below.refl _ _).drew.trans hb1))
    have hB6 := hB0.trans (hB3'.mono (by have := hB0.size; have := HBB.out; omega))
    rw [← HBB.out] at hB6
    go_wp2
    go_ret
    exact ⟨rfl, hB6⟩
  · by_cases h1 : n = 1
    · have HR := Lib.hid (rootM_one (l := ss) (by omega))
      have hn1 : n = 1 := h1
      obtain ⟨a, rfl, hab, hcell⟩ := hc0 0 (by omega)
      rw [HR.out]
      generalize ss.getD 0 ByteArray.empty = R at *
      rw [show a.add 0 = a from rfl] at hcell
      have hld := txt_load hcell
      subst hn1
      clear HR ih hz hc0 hn h2 hT
      go_enter Try.func34, Try.ntmps34
      go_wp2
      go_ret
      exact ⟨rfl, hB0⟩
    · obtain rfl : n = 0 := by omega
      have HR := Lib.hid (rootM_nil hn)
      have HS := Lib.hid (fun W => hsum_any ⟨#[]⟩ (by decide) W)
      rw [HR.out]
      generalize hB ⟨#[]⟩ = R at *
      have hT1 := tab_run hT
      clear HR ih hz hc0 hn h2 hT
      go_enter Try.func34, Try.ntmps34
      go_wp2_with fail
      refine (HS.out _).mono ?_
      rintro e w' ⟨rfl, hB⟩
      have hB2 := hB0.trans (hB.mono hB0.size)
      go_wp2
      go_ret
      exact ⟨rfl, hB2⟩
end

set_option maxRecDepth 100000 in
set_option maxHeartbeats 400000 in
theorem rh4_any (b : ByteArray) (hn : b.size ≤ 1099511627776) (w : World) :
    Calls Try.prog 31 #[.string b] w fun e w' => e = .returned (.string (hB b)) ∧ Below w.heap.size w w' := by
  have HS := Lib.hid (fun W => refsum_any b hn W)
  change Hid (∀ W, Calls Try.prog 42 _ W fun e w' => e = .returned (.string (hB b)) ∧ Below W.heap.size W w') at HS
  generalize hB b = R at *
  go_enter Try.func31, Try.ntmps31
  go_wp2_with fail
  refine (HS.out _).mono ?_
  rintro e w' ⟨rfl, hB⟩
  go_wp2
  go_ret
  exact ⟨rfl, hB⟩

/-- halving 64 comes to the greatest power of two below n -/
theorem kM_half : ∀ j : Fin 7, ∀ n : Fin 65, 2 ≤ n.val → (n.val ≤ 64 / 2 ^ j.val → n.val ≤ 64 / 2 ^ j.val ∧ kM n.val ≤ 64 / 2 ^ j.val / 2 ∧ j.val + 1 < 7) ∧ (64 / 2 ^ j.val < n.val → kM n.val ≤ 64 / 2 ^ j.val → 64 / 2 ^ j.val = kM n.val) := by decide +kernel
set_option maxRecDepth 100000 in
set_option maxHeartbeats 400000 in
theorem half_any (n : Nat) (h2 : 2 ≤ n) (hn : n ≤ 64) (w : World) : Calls Try.prog 47 #[.int .i64 n] w fun e w' => e = .returned (.int .i64 (kM n : Nat)) ∧ w' = w := by
  have HK := Lib.hid (show ∀ j, j < 7 → (n ≤ 64 / 2 ^ j → n ≤ 64 / 2 ^ j ∧ kM n ≤ 64 / 2 ^ j / 2 ∧ j + 1 < 7) ∧ (64 / 2 ^ j < n → kM n ≤ 64 / 2 ^ j → 64 / 2 ^ j = kM n) from fun j hj => kM_half ⟨j, hj⟩ ⟨n, by omega⟩ h2)
  have HK0 := Lib.hid (show kM n ≤ 64 by have := kM_lt h2; omega)
  generalize kM n = k at *
  go_enter Try.func47, Try.ntmps47
  go_wp2
  go_loop [3] (fun v => ∃ j : Nat, j < 7 ∧ k ≤ 64 / 2 ^ j ∧ v = .int .i64 (64 / 2 ^ j : Nat)) (fun v => (intOf v).toNat)
  case atStart => exact ⟨0, by omega, HK0.out, rfl⟩
  case round =>
    obtain ⟨j, hj, hkj, rfl⟩ := hrel
    have h1 := (HK.out j hj).1
    have h3 := (HK.out j hj).2
    have HE := Lib.hid (show 64 / 2 ^ (j + 1) = 64 / 2 ^ j / 2 by rw [Nat.pow_succ, Nat.div_div_eq_div_mul])
    have hle : 64 / 2 ^ j ≤ 64 := Nat.div_le_self _ _
    generalize 64 / 2 ^ j = p at *
    by_cases hlt : n ≤ p
    · have hlt' : (n : Int) ≤ (p : Int) := by omega
      obtain ⟨_, h4, h5⟩ := h1 hlt
      have H4 := Lib.hid h4
      clear h1 h3 h4
      go_wp2
      go_round
      case rel => exact ⟨j + 1, h5, by rw [HE.out]; exact H4.out, by rw [HE.out]; go_num⟩
      case measure => simp [intOf]; omega
    · have hlt' : ¬ (n : Int) ≤ (p : Int) := by omega
      obtain rfl := h3 (by omega) hkj
      clear h1 h3
      go_wp2
      go_ret
      exact ⟨rfl, rfl⟩
end Go.Proofs.Ytpapmcdnaplmkaa
