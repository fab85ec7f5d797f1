/-
  The reference's Climb, Least, Few, Paths.
-/
import Derived.Test.YtedkhcjbppknpaaSRefA
namespace Go.Proofs.Ytedkhcjbppknpaa
open Go.RowKit

/-- keys and values of a size that is looked at -/
def FitP (ps : List (ByteArray × ByteArray)) : Prop := ∀ x ∈ ps, x.1.size ≤ 60 ∧ x.2.size ≤ 60
theorem FitP.get {ps : List (ByteArray × ByteArray)} (h : FitP ps) {i : Nat} (hi : i < ps.length) : ps[i].1.size ≤ 60 ∧ ps[i].2.size ≤ 60 := h _ (List.getElem_mem hi)
theorem FitP.snoc {ps : List (ByteArray × ByteArray)} (h : FitP ps) {y : ByteArray × ByteArray} (hy : y.1.size ≤ 60 ∧ y.2.size ≤ 60) : FitP (ps ++ [y]) := fun x hx => by
  rcases List.mem_append.1 hx with hx | hx
  · exact h x hx
  · rw [List.mem_singleton.1 hx]; exact hy
section
attribute [-go_sem] loadVar
set_option maxRecDepth 100000 in
set_option maxHeartbeats 1000000 in
theorem rclimb_any (p x : ByteArray) (hp : p.size = 32) (hx : x.size = 32) (d : Nat) (hd : d ≤ 256) (w : World) :
    Calls Try.prog 37 #[.agg (emC emp), .string p, .string x, .int .i64 256, .int .i64 d] w fun e w' => (∃ r : ByteArray, e = .returned (.string r) ∧ r.size = 32) ∧ Below w.heap.size w w' := by
  have b0 : Blk (w.alloc (.cells (emC emp) 43)) w.heap.size 43 (emC emp) := Blk.new _ _ _
  have hB0 := (Below.refl _ w).alloc (Nat.le_refl _) (.cells (emC emp) 43)
  have HBI := Lib.hid (fun i (hi : i < 256) W => rbit_any p i hi (by omega) W)
  have HES := Lib.hid emp_size
  have HH := Lib.hid (fun (b : ByteArray) (hb : b.size ≤ 1000) W => rh5_any b (by omega) W)
  have HHS := Lib.hid hB_size
  go_enter Try.func37, Try.ntmps37
  go_wp2
  generalize w.alloc (.cells (emC emp) 43) = w0 at *
  go_loopw [2, 11] (fun y v wr => ∃ (k : Nat) (X : ByteArray), d ≤ k ∧ k ≤ 256 ∧ y = .string X ∧ X.size = 32 ∧ v = .int .i64 ((k : Int) - 1) ∧ Blk wr w.heap.size 43 (emC emp) ∧ Below w.heap.size w wr) (fun _ v _ => ((intOf v) + 1).toNat)
  case atStart => exact ⟨256, x, hd, Nat.le_refl _, rfl, hx, rfl, b0, hB0⟩
  case round =>
    clear b0 hB0
    obtain ⟨k, X, hdk, hk, rfl, hX, rfl, hbr, hBr⟩ := hrel
    by_cases hlt : d < k
    · obtain ⟨j, rfl⟩ : ∃ j, k = j + 1 := ⟨k - 1, by omega⟩
      rw [show (((j + 1 : Nat) : Int) - 1) = (j : Int) by omega]
      have hdj : (d : Int) ≤ (j : Int) := by omega
      have hcb := txt_load ((hbr.cell (j + 1)).trans (emC_at emp (by omega)))
      have hes := HES.out (j + 1)
      generalize emp (j + 1) = E at *
      have z0 : (⟨#[78]⟩ : ByteArray).size = 1 := rfl
      have a1 : ¬ (⟨#[78]⟩ : ByteArray).size + X.size > 9223372036854775807 := by omega
      have a2 : ¬ ((⟨#[78]⟩ : ByteArray) ++ X).size + E.size > 9223372036854775807 := by simp only [ByteArray.size_append]; omega
      have a3 : ¬ (⟨#[78]⟩ : ByteArray).size + E.size > 9223372036854775807 := by omega
      have a4 : ¬ ((⟨#[78]⟩ : ByteArray) ++ E).size + X.size > 9223372036854775807 := by simp only [ByteArray.size_append]; omega
      have H1 := Lib.hid (HH.out (⟨#[78]⟩ ++ X ++ E) (by simp only [ByteArray.size_append]; omega))
      have H2 := Lib.hid (HH.out (⟨#[78]⟩ ++ E ++ X) (by simp only [ByteArray.size_append]; omega))
      have S1 := Lib.hid (HHS.out (⟨#[78]⟩ ++ X ++ E))
      have S2 := Lib.hid (HHS.out (⟨#[78]⟩ ++ E ++ X))
      have HBJ := Lib.hid (HBI.out j (by omega))
      have hb2 : bitN p j = 0 ∨ bitN p j = 1 := by rw [bitN_eq]; split <;> simp
      have HBR := Lib.hid hbr
      have HBB := Lib.hid hBr
      have hj8 : (j : Int) + 1 < 257 := by omega
      clear HBI HH HHS HES z0 hbr hBr hes hX
      go_wp2_with fail
      refine (HBJ.out _).mono ?_
      rintro e w2 ⟨rfl, rfl⟩
      rcases hb2 with hb2 | hb2
      · rw [hb2]
        go_wp2_with fail
        refine (H1.out _).mono ?_
        rintro e w3 ⟨rfl, hb3⟩
        have k3 := HBR.out.below hb3 HBR.out.lt
        have hB3 := HBB.out.trans (hb3.mono HBB.out.size)
        clear hb3 hcb
        generalize hB (⟨#[78]⟩ ++ X ++ E) = R at *
        go_wp2
        go_roundw
        case rel => exact ⟨j, R, by omega, by omega, rfl, S1.out, by go_num, k3, hB3⟩
        case measure => simp [intOf]
      · rw [hb2]
        go_wp2_with fail
        refine (H2.out _).mono ?_
        rintro e w3 ⟨rfl, hb3⟩
        have k3 := HBR.out.below hb3 HBR.out.lt
        have hB3 := HBB.out.trans (hb3.mono HBB.out.size)
        clear hb3 hcb
        generalize hB (⟨#[78]⟩ ++ E ++ X) = R at *
        go_wp2
        go_roundw
        case rel => exact ⟨j, R, by omega, by omega, rfl, S2.out, by go_num, k3, hB3⟩
        case measure => simp [intOf]
    · obtain rfl : k = d := by omega
      have hdj : ¬ (k : Int) ≤ (k : Int) - 1 := by omega
      generalize hq : (k : Int) - 1 = q at *
      clear hlt
      go_wp2
      go_ret
      exact ⟨⟨X, rfl, hX⟩, hBr⟩
end
/-- what Few answers -/
def RFew (n m : Nat) (ps : List (ByteArray × ByteArray)) (w : World) (e : Ending) (w' : World) : Prop := (∃ b, e = .returned (.bool b) ∧ (b = true → n ≤ m ∧ FitP ps)) ∧ w' = w
set_option maxRecDepth 100000 in
set_option maxHeartbeats 1000000 in
theorem few_any5 (oa : Option Addr) (n cap m : Nat) (ps : List (ByteArray × ByteArray)) (hn : ps.length = n) (hm : m ≤ 50) (w : World) (hP : Prs w oa ps) :
    Calls Try.prog 8 #[.slice oa n cap, .int .i64 m] w (RFew n m ps w) := by
  have HP := Lib.hid hP
  have HN := Lib.hid hn
  clear hP hn
  go_enter Try.func8, Try.ntmps8
  go_wp2
  go_loop [5] (fun v => ∃ k : Nat, k ≤ n ∧ k ≤ 50 ∧ v = .int .i64 k ∧ (∀ i (h : i < ps.length), i < k → ps[i].1.size ≤ 60 ∧ ps[i].2.size ≤ 60)) (fun v => 50 - (intOf v).toNat)
  case atStart => exact ⟨0, by omega, by omega, rfl, fun i _ h => absurd h (Nat.not_lt_zero _)⟩
  case round =>
    obtain ⟨k, hk, hk5, rfl, hF⟩ := hrel
    have HF := Lib.hid hF
    clear hF
    by_cases hkn : k < n
    · have hkn' : (k : Int) < (n : Int) := by omega
      by_cases hk50 : k < 50
      · have hk50' : (k : Int) < 50 := by omega
        obtain ⟨g, o, rfl, hg, c1, c2⟩ := HP.out.at (i := k) (by rw [HN.out]; exact hkn)
        have HK := Lib.hid (show ∀ i (h : i < ps.length), i < k + 1 → (ps[k]'(by rw [HN.out]; exact hkn)).1.size ≤ 60 ∧ (ps[k]'(by rw [HN.out]; exact hkn)).2.size ≤ 60 → ps[i].1.size ≤ 60 ∧ ps[i].2.size ≤ 60 from fun i h hi hh => by
          rcases Nat.lt_or_eq_of_le (Nat.le_of_lt_succ hi) with h1 | rfl
          · exact HF.out i h h1
          · exact hh)
        generalize hX : (ps[k]'(by rw [HN.out]; exact hkn)).1 = X at *
        generalize hY : (ps[k]'(by rw [HN.out]; exact hkn)).2 = Y at *
        clear hX hY
        by_cases hx : X.size ≤ 60
        · have hx' : ¬ (60 : Int) < (X.size : Int) := by omega
          by_cases hy : Y.size ≤ 60
          · have hy' : ¬ (60 : Int) < (Y.size : Int) := by omega
            go_wp2
            go_round
            case rel => exact ⟨k + 1, by omega, by omega, by go_num, fun i h hi => HK.out i h hi ⟨hx, hy⟩⟩
            case measure => simp [intOf]; omega
          · have hy' : (60 : Int) < (Y.size : Int) := by omega
            go_wp2
            go_ret
            exact ⟨⟨false, rfl, fun h => by cases h⟩, rfl⟩
        · have hx' : (60 : Int) < (X.size : Int) := by omega
          go_wp2
          go_ret
          exact ⟨⟨false, rfl, fun h => by cases h⟩, rfl⟩
      · have hk50' : ¬ (k : Int) < 50 := by omega
        have hnm : ¬ (n : Int) ≤ (m : Int) := by omega
        go_wp2
        go_ret
        exact ⟨⟨false, rfl, fun h => by cases h⟩, rfl⟩
    · have hkn' : ¬ (k : Int) < (n : Int) := by omega
      have HFin : Hid (n ≤ m → n ≤ m ∧ FitP ps) := Lib.hid fun h => ⟨h, fun x hx => by
        obtain ⟨i, hi, rfl⟩ := List.getElem_of_mem hx
        exact HF.out i hi (by have := HN.out; omega)⟩
      go_wp2
      go_ret
      exact ⟨⟨decide (n ≤ m), rfl, fun h => HFin.out (of_decide_eq_true h)⟩, rfl⟩
end Go.Proofs.Ytedkhcjbppknpaa
