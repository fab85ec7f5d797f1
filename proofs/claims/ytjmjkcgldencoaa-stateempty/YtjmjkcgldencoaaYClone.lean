/-
  slices.Clone of requests, and of heads.
-/
import Derived.Test.YtjmjkcgldencoaaYSt
namespace Go.Proofs.Ytjmjkcgldencoaa
open Go.RowKit

set_option maxRecDepth 100000 in
set_option maxHeartbeats 1000000 in
theorem clone_reqs (oa : Option Addr) (n c : Nat) (ts : List Req) (hn : ts.length = n) (hlen : n ≤ 1048576) (hle : n ≤ c) (hna : oa = none → c = 0) (w : World) (ha : RowG reqK w oa ts) :
    Calls Try.prog 26 #[.slice oa n c] w (RG reqK ts w) := by
  have q : ∀ (W : World) (a : Option Addr) (n c n' c' : Nat), (binOp .eql 28 (.slice a n c) (.slice none n' c')).run Try.prog W = .ok (.bool a.isNone) W := fun W a n c n' c' => Lib.run_eql_slice_nil W _ _ a n c n' c' Try.underlying28
  have HRT := Lib.hid (show ∀ e w', RG reqK ts w e w' = ∃ v, e = .returned v ∧ OwnG reqK w' w.heap.size v ts ∧ Below w.heap.size w w' from fun _ _ => rfl)
  cases oa with
  | none =>
    obtain rfl : c = 0 := hna rfl
    obtain rfl : n = 0 := by omega
    obtain rfl : ts = [] := List.length_eq_zero_iff.1 hn
    generalize RG reqK [] w = PO at *
    go_enter Try.func26, Try.ntmps26
    go_wp2
    rw [HRT.out]
    exact ⟨_, rfl, ownG_nil _ _, Below.refl _ _⟩
  | some a =>
    have hm0 : OwnG reqK (w.alloc (.cells #[] 55)) w.heap.size (.slice (some ⟨w.heap.size, 0, none⟩) 0 0) [] := ownG_lit reqOk w w.heap.size (Nat.le_refl _)
    have hB0 := (Below.refl _ w).alloc (Nat.le_refl _) (.cells #[] 55)
    obtain ⟨v', w', hr, hown', hg'⟩ := append_g reqOk hm0 (some a) n c hn (ha.below hB0) (fun _ h => by cases h) (by simp; omega) (by simp)
    have hr : (Builtin.append_ #[28, 28] 28 #[.slice (some ⟨w.heap.size, 0, none⟩) 0 0, .slice (some a) n c]).run Try.prog (w.alloc (.cells #[] 55)) = .ok v' w' := hr
    have hB' := ownG_below hB0 hm0 (Nat.le_refl _) hg'
    have HO := Lib.hid hown'
    generalize RG reqK ts w = PO at *
    clear hown' hg' hm0
    go_enter Try.func26, Try.ntmps26
    go_wp2_with (at_builtin; refine Lib.wpList_append_run _ rfl _ _ 28 28 rfl _ _ rfl rfl _ _ hr ?_)
    go_wp2
    rw [HRT.out]
    exact ⟨_, rfl, by simpa using HO.out, hB'⟩
set_option maxRecDepth 100000 in
set_option maxHeartbeats 1000000 in
theorem clone_heads (oa : Option Addr) (n c : Nat) (ts : List Hd) (hn : ts.length = n) (hlen : n ≤ 1048576) (hle : n ≤ c) (hna : oa = none → c = 0) (w : World) (ha : RowG hdK w oa ts) :
    Calls Try.prog 27 #[.slice oa n c] w (RG hdK ts w) := by
  have q : ∀ (W : World) (a : Option Addr) (n c n' c' : Nat), (binOp .eql 35 (.slice a n c) (.slice none n' c')).run Try.prog W = .ok (.bool a.isNone) W := fun W a n c n' c' => Lib.run_eql_slice_nil W _ _ a n c n' c' Try.underlying35
  have HRT := Lib.hid (show ∀ e w', RG hdK ts w e w' = ∃ v, e = .returned v ∧ OwnG hdK w' w.heap.size v ts ∧ Below w.heap.size w w' from fun _ _ => rfl)
  cases oa with
  | none =>
    obtain rfl : c = 0 := hna rfl
    obtain rfl : n = 0 := by omega
    obtain rfl : ts = [] := List.length_eq_zero_iff.1 hn
    generalize RG hdK [] w = PO at *
    go_enter Try.func27, Try.ntmps27
    go_wp2
    rw [HRT.out]
    exact ⟨_, rfl, ownG_nil _ _, Below.refl _ _⟩
  | some a =>
    have hm0 : OwnG hdK (w.alloc (.cells #[] 41)) w.heap.size (.slice (some ⟨w.heap.size, 0, none⟩) 0 0) [] := ownG_lit hdOk w w.heap.size (Nat.le_refl _)
    have hB0 := (Below.refl _ w).alloc (Nat.le_refl _) (.cells #[] 41)
    obtain ⟨v', w', hr, hown', hg'⟩ := append_g hdOk hm0 (some a) n c hn (ha.below hB0) (fun _ h => by cases h) (by simp; omega) (by simp)
    have hr : (Builtin.append_ #[35, 35] 35 #[.slice (some ⟨w.heap.size, 0, none⟩) 0 0, .slice (some a) n c]).run Try.prog (w.alloc (.cells #[] 41)) = .ok v' w' := hr
    have hB' := ownG_below hB0 hm0 (Nat.le_refl _) hg'
    have HO := Lib.hid hown'
    generalize RG hdK ts w = PO at *
    clear hown' hg' hm0
    go_enter Try.func27, Try.ntmps27
    go_wp2_with (at_builtin; refine Lib.wpList_append_run _ rfl _ _ 35 35 rfl _ _ rfl rfl _ _ hr ?_)
    go_wp2
    rw [HRT.out]
    exact ⟨_, rfl, by simpa using HO.out, hB'⟩
end Go.Proofs.Ytjmjkcgldencoaa
