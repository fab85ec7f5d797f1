/-
  Layer 8: the parting of so many leaves, the part that a leaf is in, the text of a node.
-/
import Derived.Test.YtfhfmfcmkiobdaaCMath
import Derived.Test.YtfhfmfcmkiobdaaTxt
import Derived.Shelf.Small.Bits
import Derived.OwnWalk
namespace Go.Proofs.Ytfhfmfcmkiobdaa
open Go.RowKit

def cren : Go.Shelf.Ren := ⟨fun | 125 => 54 | 128 => 56 | 129 => 57 | n => n, fun | 3 => 3 | 4 => 4 | 5 => 5 | 9 => 9 | 46 => 89 | 51 => 92 | 53 => 71 | n => n, fun | n => n⟩
theorem clays : Go.Proofs.Lays.n125 Try.prog cren := {
  mixed := by kernel_rfl
  f125 := Try.func54.trans (congrArg some (by kernel_rfl))
  f128 := Try.func56.trans (congrArg some (by kernel_rfl))
  f129 := Try.func57.trans (congrArg some (by kernel_rfl))
  t3 := Try.underlying3, a3 := Try.isAgg3, z3 := Try.sizeOf3, v3 := Try.zeroValue3
  t4 := Try.underlying4, a4 := Try.isAgg4, z4 := Try.sizeOf4, v4 := Try.zeroValue4
  t5 := Try.underlying5, a5 := Try.isAgg5, z5 := Try.sizeOf5, v5 := Try.zeroValue5
  t9 := Try.underlying9, a9 := Try.isAgg9, z9 := Try.sizeOf9, v9 := Try.zeroValue9
  t46 := Try.underlying89, a46 := Try.isAgg89, z46 := Try.sizeOf89, v46 := Try.zeroValue89
  t51 := Try.underlying92, a51 := Try.isAgg92, z51 := Try.sizeOf92, v51 := Try.zeroValue92
  t53 := Try.underlying71, a53 := Try.isAgg71, z53 := Try.sizeOf71, v53 := Try.zeroValue71 }
theorem clen_any (x : Nat) (hx : x ≤ 1048576) (w : World) : Calls Try.prog 54 #[.int .u64 x] w fun e w' => e = .returned (.int .i64 (Lib.bitLen x : Nat)) ∧ w' = w := by
  have h := Any.bits_Len clays (x : Int) w (by omega) (by omega)
  rw [Int.toNat_natCast] at h
  exact h
set_option maxRecDepth 100000 in
theorem cparting_any (n : Nat) (h2 : 2 ≤ n) (hn : n ≤ 1048576) (w : World) : Calls Try.prog 46 #[.int .i64 n] w fun e w' => e = .returned (.int .i64 (kC n : Nat)) ∧ w' = w := by
  obtain ⟨k1, k2, k3⟩ := kC_bit h2 hn
  have HL := Lib.hid (fun W => clen_any (n - 1) (by omega) W)
  have e2 : ((n - 1 : Nat) : Int) = (n : Int) - 1 := by omega
  rw [e2] at HL
  have HK := Lib.hid k3
  generalize Lib.bitLen (n - 1) = b at *
  clear k3 e2
  go_enter Try.func46, Try.ntmps46
  go_wp2_with (go_at_call 54; refine (HL.out _).mono ?_; rintro e w' ⟨rfl, rfl⟩)
  go_ret
  refine ⟨?_, rfl⟩
  rw [← HK.out]
  have hb : 2 ^ (b - 1) ≤ 2 ^ 19 := Nat.pow_le_pow_right (by decide) (by omega)
  have e : wrap64 ((2 : Int) ^ (b - 1)) = ((2 ^ (b - 1) : Nat) : Int) := by
    have h3 : ((2 ^ (b - 1) : Nat) : Int) = (2 : Int) ^ (b - 1) := by simp
    rw [← h3]
    generalize 2 ^ (b - 1) = p at *
    unfold wrap64
    omega
  show Ending.returned (Value.int IntKind.i64 (wrap64 ((2 : Int) ^ (b - 1)))) = _
  rw [e]
/-- the part that the leaf i of n is in -/
def partV (i n : Nat) : Value := if i < kC n then .tuple #[.bool false, .int .i64 i, .int .i64 (kC n : Nat)] else .tuple #[.bool true, .int .i64 ((i - kC n : Nat) : Int), .int .i64 ((n - kC n : Nat) : Int)]
set_option maxRecDepth 100000 in
theorem cpart_any (i n : Nat) (hi : i < n) (h2 : 2 ≤ n) (hn : n ≤ 1048576) (w : World) : Calls Try.prog 47 #[.int .i64 i, .int .i64 n] w fun e w' => e = .returned (partV i n) ∧ w' = w := by
  have HP := Lib.hid (fun W => cparting_any n h2 hn W)
  have hk1 := kC_pos n
  have hk2 := kC_lt h2
  unfold partV
  generalize kC n = k at *
  by_cases hlt : i < k
  · rw [if_pos hlt]
    have hlt' : (i : Int) < (k : Int) := by omega
    go_enter Try.func47, Try.ntmps47
    go_wp2_with (go_at_call 46; refine (HP.out _).mono ?_; rintro e w' ⟨rfl, rfl⟩)
    go_ret3
    exact ⟨rfl, rfl⟩
  · rw [if_neg hlt]
    have hlt' : ¬ (i : Int) < (k : Int) := by omega
    have e1 : ((i - k : Nat) : Int) = (i : Int) - k := by omega
    have e2 : ((n - k : Nat) : Int) = (n : Int) - k := by omega
    rw [e1, e2]
    clear e1 e2
    go_enter Try.func47, Try.ntmps47
    go_wp2_with (go_at_call 46; refine (HP.out _).mono ?_; rintro e w' ⟨rfl, rfl⟩)
    go_ret3
    exact ⟨rfl, rfl⟩
theorem nodC_true (m q : ByteArray) : nodC true m q = ⟨#[1]⟩ ++ q ++ m := rfl
theorem nodC_false (m q : ByteArray) : nodC false m q = ⟨#[1]⟩ ++ m ++ q := rfl
theorem node_any (b : Bool) (m q : ByteArray) (hm : m.size ≤ 1000) (hq : q.size ≤ 1000) (w : World) : Calls Try.prog 44 #[.bool b, .string m, .string q] w fun e w' => e = .returned (.string (nodC b m q)) ∧ w' = w := by
  have s1 : (⟨#[1]⟩ : ByteArray).size = 1 := rfl
  cases b
  · have a1 := addRun (a := ⟨#[1]⟩) (b := m) (by omega)
    have a2 := addRun (a := ⟨#[1]⟩ ++ m) (b := q) (by rw [ByteArray.size_append]; omega)
    rw [nodC_false]
    go_enter Try.func44, Try.ntmps44
    go_wp2
    go_ret
    exact ⟨rfl, rfl⟩
  · have a1 := addRun (a := ⟨#[1]⟩) (b := q) (by omega)
    have a2 := addRun (a := ⟨#[1]⟩ ++ q) (b := m) (by rw [ByteArray.size_append]; omega)
    rw [nodC_true]
    go_enter Try.func44, Try.ntmps44
    go_wp2
    go_ret
    exact ⟨rfl, rfl⟩
theorem nodC_size {b : Bool} {m q : ByteArray} (hm : m.size ≤ 40) (hq : q.size ≤ 40) : (nodC b m q).size ≤ 81 := by
  cases b
  · rw [nodC_false, ByteArray.size_append, ByteArray.size_append]; have : (⟨#[1]⟩ : ByteArray).size = 1 := rfl; omega
  · rw [nodC_true, ByteArray.size_append, ByteArray.size_append]; have : (⟨#[1]⟩ : ByteArray).size = 1 := rfl; omega
end Go.Proofs.Ytfhfmfcmkiobdaa
