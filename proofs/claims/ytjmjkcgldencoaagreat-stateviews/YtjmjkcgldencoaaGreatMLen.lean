/-
  bits.Len of small numbers; the parting of so many leaves: the program's.
-/
import Derived.Test.YtjmjkcgldencoaaGreatBaseTxt
import Derived.Shelf.Small.Bits
namespace Go.Proofs.YtjmjkcgldencoaaGreat
open Go.RowKit

def mren : Go.Shelf.Ren := ⟨fun | 125 => 72 | 128 => 84 | 129 => 85 | n => n, fun | 3 => 3 | 4 => 4 | 5 => 5 | 9 => 9 | 46 => 104 | 51 => 43 | 53 => 85 | n => n, fun | n => n⟩
theorem mlays : Go.Proofs.Lays.n125 Tryz.prog mren := {
  mixed := by kernel_rfl
  f125 := Tryz.func72.trans (congrArg some (by kernel_rfl))
  f128 := Tryz.func84.trans (congrArg some (by kernel_rfl))
  f129 := Tryz.func85.trans (congrArg some (by kernel_rfl))
  t3 := Tryz.underlying3, a3 := Tryz.isAgg3, z3 := Tryz.sizeOf3, v3 := Tryz.zeroValue3
  t4 := Tryz.underlying4, a4 := Tryz.isAgg4, z4 := Tryz.sizeOf4, v4 := Tryz.zeroValue4
  t5 := Tryz.underlying5, a5 := Tryz.isAgg5, z5 := Tryz.sizeOf5, v5 := Tryz.zeroValue5
  t9 := Tryz.underlying9, a9 := Tryz.isAgg9, z9 := Tryz.sizeOf9, v9 := Tryz.zeroValue9
  t46 := Tryz.underlying104, a46 := Tryz.isAgg104, z46 := Tryz.sizeOf104, v46 := Tryz.zeroValue104
  t51 := Tryz.underlying43, a51 := Tryz.isAgg43, z51 := Tryz.sizeOf43, v51 := Tryz.zeroValue43
  t53 := Tryz.underlying85, a53 := Tryz.isAgg85, z53 := Tryz.sizeOf85, v53 := Tryz.zeroValue85 }
theorem len_small (x : Nat) (hx : x ≤ 255) (w : World) : Calls Tryz.prog 72 #[.int .u64 x] w fun e w' => e = .returned (.int .i64 (Lib.bitLen x : Nat)) ∧ w' = w := by
  have h := Any.bits_Len mlays (x : Int) w (by omega) (by omega)
  rw [Int.toNat_natCast] at h
  exact h

/-- the greatest power of two below n, from 2 on -/
def kM (n : Nat) : Nat := 2 ^ Nat.log2 (n - 1)
theorem kM_len : ∀ x : Fin 256, 1 ≤ x.val → 1 ≤ Lib.bitLen x.val ∧ Lib.bitLen x.val ≤ 8 ∧ 2 ^ (Lib.bitLen x.val - 1) = kM (x.val + 1) := by decide +kernel
set_option maxRecDepth 100000 in
theorem parting_any (n : Nat) (h2 : 2 ≤ n) (hn : n ≤ 256) (w : World) : Calls Tryz.prog 56 #[.int .i64 n] w fun e w' => e = .returned (.int .i64 (kM n : Nat)) ∧ w' = w := by
  obtain ⟨k1, k2, k3⟩ := kM_len ⟨n - 1, by omega⟩ (by show 1 ≤ n - 1; omega)
  have HL := Lib.hid (fun W => len_small (n - 1) (by omega) W)
  have e1 : n - 1 + 1 = n := by omega
  simp only [e1] at k1 k2 k3
  have e2 : ((n - 1 : Nat) : Int) = (n : Int) - 1 := by omega
  rw [e2] at HL
  have HK := Lib.hid k3
  generalize Lib.bitLen (n - 1) = b at *
  clear k3 e2 e1
  go_enter Tryz.func56, Tryz.ntmps56
  go_wp2_with (go_at_call 72; refine (HL.out _).mono ?_; rintro e w' ⟨rfl, rfl⟩)
  go_ret
  refine ⟨?_, rfl⟩
  rw [← HK.out]
  have hb : 2 ^ (b - 1) ≤ 2 ^ 7 := Nat.pow_le_pow_right (by decide) (by omega)
  have e : wrap64 ((2 : Int) ^ (b - 1)) = ((2 ^ (b - 1) : Nat) : Int) := by
    have h3 : ((2 ^ (b - 1) : Nat) : Int) = (2 : Int) ^ (b - 1) := by simp
    rw [← h3]
    generalize 2 ^ (b - 1) = p at *
    unfold wrap64
    omega
  show Ending.returned (Value.int IntKind.i64 (wrap64 ((2 : Int) ^ (b - 1)))) = _
  rw [e]
end Go.Proofs.YtjmjkcgldencoaaGreat
