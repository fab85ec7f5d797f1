/-
  bits.Len of small numbers; the parting of so many leaves: the program's.
-/
import Derived.Test.YtpapmcdnaplmkaaBase
import Derived.Shelf.Small.Bits
namespace Go.Proofs.Ytpapmcdnaplmkaa
open Go.RowKit

def mren : Go.Shelf.Ren := ⟨fun | 125 => 54 | 128 => 59 | 129 => 60 | n => n, fun | 3 => 3 | 4 => 4 | 5 => 5 | 9 => 9 | 46 => 78 | 51 => 32 | 53 => 61 | n => n, fun | n => n⟩
theorem mlays : Go.Proofs.Lays.n125 Try.prog mren := {
  mixed := by kernel_rfl
  f125 := Try.func54.trans (congrArg some (by kernel_rfl))
  f128 := Try.func59.trans (congrArg some (by kernel_rfl))
  f129 := Try.func60.trans (congrArg some (by kernel_rfl))
  t3 := Try.underlying3, a3 := Try.isAgg3, z3 := Try.sizeOf3, v3 := Try.zeroValue3
  t4 := Try.underlying4, a4 := Try.isAgg4, z4 := Try.sizeOf4, v4 := Try.zeroValue4
  t5 := Try.underlying5, a5 := Try.isAgg5, z5 := Try.sizeOf5, v5 := Try.zeroValue5
  t9 := Try.underlying9, a9 := Try.isAgg9, z9 := Try.sizeOf9, v9 := Try.zeroValue9
  t46 := Try.underlying78, a46 := Try.isAgg78, z46 := Try.sizeOf78, v46 := Try.zeroValue78
  t51 := Try.underlying32, a51 := Try.isAgg32, z51 := Try.sizeOf32, v51 := Try.zeroValue32
  t53 := Try.underlying61, a53 := Try.isAgg61, z53 := Try.sizeOf61, v53 := Try.zeroValue61 }
theorem len_small (x : Nat) (hx : x ≤ 255) (w : World) : Calls Try.prog 54 #[.int .u64 x] w fun e w' => e = .returned (.int .i64 (Lib.bitLen x : Nat)) ∧ w' = w := by
  have h := Any.bits_Len mlays (x : Int) w (by omega) (by omega)
  rw [Int.toNat_natCast] at h
  exact h

/-- the greatest power of two below n, from 2 on -/
def kM (n : Nat) : Nat := 2 ^ Nat.log2 (n - 1)
theorem kM_len : ∀ x : Fin 256, 1 ≤ x.val → 1 ≤ Lib.bitLen x.val ∧ Lib.bitLen x.val ≤ 8 ∧ 2 ^ (Lib.bitLen x.val - 1) = kM (x.val + 1) := by decide +kernel
set_option maxRecDepth 100000 in
theorem parting_any (n : Nat) (h2 : 2 ≤ n) (hn : n ≤ 256) (w : World) : Calls Try.prog 45 #[.int .i64 n] w fun e w' => e = .returned (.int .i64 (kM n : Nat)) ∧ w' = w := by
  obtain ⟨k1, k2, k3⟩ := kM_len ⟨n - 1, by omega⟩ (by show 1 ≤ n - 1; omega)
  have HL := Lib.hid (fun W => len_small (n - 1) (by omega) W)
  have e1 : n - 1 + 1 = n := by omega
  simp only [e1] at k1 k2 k3
  have e2 : ((n - 1 : Nat) : Int) = (n : Int) - 1 := by omega
  rw [e2] at HL
  have HK := Lib.hid k3
  generalize Lib.bitLen (n - 1) = b at *
  clear k3 e2 e1
  go_enter Try.func45, Try.ntmps45
  go_wp2_with (go_at_call 54; refine (HL.out _).mono ?_; rintro e w' ⟨rfl, rfl⟩)
  go_ret
  refine ⟨?_, rfl⟩
  rw [← HK.out]
  have hb : 2 ^ (b - 1) ≤ 2 ^ 7 := Nat.pow_le_pow_right (by decide) (by omega)
  have e : wrap64 ((2 : Int) ^ (b - 1)) = ((2 ^ (b - 1) : Nat) : Int) := by
    have h3 : ((2 ^ (b - 1) : Nat) : Int) = (2 : Int) ^ (b - 1) := by simp
    rw [← h3]
    generalize 2 ^ (b - 1) = p at *
    unfold wrap64
    omega
  show Ending.returned (Value.int IntKind.i64 (wrap64 ((2 : Int) ^ (b - 1)))) = _
  rw [e]
end Go.Proofs.Ytpapmcdnaplmkaa
