/-
  Bits of strings: the program's closure, and the reference's Bit.
-/
import Derived.Test.YtjmjkcgldencoaaGreatSBitMSPairSRefAM
namespace Go.Proofs.YtjmjkcgldencoaaGreat
open Go.RowKit

set_option maxRecDepth 100000 in
theorem mask_any (i : Nat) (hi : i < 256) (w : World) : Calls Tryz.prog 89 #[.int .i64 i] w fun e w' => e = .returned (.int .u8 (2 ^ (7 - i % 8) : Nat)) ∧ w = w' := by
  have hm : i % 8 < 8 := Nat.mod_lt _ (by decide)
  have he : ((i : Int) % 8) = ((i % 8 : Nat) : Int) := by omega
  generalize i % 8 = m at *
  have HE := Lib.hid (show (128 : Int) / 2 ^ m = ((2 ^ (7 - m) : Nat) : Int) by
    have : ∀ m : Fin 8, (128 : Int) / 2 ^ m.val = ((2 ^ (7 - m.val) : Nat) : Int) := by decide +kernel
    exact this ⟨m, hm⟩)
  go_enter Tryz.func89, Tryz.ntmps89
  go_wp2
  go_ret
  refine ⟨?_, rfl⟩
  rw [← HE.out]
  rfl
set_option maxRecDepth 100000 in
set_option maxHeartbeats 400000 in
theorem bitf_any (c i : Nat) (hi : i < 256) (s : ByteArray) (hs : s.size = 32) (w : World) (hc : w.cell? ⟨c, 0, none⟩ = some (.int .i64 i)) :
    Calls Tryz.prog 88 #[.string s, .pointer (some ⟨c, 0, none⟩)] w fun e w' => e = .returned (.bool (bitS s i)) ∧ ∃ q, w' = w.drewN q := by
  have HM := Lib.hid (fun W => mask_any i hi W)
  obtain ⟨j, hj⟩ : ∃ j, i / 8 = j := ⟨_, rfl⟩
  have he : ((i : Int) / 8) = (j : Int) := by omega
  have hlt : j < s.size := by omega
  have hw : IntKind.i64.wrap (j : Int) = j := i64_small (by omega)
  have hx := str_idx s j hlt
  have HB := Lib.hid (show bitS s i = (((nums s).getD j 0 &&& 2 ^ (7 - i % 8)) != 0) by
    unfold bitS
    rw [hj]
    exact (and_mask _ _).symm)
  rw [HB.out]
  have hm : 2 ^ (7 - i % 8) < 256 := by
    have : 2 ^ (7 - i % 8) ≤ 2 ^ 7 := Nat.pow_le_pow_right (by decide) (by omega)
    omega
  generalize 2 ^ (7 - i % 8) = M at *
  have hX : (nums s).getD j 0 < 256 := by rw [nums_at s hlt]; exact UInt8.toNat_lt _
  generalize (nums s).getD j 0 = X at *
  have HA := Lib.hid (u8_and_nat X M hX hm)
  clear hj HB
  go_enter Tryz.func88, Tryz.ntmps88
  go_wp2
  go_quiet ((go_at_call 89; exact quiet_left (HM.out _)))
  rw [HA.out]
  go_wp2
  go_ret
  refine ⟨boolEq ?_, nq, rfl⟩
  rw [Bool.eq_iff_iff]
  simp
end Go.Proofs.YtjmjkcgldencoaaGreat
