/-
  A digest's pad.
-/
import Derived.Test.YtigmkhgaoamdkaaPadMsg
import Derived.OwnWalk
import Derived.Maps.AppendAt
import Derived.Deep.LoopGhost
namespace Go.Proofs.Ytigmkhgaoamdkaa
open Go.RowKit

def b80 : ByteArray := ⟨#[128]⟩
def b00 : ByteArray := ⟨#[0]⟩
theorem byteInfo : (Try.prog.info? 5).map (fun i => (i.zero, i.size, i.bytes)) = some (some (.int .u8 0), 1, 1) := by kernel_rfl
theorem be8_spell (n k : Nat) : (n : Int) * 8 / 2 ^ (8 * (7 - k)) % 256 = ((n * 8 / 256 ^ (7 - k) % 256 : Nat) : Int) := by
  rw [show (256 : Nat) ^ (7 - k) = 2 ^ (8 * (7 - k)) by rw [Nat.pow_mul]]
  simp
theorem be8_take (n k : Nat) (h : k < 8) : ((be8 n).take (k + 1)).map U8 = ((be8 n).take k).map U8 ++ [.int .u8 ((n / 256 ^ (7 - k) % 256 : Nat) : Int)] := by
  rw [List.take_succ_eq_append_getElem (by rw [be8_length]; exact h), List.map_append]
  simp [be8, U8]
theorem only_far {a b c : World} {g ge : Nat} {o : Obj} (h : a.grownBy b (some g)) (k : (b.alloc o).grownBy c (some ge)) (hge : a.heap.size ≤ ge) : a.grownBy c (some g) :=
  ⟨k.os.trans h.os, k.tape.trans h.tape, k.output.trans h.output, Nat.le_trans h.size (Nat.le_trans (by simp) k.size), fun i hi hne =>
    (k.block i (by simp; have := h.size; omega) (by intro e; injection e; omega)).trans ((Below.heap_alloc b o i (Nat.lt_of_lt_of_le hi h.size)).trans (h.block i hi hne))⟩
theorem nums80 : nums b80 = [128] := by decide
theorem nums00 : nums b00 = [0] := by decide

set_option maxRecDepth 100000 in
set_option maxHeartbeats 1000000 in
theorem pad_any (g : Nat) (m : List Nat) (hn : m.length ≤ 72057594037927936) (w : World) (hd : Dig w g m) :
    Calls Try.prog 53 #[.pointer (some ⟨g, 0, none⟩)] w fun e w' => e = .returned (.tuple #[]) ∧ Dig w' g (padMsg m) ∧ w.grownBy w' (some g) := by
  have hc : w.cell? ⟨g, 136, none⟩ = some (.int .u64 (m.length : Nat)) := by
    obtain ⟨bs, h1, h2, h3, hb⟩ := hd
    exact (hb.cell 136).trans (digA_n (hstN_length _ _) h1)
  have hgl := hd.lt
  go_enter Try.func53, Try.ntmps53
  go_wp2_with fail
  refine (write_any g m b80 (by show m.length + 1 ≤ _; omega) _ hd).mono ?_
  rintro e w1 ⟨rfl, hd1, hg1⟩
  rw [nums80] at hd1
  clear hc hd
  have hzl := zs_lt m.length
  go_wp2
  go_loopg [12] (zs m.length) (fun k _ wr => ∃ z : Nat, Hid (z + k = zs m.length) ∧ z ≤ 64 ∧ Dig wr g (m ++ [128] ++ List.replicate z 0) ∧ w.grownBy wr (some g))
  case atStart => exact ⟨0, Lib.hid (by omega), by omega, by simpa using hd1, hg1⟩
  case round =>
    obtain ⟨z, HZ, hz64, hdz, hgz⟩ := hrel
    clear hd1 hg1
    have hlz : (m ++ [128] ++ List.replicate z 0).length = m.length + 1 + z := by simp; omega
    have hcz : wr.cell? ⟨g, 136, none⟩ = some (.int .u64 ((m.length + 1 + z : Nat) : Int)) := by
      obtain ⟨bs, h1, h2, h3, hb⟩ := hdz
      rw [← hlz]
      exact (hb.cell 136).trans (digA_n (hstN_length _ _) h1)
    have hfl := filled_any g (m.length + 1 + z) (by omega) wr hcz
    obtain ⟨q, hq⟩ : ∃ q, (m.length + 1 + z) % 64 = q := ⟨_, rfl⟩
    rw [hq] at hfl
    have HF := Lib.hid hfl
    have HLZ := Lib.hid hlz
    have HQ := Lib.hid hq
    clear hfl hlz hcz hq
    by_cases hk : z < zs m.length
    · have hne : ((q : Int) != 56) = true := by
        rw [bne_iff_ne]
        have := zs_least m.length z hk
        rw [HQ.out] at this
        omega
      go_wp2_with fail
      refine HF.out.mono ?_
      rintro e w' ⟨rfl, rfl⟩
      go_wp2_with fail
      refine (write_any g (m ++ [128] ++ List.replicate z 0) b00 (by rw [HLZ.out]; show _ + 1 ≤ _; omega) _ hdz).mono ?_
      rintro e w2 ⟨rfl, hd2, hg2⟩
      rw [nums00] at hd2
      have hg3 := only_trans hgz hg2
      go_wp2
      go_roundg (zs m.length - (z + 1))
      case measure => have := HZ.out; omega
      case rel =>
        refine ⟨z + 1, Lib.hid (by omega), by omega, ?_, hg3⟩
        rw [List.replicate_succ', ← List.append_assoc]
        exact hd2
    · have hz : z = zs m.length := by have := HZ.out; omega
      have hq56 : q = 56 := by rw [← HQ.out, hz]; exact zs_mod m.length
      subst hq56
      have hne : (((56 : Nat) : Int) != 56) = false := by decide
      have HE := Lib.hid hz
      clear hk hz
      go_wp2_with fail
      refine HF.out.mono ?_
      rintro e w' ⟨rfl, rfl⟩
      obtain ⟨i0, hi0, hz0, hz1, hz2⟩ := info_parts byteInfo
      go_wp2_with (refine wpList_make_own _ rfl _ _ 81 rfl w.heap.size 5 i0 _ 1 Try.underlying81 hi0 hz0 hz1 .i64 .i64 8 8 rfl rfl rfl (by rw [hz2]; omega) (by unfold maxLen; omega) hgz.size ?_; intro w3 hown3 hg3)
      have hd3 := hdz.grown hg3 (by simp)
      have hgw : w.grownBy w3 (some g) := only_trans hgz ⟨hg3.os, hg3.tape, hg3.output, hg3.size, fun i hi _ => hg3.block i hi (by simp)⟩
      have hge := hgz.size
      generalize wr.heap.size = ge at *
      go_loopw [3, 18] (fun v i wr => ∃ k : Nat, k ≤ 8 ∧ i = .int .i64 k ∧ v = .slice (some ⟨ge, 0, none⟩) k 8 ∧ wr.ownsRow w.heap.size 5 1 (.slice (some ⟨ge, 0, none⟩) k 8) k (((be8 (m.length * 8)).take k).map U8) ∧ Dig wr g (m ++ [128] ++ List.replicate z 0) ∧ w.grownBy wr (some g))
        (fun _ i _ => 8 - (intOf i).toNat)
      case atStart => exact ⟨0, by omega, rfl, rfl, by simpa using hown3, hd3, hgw⟩
      case round =>
        clear hown3 hd3 hgw hdz hgz hg3
        obtain ⟨k, hk, rfl, rfl, hown, hdk, hgk⟩ := hrel
        by_cases hlt : k < 8
        · have hlt' : (k : Int) < 8 := by omega
          have HS := Lib.hid (be8_spell m.length k)
          have HT := Lib.hid (be8_take (m.length * 8) k hlt)
          have hgne : some g ≠ some ge := by intro h; injection h; omega
          go_wp2_with (at_builtin; refine wpList_append_fits _ rfl (.tmp 21) (.tmp 28) 81 rfl w.heap.size 5 i0 1 Try.underlying81 hi0 hz1 ge k 8 _ rfl (hown.alloc _) ⟨wr.heap.size, 0, none⟩ 1 1 [.int .u8 (↑m.length * 8 / 2 ^ (8 * (7 - k)) % 256)] rfl rfl (cell_one_new _ _ _) (by simp [Value.oneCell']) (by omega) ?_; intro w4 hown4 hg4)
          have hd4 := (hdk.grown (World.grownBy_alloc wr _ none) (by simp)).grown hg4 hgne
          have hgw4 : w.grownBy w4 (some g) := only_far hgk hg4 hge
          rw [HS.out] at hown4
          go_roundw
          case rel => exact ⟨k + 1, by omega, by go_num, rfl, by rw [HT.out]; exact hown4, hd4, hgw4⟩
          case measure => simp [intOf]; omega
        · obtain rfl : k = 8 := by omega
          rw [List.take_of_length_le (by rw [be8_length]; omega)] at hown
          have hcv := conv_bytes (P := Try.prog) wr 81 5 9 Try.underlying81 Try.underlying5 Try.underlying9 w.heap.size ge 8 (be8 (m.length * 8)) (by rw [be8_length]; exact hown)
          rw [be8_length] at hcv
          have hw := write_any g (m ++ [128] ++ List.replicate z 0) (strN (be8 (m.length * 8))) (by rw [HLZ.out, strN_size, be8_length]; omega) _ hdk
          rw [nums_strN (be8_lt _)] at hw
          have HW := Lib.hid hw
          have HP := Lib.hid (show m ++ [128] ++ List.replicate z 0 ++ be8 (m.length * 8) = padMsg m by rw [HE.out]; rfl)
          clear hw hlt
          go_wp2_with fail
          refine HW.out.mono ?_
          rintro e w5 ⟨rfl, hd5, hg5⟩
          rw [HP.out] at hd5
          have hg6 := only_trans hgk hg5
          go_wp2
          go_end0
          exact ⟨rfl, hd5, hg6⟩
end Go.Proofs.Ytigmkhgaoamdkaa
