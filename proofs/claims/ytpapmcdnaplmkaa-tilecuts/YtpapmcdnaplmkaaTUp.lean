/-
  Cut at whatever place; Up; the reference's Hash.
-/
import Derived.Test.YtpapmcdnaplmkaaTCut
import Derived.Test.YtpapmcdnaplmkaaTRef
import Derived.Test.YtpapmcdnaplmkaaMRefRt
namespace Go.Proofs.Ytpapmcdnaplmkaa
open Go.RowKit

theorem cut_any (oa : Option Addr) (m c : Nat) (ss : List ByteArray) (hm : ss.length = m) (hm64 : m ≤ 64) (hc : m ≤ c) (hz : Sz ss) (level index : Int) (hi : -9223372036854775808 ≤ index ∧ index ≤ 9223372036854775807) (w : World) (hS : Strs w oa ss) :
    Calls Try.prog 15 #[.agg tabV, .slice oa m c, .agg #[.int .i64 level, .int .i64 index]] w (RC ss level index w) := by
  rcases Nat.eq_zero_or_pos (widT m level index) with h | h
  · exact cut_none oa m c ss hm level index hi h w
  · exact cut_some oa m c ss hm hm64 hc hz level index hi h w hS
set_option maxRecDepth 100000 in
theorem slice_two7 (oa : Option Addr) (n cap l q : Nat) (hq : 0 < q) (hh : l + q ≤ cap) (W : World) : (Instr.slice 30 (.slice oa n cap) (some (.int .i64 (l : Int))) (some (.int .i64 ((l : Int) + (q : Int)))) none).run Try.prog W = .ok (.slice (oa.map (·.add l)) q (cap - l)) W := by
  rw [run_slice_lh W _ _ n cap Try.underlying30 .i64 .i64 (l : Int) ((l : Int) + (q : Int)) (by omega) (by omega) (by omega)]
  have hs : (sizeOf (Try.prog.elem 30)).run Try.prog W = .ok 1 W := by kernel_rfl
  rw [hs]
  simp only [Result.andThen_ok, sliced, Int.toNat_natCast, Nat.mul_one]
  rw [show ((l : Int) + (q : Int)).toNat = l + q by omega, Nat.add_sub_cancel_left, if_neg (by omega)]
set_option maxRecDepth 100000 in
theorem rhash_any (oa : Option Addr) (m c : Nat) (ss : List ByteArray) (hm : ss.length = m) (hm64 : m ≤ 64) (hc : m ≤ c) (hz : Sz ss) (l k : Nat) (hl : l ≤ 3) (hk : (k + 1) * 4 ^ l ≤ m) (w : World) (hS : Strs w oa ss) :
    Calls Try.prog 20 #[.slice oa m c, .int .i64 (l : Int), .int .i64 (k : Int)] w fun e w' => e = .returned (.string (hashT ss l k)) ∧ Below w.heap.size w w' := by
  have HPW := Lib.hid (fun W => rpower_any l hl W)
  have hR : hashT ss l k = rootM ((ss.drop (k * 4 ^ l)).take (4 ^ l)) := rfl
  have hp0 : 0 < 4 ^ l := Nat.pow_pos (by decide)
  rw [Nat.add_mul, Nat.one_mul] at hk
  generalize hashT ss l k = R at *
  generalize 4 ^ l = p at *
  obtain ⟨st, hst⟩ : ∃ st, k * p = st := ⟨_, rfl⟩
  rw [hst] at hk hR
  have hA1 : (k : Int) * (p : Int) = (st : Int) := by rw [← hst, Int.natCast_mul]
  have hkm : k ≤ st := by
    have := Nat.mul_le_mul_left k hp0
    omega
  have h1 := slice_two7 oa m c st p hp0 (by omega)
  have HRT := Lib.hid (rroot_any p (oa.map (·.add st)) (c - st) ((ss.drop st).take p) (by rw [List.length_take, List.length_drop]; omega) (by omega) (by omega) ((hz.drop _).take _) w ((hS.drop st).take p))
  rw [← hR] at HRT
  clear hR hst hS hz hm
  go_enter Try.func20, Try.ntmps20
  go_wp2_with fail
  refine (HPW.out _).mono ?_
  rintro e w1 ⟨rfl, rfl⟩
  go_wp2_with fail
  refine HRT.out.mono ?_
  rintro e w2 ⟨rfl, hb2⟩
  go_wp2
  go_ret
  exact ⟨rfl, hb2⟩
section
attribute [-go_sem] loadVar
set_option maxRecDepth 100000 in
set_option maxHeartbeats 1000000 in
theorem up_few (x y : Int) (oa : Option Addr) (n c : Nat) (hn : n ≠ 4) (_hn2 : n ≤ 64) (w : World) :
    Calls Try.prog 21 #[.agg tabV, .agg #[.int .i64 x, .int .i64 y, .slice oa n c]] w fun e w' => e = .returned (.tuple #[.string ⟨#[]⟩, .int .i64 2]) ∧ Below w.heap.size w w' := by
  obtain ⟨w0, hw0⟩ : ∃ w0, (w.alloc (.cells tabV 36)).alloc (.cells #[.int .i64 x, .int .i64 y, .slice oa n c] 40) = w0 := ⟨_, rfl⟩
  have hb0 : Below w.heap.size w w0 := by rw [← hw0]; exact ((Below.refl _ w).alloc (Nat.le_refl _) _).alloc (by simp) _
  have hX : Blk w0 (w.heap.size + 1) 40 #[.int .i64 x, .int .i64 y, .slice oa n c] := by rw [← hw0]; exact Blk.new_at (by simp)
  have r0 := ld_sl7 (hX.cell 2)
  have HW0 := Lib.hid hw0
  have hne : ((n : Int) == 4) = false := by rw [beq_eq_false_iff_ne]; omega
  have hne2 : ((n : Int) != 4) = true := by simp [bne, hne]
  clear hw0 hX
  go_enter Try.func21, Try.ntmps21
  go_wp2_with (rw [HW0.out])
  refine bodyPost_ret (results_tmp2 rfl _ _ _) rfl ?_
  exact ⟨rfl, hb0⟩
set_option maxRecDepth 100000 in
set_option maxHeartbeats 1000000 in
theorem up_full (x y : Int) (oa : Option Addr) (c : Nat) (hc : 4 ≤ c) (ss : List ByteArray) (hn : ss.length = 4) (hz : Sz ss) (w : World) (hS : Strs w oa ss) :
    Calls Try.prog 21 #[.agg tabV, .agg #[.int .i64 x, .int .i64 y, .slice oa 4 c]] w fun e w' => e = .returned (.tuple #[.string (rootM ss), .int .i64 0]) ∧ Below w.heap.size w w' := by
  obtain ⟨w0, hw0⟩ : ∃ w0, (w.alloc (.cells tabV 36)).alloc (.cells #[.int .i64 x, .int .i64 y, .slice oa 4 c] 40) = w0 := ⟨_, rfl⟩
  have hb0 : Below w.heap.size w w0 := by rw [← hw0]; exact ((Below.refl _ w).alloc (Nat.le_refl _) _).alloc (by simp) _
  have hX : Blk w0 (w.heap.size + 1) 40 #[.int .i64 x, .int .i64 y, .slice oa 4 c] := by rw [← hw0]; exact Blk.new_at (by simp)
  have hT : Blk w0 w.heap.size 36 tabV := by rw [← hw0]; exact (Blk.new _ _ _).alloc _
  have r0 := ld_sl7 (hX.cell 2)
  have r1 := tab_run hT
  have HM := Lib.hid (mroot_any 4 oa c ss hn (by decide) hc hz w0 (hS.below hb0))
  have HW0 := Lib.hid hw0
  generalize rootM ss = R at *
  clear hw0 hX hT
  go_enter Try.func21, Try.ntmps21
  go_wp2_with (rw [HW0.out])
  refine HM.out.mono ?_
  rintro e w1 ⟨rfl, hb1⟩
  go_wp2
  refine bodyPost_ret (results_tmp2 rfl _ _ _) rfl ?_
  exact ⟨rfl, hb0.trans (hb1.mono hb0.size)⟩
end
end Go.Proofs.Ytpapmcdnaplmkaa
