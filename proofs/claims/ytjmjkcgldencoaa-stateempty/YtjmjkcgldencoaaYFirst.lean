/-
  The first requests of a state; its heads.
-/
import Derived.Test.YtjmjkcgldencoaaYSt
namespace Go.Proofs.Ytjmjkcgldencoaa
open Go.RowKit

/-- as many as n, or as are nearest to n -/
def nearN (n : Int) (N : Nat) : Nat := (min (max n 0) (N : Int)).toNat
theorem nearN_le (n : Int) (N : Nat) : nearN n N ≤ N := by unfold nearN; omega
theorem nearN_int (n : Int) (N : Nat) : min (max n 0) (N : Int) = (nearN n N : Int) := by unfold nearN; omega
set_option maxRecDepth 100000 in
theorem slice_req (oa : Option Addr) (n cap k : Nat) (hk : k ≤ cap) (W : World) : (Instr.slice 28 (.slice oa n cap) none (some (.int .i64 (k : Int))) none).run Try.prog W = .ok (.slice oa k cap) W := by
  rw [run_slice_h W _ _ n cap Try.underlying28 .i64 (k : Int) (by omega) (by omega)]
  have hs : (sizeOf (Try.prog.elem 28)).run Try.prog W = .ok 5 W := by kernel_rfl
  rw [hs]
  simp only [Result.andThen_ok, sliced, Int.toNat_natCast, Nat.zero_mul, Nat.sub_zero]
  congr 2
  split
  · rfl
  · cases oa with
    | none => rfl
    | some a => simp [Addr.add]
section
attribute [-go_sem] loadVar
set_option maxRecDepth 100000 in
set_option maxHeartbeats 1000000 in
theorem first_any (oa : Option Addr) (N ca : Nat) (x y z u : Lst) (vb : Value) (n : Int) (hle : N ≤ ca) (hN : N ≤ 1000000) (hn : -9223372036854775808 ≤ n ∧ n ≤ 9223372036854775807) (w : World) :
    Calls Try.prog 19 #[.agg (cellsS (.slice oa N ca) x y z u vb), .int .i64 n] w fun e w' => e = .returned (.slice oa (nearN n N) ca) ∧ Below w.heap.size w w' := by
  obtain ⟨w0, hw0⟩ : ∃ w0, w.alloc (.cells (cellsS (.slice oa N ca) x y z u vb) 37) = w0 := ⟨_, rfl⟩
  have hb0 : Below w.heap.size w w0 := by rw [← hw0]; exact (Below.refl _ w).alloc (Nat.le_refl _) _
  have k0 : Blk w0 w.heap.size 37 (cellsS (.slice oa N ca) x y z u vb) := by rw [← hw0]; exact Blk.new _ _ _
  have l0 := sl_req (w := w0) (p := ⟨w.heap.size, 0, none⟩) (k0.cell 0)
  change (loadVar 28 _).run Try.prog w0 = .ok (.slice oa N ca) w0 at l0
  have HW0 := Lib.hid hw0
  have hk := nearN_le n N
  have hs := slice_req oa N ca (nearN n N) (by omega) w0
  have hm := nearN_int n N
  generalize nearN n N = k at *
  clear hw0 k0
  go_enter Try.func19, Try.ntmps19
  go_wp2_with (rw [HW0.out])
  go_ret
  exact ⟨rfl, hb0⟩
/-- the head of a number, and whether it is there -/
def headAt (hd : List Hd) (q : Int) : Hd × Bool := if 1 ≤ q ∧ q ≤ hd.length then (hd.getD (q.toNat - 1) default, true) else (default, false)
def zeroHd : Array Value := #[.int .i64 0, .int .i64 0, .int .i64 0, .string ⟨#[]⟩, .string ⟨#[]⟩]
theorem info5 : (Try.prog.info? 41).map (·.size) = some 5 := by kernel_rfl
theorem hd_one (a b c : Int) (d e : ByteArray) : ((#[.int .i64 a, .int .i64 b, .int .i64 c, .string d, .string e] : Array Value).all fun x => x.oneCell') = true := by simp [Value.oneCell']
set_option maxRecDepth 100000 in
set_option maxHeartbeats 1000000 in
theorem stHead_any (va : Value) (x y z u : Lst) (ob : Option Addr) (m cb : Nat) (hd : List Hd) (hm : hd.length = m) (hN : m ≤ 1000000) (q : Int) (hq : -9223372036854775808 ≤ q ∧ q ≤ 9223372036854775807) (w : World) (hD : RowG hdK w ob hd) :
    Calls Try.prog 7 #[.agg (cellsS va x y z u (.slice ob m cb)), .int .i64 q] w fun e w' => e = .returned (.tuple #[.agg (headAt hd q).1.enc.toArray, .bool (headAt hd q).2]) ∧ Below w.heap.size w w' := by
  obtain ⟨w0, hw0⟩ : ∃ w0, (w.alloc (.cells (cellsS va x y z u (.slice ob m cb)) 37)).alloc (.cells zeroHd 41) = w0 := ⟨_, rfl⟩
  have hb0 : Below w.heap.size w w0 := by rw [← hw0]; exact ((Below.refl _ w).alloc (Nat.le_refl _) _).alloc (by simp) _
  have k0 : Blk w0 w.heap.size 37 (cellsS va x y z u (.slice ob m cb)) := by rw [← hw0]; exact (Blk.new _ _ _).alloc _
  have k1 : Blk w0 (w.heap.size + 1) 41 zeroHd := by rw [← hw0]; exact Blk.new_at (by simp)
  have l0 := sl_hd (w := w0) (p := ⟨w.heap.size, 21, none⟩) (k0.cell 21)
  change (loadVar 35 _).run Try.prog w0 = .ok (.slice ob m cb) w0 at l0
  have hz : ∀ W : World, (zeroValue 41).run Try.prog W = .ok (.agg zeroHd) W := fun W => by kernel_rfl
  have hno : ¬ (1 ≤ q ∧ q ≤ (m : Int)) → (headAt hd q).1.enc.toArray = zeroHd ∧ (headAt hd q).2 = false := fun h => by
    unfold headAt
    rw [hm, if_neg h]
    exact ⟨rfl, rfl⟩
  have HI := Lib.hid (show (Try.prog.info? 41).map (·.size) = some zeroHd.size from info5)
  have HO := Lib.hid (show (zeroHd.all fun x => x.oneCell') = true from hd_one 0 0 0 ⟨#[]⟩ ⟨#[]⟩)
  have HZ := Lib.hid (show zeroHd = #[.int .i64 0, .int .i64 0, .int .i64 0, .string ⟨#[]⟩, .string ⟨#[]⟩] from rfl)
  have HK1 := Lib.hid k1
  have HW0 := Lib.hid hw0
  have HB0 := Lib.hid hb0
  by_cases hin : 1 ≤ q ∧ q ≤ (m : Int)
  · obtain ⟨j, rfl⟩ : ∃ j : Nat, q = (j : Int) + 1 := ⟨(q - 1).toNat, by omega⟩
    have hj : j < hd.length := by omega
    have hyes : (headAt hd ((j : Int) + 1)).1 = hd[j] ∧ (headAt hd ((j : Int) + 1)).2 = true := by
      unfold headAt
      rw [hm, if_pos hin, show ((j : Int) + 1).toNat - 1 = j by omega]
      refine ⟨?_, rfl⟩
      show hd.getD j default = hd[j]
      rw [List.getD_eq_getElem?_getD, List.getElem?_eq_getElem hj]
      rfl
    rw [hyes.1, hyes.2]
    obtain ⟨g, o, rfl, hg, c0, c1, c2, c3, c4⟩ := hd_at hD hj
    have hrow : RowG hdK w0 (some ⟨g, o, none⟩) hd := hD.below hb0
    have lh := RowG.load hdOk hrow (List.getElem?_eq_getElem hj)
    change (loadVar 41 ⟨g, o + j * 5, none⟩).run Try.prog w0 = .ok (.agg #[.int .i64 hd[j].q, .int .i64 hd[j].z, .int .i64 hd[j].t, .string hd[j].r, .string hd[j].m]) w0 at lh
    unfold Hd.enc
    obtain ⟨X, hX⟩ : ∃ X, hd[j] = X := ⟨_, rfl⟩
    rw [hX] at lh ⊢
    clear hyes c0 c1 c2 c3 c4
    clear hX
    obtain ⟨h1, h2, h3, h4, h5⟩ := X
    dsimp only at lh ⊢
    have hjm : (j : Int) < (m : Int) := by omega
    have t1 : ¬ ((j : Int) + 1 < 1) := by omega
    have t2 : ¬ ((m : Int) < (j : Int) + 1) := by omega
    have e1 : (j : Int) + 1 - 1 = (j : Int) := by omega
    clear hw0 k0 k1 hb0 hD hno hrow hin hm
    have HIX := Lib.hid (show (Try.prog.info? 41).map (·.size) = some (#[.int .i64 h1, .int .i64 h2, .int .i64 h3, .string h4, .string h5] : Array Value).size from info5)
    go_enter Try.func7, Try.ntmps7
    go_wp2_with (first
      | rw [HW0.out]
      | (refine wpList_store_row rfl 41 _ _ rfl (w.heap.size + 1) #[.int .i64 h1, .int .i64 h2, .int .i64 h3, .string h4, .string h5] rfl rfl 41 zeroHd HK1.out HIX.out rfl (hd_one _ _ _ _ _) ?_))
    have n5 := setRow_heap w0 (w.heap.size + 1) zeroHd #[.int .i64 h1, .int .i64 h2, .int .i64 h3, .string h4, .string h5] 41 (0, 0) HK1.out
    refine bodyPost_ret (results_row_tmp rfl _ _ (w.heap.size + 1) 41 #[.int .i64 h1, .int .i64 h2, .int .i64 h3, .string h4, .string h5] _ rfl n5 Try.underlying41 rfl HIX.out) rfl ?_
    exact ⟨rfl, HB0.out.grown (only_setRow (grown_refl _ _) _) HB0.out.size (fun k hk => by injection hk; omega)⟩
  · rw [(hno hin).1, (hno hin).2]
    have n5 := setRow_heap w0 (w.heap.size + 1) zeroHd zeroHd 41 (0, 0) HK1.out
    clear hw0 k0 k1 hb0 hD hno hm
    rcases (by omega : q < 1 ∨ (¬ q < 1 ∧ (m : Int) < q)) with t1 | ⟨t1, t2⟩
    all_goals
      clear hin
      go_enter Try.func7, Try.ntmps7
      go_wp2_with (first
        | rw [HW0.out]
        | (refine wpList_store_row rfl 41 _ _ rfl (w.heap.size + 1) zeroHd rfl rfl 41 zeroHd HK1.out HI.out rfl HO.out ?_))
      refine bodyPost_ret (results_row_tmp rfl _ _ (w.heap.size + 1) 41 zeroHd _ rfl n5 Try.underlying41 rfl HI.out) rfl ?_
      exact ⟨rfl, HB0.out.grown (only_setRow (grown_refl _ _) _) HB0.out.size (fun k hk => by injection hk; omega)⟩
end
end Go.Proofs.Ytjmjkcgldencoaa
