/-
  The empty state: Cut, Leaves and Map of it.
-/
import Derived.Test.YtjmjkcgldencoaaYState
import Derived.Test.YtjmjkcgldencoaaYCopied
import Derived.Test.YtjmjkcgldencoaaYFirst
import Derived.Test.YtjmjkcgldencoaaStd
import Derived.Deep.LoopGhost
import Derived.Deep.DeepCutAuto
import Derived.LoopIn
namespace Go.Proofs.Ytjmjkcgldencoaa
open Go.RowKit

section
attribute [-go_sem] loadVar
set_option maxRecDepth 100000 in
set_option maxHeartbeats 2000000 in
theorem leaves0_any (oa ob : Option Addr) (ca cb : Nat) (x y z u : Lst) (n : Int) (hn : -9223372036854775808 ≤ n ∧ n ≤ 9223372036854775807) (w : World) :
    Calls Try.prog 9 #[.agg (cellsS (.slice oa 0 ca) x y z u (.slice ob 0 cb)), .agg tabV, .int .i64 n] w fun e w' => e = .returned (.slice none 0 0) ∧ Below w.heap.size w w' := by
  have HF1 : Hid (∀ W, Calls Try.prog 19 #[.agg (cellsS (.slice oa 0 ca) x y z u (.slice ob 0 cb)), .int .i64 n] W fun e w' => e = .returned (.slice oa 0 ca) ∧ Below W.heap.size W w') := Lib.hid fun W => by
    have h := first_any oa 0 ca x y z u (.slice ob 0 cb) n (Nat.zero_le _) (by decide) hn W
    rw [show nearN n 0 = 0 from by have := nearN_le n 0; omega] at h
    exact h
  obtain ⟨w0, hw0⟩ : ∃ w0, (w.alloc (.cells (cellsS (.slice oa 0 ca) x y z u (.slice ob 0 cb)) 37)).alloc (.cells tabV 26) = w0 := ⟨_, rfl⟩
  have hb0 : Below w.heap.size w w0 := by rw [← hw0]; exact ((Below.refl _ w).alloc (Nat.le_refl _) _).alloc (by simp) _
  have k0 : Blk w0 w.heap.size 37 (cellsS (.slice oa 0 ca) x y z u (.slice ob 0 cb)) := by rw [← hw0]; exact (Blk.new _ _ _).alloc _
  have HW0 := Lib.hid hw0
  have l0 := st_load (cellsS_size _ _ _ _ _ _) k0
  clear hw0 k0
  generalize cellsS (.slice oa 0 ca) x y z u (.slice ob 0 cb) = C at *
  go_enter Try.func9, Try.ntmps9
  go_wp2_with (rw [HW0.out])
  refine (HF1.out w0).mono ?_
  rintro e w1 ⟨rfl, hb1⟩
  have hb2 := hb0.trans (hb1.mono hb0.size)
  clear l0 hb0 hb1
  go_wp2_with fail
  go_loopw [7, 14] (fun v i wr => v = .slice none 0 0 ∧ i = .int .i64 0 ∧ wr = w1) (fun _ _ _ => 0)
  case atStart => exact ⟨rfl, rfl, rfl⟩
  case round =>
    obtain ⟨rfl, rfl, rfl⟩ := hrel
    go_wp2_with fail
    go_ret
    exact ⟨rfl, hb2⟩
set_option maxRecDepth 100000 in
set_option maxHeartbeats 2000000 in
theorem map0_any (oa ob : Option Addr) (ca cb : Nat) (x y z u : Lst) (n : Int) (hn : -9223372036854775808 ≤ n ∧ n ≤ 9223372036854775807) (w : World) :
    Calls Try.prog 10 #[.agg (cellsS (.slice oa 0 ca) x y z u (.slice ob 0 cb)), .int .i64 n] w fun e w' => ∃ b, e = .returned (.map (some b)) ∧ w'.heap[b]? = some (.map #[] 0) ∧ Below w.heap.size w w' := by
  have HF1 : Hid (∀ W, Calls Try.prog 19 #[.agg (cellsS (.slice oa 0 ca) x y z u (.slice ob 0 cb)), .int .i64 n] W fun e w' => e = .returned (.slice oa 0 ca) ∧ Below W.heap.size W w') := Lib.hid fun W => by
    have h := first_any oa 0 ca x y z u (.slice ob 0 cb) n (Nat.zero_le _) (by decide) hn W
    rw [show nearN n 0 = 0 from by have := nearN_le n 0; omega] at h
    exact h
  have hmm := @run_makeMap Try.prog
  obtain ⟨w0, hw0⟩ : ∃ w0, w.alloc (.cells (cellsS (.slice oa 0 ca) x y z u (.slice ob 0 cb)) 37) = w0 := ⟨_, rfl⟩
  have hb0 : Below w.heap.size w w0 := by rw [← hw0]; exact (Below.refl _ w).alloc (Nat.le_refl _) _
  have k0 : Blk w0 w.heap.size 37 (cellsS (.slice oa 0 ca) x y z u (.slice ob 0 cb)) := by rw [← hw0]; exact Blk.new _ _ _
  obtain ⟨w1, hw1⟩ : ∃ w1, w0.alloc (.map #[] 0) = w1 := ⟨_, rfl⟩
  have hb01 : Below w0.heap.size w0 w1 := by rw [← hw1]; exact (Below.refl _ w0).alloc (Nat.le_refl _) _
  have hm0 : w1.heap[w0.heap.size]? = some (.map #[] 0) := by rw [← hw1]; exact heap_alloc_new w0 _
  have hsz : w0.heap.size < w1.heap.size := by rw [← hw1]; simp
  have hb1 := hb0.trans (hb01.mono hb0.size)
  have l0 := st_load (cellsS_size _ _ _ _ _ _) (k0.below hb01 k0.lt)
  have HW0 := Lib.hid hw0
  have HW1 := Lib.hid hw1
  clear hw0 hw1 k0 hb0 hb01
  generalize cellsS (.slice oa 0 ca) x y z u (.slice ob 0 cb) = C at *
  go_enter Try.func10, Try.ntmps10
  go_wp2_with (first | rw [HW0.out] | rw [HW1.out])
  refine (HF1.out w1).mono ?_
  rintro e w2 ⟨rfl, hb2⟩
  have hm2 := (hb2.block _ hsz).trans hm0
  have hb3 := hb1.trans (hb2.mono hb1.size)
  clear l0 hmm
  go_wp2_with fail
  go_loopw [13] (fun i wr => i = .int .i64 0 ∧ wr = w2) (fun _ _ => 0)
  case atStart => exact ⟨rfl, rfl⟩
  case round =>
    obtain ⟨rfl, rfl⟩ := hrel
    go_wp2_with fail
    go_ret
    exact ⟨_, rfl, hm2, hb3⟩
set_option maxRecDepth 100000 in
set_option maxHeartbeats 2000000 in
theorem cut0_any (now : Int) (w : World) :
    Calls Try.prog 6 #[.agg zeroSt, .agg tabV, .int .i64 now] w fun e w' => ∃ (cs : Array Value) (oa ob : Option Addr) (ca cb : Nat), e = .returned (.tuple #[.agg cs, .bool false]) ∧ cs = cellsS (.slice oa 0 ca) default default default default (.slice ob 0 cb) ∧ Below w.heap.size w w' := by
  have HCP : Hid (∀ W, Calls Try.prog 16 #[.agg zeroSt] W fun e w' => ∃ (cs : Array Value) (oa ob : Option Addr) (ca cb : Nat), e = .returned (.agg cs) ∧ cs = cellsS (.slice oa 0 ca) default default default default (.slice ob 0 cb) ∧ Below W.heap.size W w') := Lib.hid fun W => by
    refine (copied_any 0 (.slice none 0 0) (.slice none 0 0) default default default default [] [] (by decide) (by decide) W (slB_nil W 0) (slB_nil W 0)).mono ?_
    rintro e w' ⟨a, b, B, rfl, h1, h2, _, _, _, hb⟩
    obtain ⟨oa, ca, rfl, _⟩ := h1.form reqOk
    obtain ⟨ob, cb, rfl, _⟩ := h2.form hdOk
    exact ⟨_, oa, ob, ca, cb, rfl, rfl, hb⟩
  have HHD : Hid (∀ W, Calls Try.prog 7 #[.agg zeroSt, .int .i64 0] W fun e w' => e = .returned (.tuple #[.agg #[.int .i64 0, .int .i64 0, .int .i64 0, .string ⟨#[]⟩, .string ⟨#[]⟩], .bool false]) ∧ Below W.heap.size W w') := Lib.hid fun W =>
    stHead_any (.slice none 0 0) default default default default none 0 0 [] rfl (by decide) 0 (by decide) W (RowG.nil W none)
  obtain ⟨w0, hw0⟩ : ∃ w0, ((w.alloc (.cells zeroSt 37)).alloc (.cells tabV 26)).alloc (.cells zeroSt 37) = w0 := ⟨_, rfl⟩
  have hb0 : Below w.heap.size w w0 := by rw [← hw0]; exact (((Below.refl _ w).alloc (Nat.le_refl _) _).alloc (by simp) _).alloc (by simp; omega) _
  have k0 : Blk w0 w.heap.size 37 zeroSt := by rw [← hw0]; exact ((Blk.new _ _ _).alloc _).alloc _
  have k2 : Blk w0 (w.heap.size + 1 + 1) 37 zeroSt := by rw [← hw0]; exact Blk.new_at (by simp)
  have HW0 := Lib.hid hw0
  have l0 := st_load rfl k0
  have zs := zeroS
  clear hw0
  go_enter Try.func6, Try.ntmps6
  go_wp2_with (rw [HW0.out])
  refine (HCP.out w0).mono ?_
  rintro e w1 ⟨C1, oa, ob, ca, cb, rfl, hC1, hb1⟩
  replace k0 := k0.below hb1 k0.lt
  replace k2 := k2.below hb1 k2.lt
  have hb2 := hb0.trans (hb1.mono hb0.size)
  obtain ⟨w2, hw2⟩ : ∃ w2, w1.alloc (.cells C1 37) = w2 := ⟨_, rfl⟩
  have hb12 : Below w1.heap.size w1 w2 := by rw [← hw2]; exact (Below.refl _ w1).alloc (Nat.le_refl _) _
  have k8 : Blk w2 w1.heap.size 37 C1 := by rw [← hw2]; exact Blk.new _ _ _
  replace k0 := k0.below hb12 k0.lt
  replace k2 := k2.below hb12 k2.lt
  have hb3 := hb2.trans (hb12.mono hb2.size)
  have HI1 : Hid ((Try.prog.info? 37).map (·.size) = some C1.size) := Lib.hid (by rw [hC1]; exact infoS)
  have HZ1 : Hid (zeroSt.size = C1.size) := Lib.hid (by rw [hC1]; rfl)
  have HO1 : Hid ((C1.all fun x => x.oneCell') = true) := Lib.hid (by rw [hC1]; exact cellsS_one oa ob 0 0 ca cb _ _ _ _)
  have HS1 : Hid (C1.size = 22) := Lib.hid (by rw [hC1]; rfl)
  have HC1 := Lib.hid hC1
  have HW2 := Lib.hid hw2
  have l1 := sl_req (w := w2) (p := ⟨w.heap.size, 0, none⟩) (k0.cell 0)
  have l2 := sl_hd (w := w2) (p := ⟨w.heap.size, 21, none⟩) (k0.cell 21)
  change (loadVar 28 _).run Try.prog w2 = .ok (.slice none 0 0) w2 at l1
  change (loadVar 35 _).run Try.prog w2 = .ok (.slice none 0 0) w2 at l2
  have l3 := st_load rfl k0
  clear l0 hC1 hw2 hb0 hb1 hb2 hb12
  go_wp2_with (refine wpList_store_row rfl 37 _ _ rfl w1.heap.size C1 rfl rfl 37 zeroSt (Blk.new _ _ _) HI1.out HZ1.out HO1.out ?_; rw [World.setRow_alloc_new, HW2.out])
  refine (HHD.out w2).mono ?_
  rintro e w3 ⟨rfl, hb4⟩
  replace k2 := k2.below hb4 k2.lt
  replace k8 := k8.below hb4 k8.lt
  have hlt2 := k2.lt
  have hlt8 := k8.lt
  have hb5 := hb3.trans (hb4.mono hb3.size)
  obtain ⟨w4, hw4⟩ : ∃ w4, w3.alloc (.cells #[.int .i64 0, .int .i64 0, .int .i64 0, .string ⟨#[]⟩, .string ⟨#[]⟩] 41) = w4 := ⟨_, rfl⟩
  have hb34 : Below w3.heap.size w3 w4 := by rw [← hw4]; exact (Below.refl _ w3).alloc (Nat.le_refl _) _
  have k9 : Blk w4 w3.heap.size 41 #[.int .i64 0, .int .i64 0, .int .i64 0, .string ⟨#[]⟩, .string ⟨#[]⟩] := by rw [← hw4]; exact Blk.new _ _ _
  replace k2 := k2.below hb34 k2.lt
  replace k8 := k8.below hb34 k8.lt
  have hb6 := hb5.trans (hb34.mono hb5.size)
  have HK9 := Lib.hid k9
  have g29 : w.heap.size + 1 + 1 < w3.heap.size := hlt2
  have g89 : w1.heap.size < w3.heap.size := hlt8
  obtain ⟨w5, hw5⟩ : ∃ w5, w4.setRow w3.heap.size #[.int .i64 0, .int .i64 0, .int .i64 0, .string ⟨#[]⟩, .string ⟨#[]⟩] = w5 := ⟨_, rfl⟩
  have hg5 : w4.grownBy w5 (some w3.heap.size) := by rw [← hw5]; exact only_setRow (grown_refl _ _) _
  replace k2 := k2.grown hg5 (by intro e; injection e; omega)
  replace k8 := k8.grown hg5 (by intro e; injection e; omega)
  replace k9 : Blk w5 w3.heap.size 41 #[.int .i64 0, .int .i64 0, .int .i64 0, .string ⟨#[]⟩, .string ⟨#[]⟩] := by rw [← hw5]; exact setRow_heap w4 w3.heap.size #[.int .i64 0, .int .i64 0, .int .i64 0, .string ⟨#[]⟩, .string ⟨#[]⟩] #[.int .i64 0, .int .i64 0, .int .i64 0, .string ⟨#[]⟩, .string ⟨#[]⟩] 41 (0, 0) HK9.out
  replace hb6 := hb6.grown hg5 hb6.size (fun k hk => by injection hk with e; have := hb5.size; omega)
  have HW5 := Lib.hid hw5
  have n1 := num_load (k9.cell 1)
  change (loadVar 3 ⟨w3.heap.size, 1, none⟩).run Try.prog w5 = .ok (.int .i64 0) w5 at n1
  have l5 := st_load HS1.out k8
  have HW4 := Lib.hid hw4
  have HK2 := Lib.hid k2
  have HB6 := Lib.hid hb6
  clear l1 l2 l3 hw4 hw5 hg5 k0 k2 k8 k9 hb3 hb4 hb5 hb6 hb34
  go_wp2_with (first
    | rw [HW4.out]
    | (refine wpList_store_row rfl 41 _ _ rfl w3.heap.size #[.int .i64 0, .int .i64 0, .int .i64 0, .string ⟨#[]⟩, .string ⟨#[]⟩] rfl rfl 41 #[.int .i64 0, .int .i64 0, .int .i64 0, .string ⟨#[]⟩, .string ⟨#[]⟩] (Blk.new _ _ _) info5 rfl (hd_one _ _ _ _ _) ?_; rw [World.setRow_alloc_new, HW4.out])
    | (refine wpList_store_row rfl 41 _ _ rfl w3.heap.size #[.int .i64 0, .int .i64 0, .int .i64 0, .string ⟨#[]⟩, .string ⟨#[]⟩] rfl rfl 41 #[.int .i64 0, .int .i64 0, .int .i64 0, .string ⟨#[]⟩, .string ⟨#[]⟩] HK9.out info5 rfl (hd_one _ _ _ _ _) ?_; rw [HW5.out])
    | (refine wpList_store_row rfl 37 _ _ rfl (w.heap.size + 1 + 1) C1 rfl rfl 37 zeroSt HK2.out HI1.out HZ1.out HO1.out ?_))
  have n4 := setRow_heap w5 (w.heap.size + 1 + 1) zeroSt C1 37 (0, 0) HK2.out
  refine bodyPost_ret (results_row_tmp rfl _ _ (w.heap.size + 1 + 1) 37 C1 _ rfl n4 Try.underlying37 rfl HI1.out) rfl ?_
  exact ⟨C1, oa, ob, ca, cb, rfl, HC1.out, HB6.out.grown (only_setRow (grown_refl w5 (some (w.heap.size + 1 + 1))) C1) HB6.out.size (fun k hk => by injection hk with e; omega)⟩
end
end Go.Proofs.Ytjmjkcgldencoaa
