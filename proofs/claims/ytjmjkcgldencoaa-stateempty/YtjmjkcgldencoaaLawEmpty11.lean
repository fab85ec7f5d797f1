/-
  The law StateEmpty.
-/
import Derived.Test.YtjmjkcgldencoaaYEmpty
import Derived.Test.YtjmjkcgldencoaaYAw
namespace Go.Proofs.Ytjmjkcgldencoaa
open Go.RowKit

theorem tab_run {w : World} {g : Nat} (h : Blk w g 26 tabV) : (loadVar 26 ⟨g, 0, none⟩).run Try.prog w = .ok (.agg tabV) w :=
  run_loadVar_row w g 26 26 tabV (0, 0) _ h Try.underlying26 rfl (by rw [tabV_size]; exact infoTable)

section
attribute [-go_sem] loadVar
set_option maxRecDepth 100000 in
set_option maxHeartbeats 4000000 in
theorem law_empty11 (now : Int) (_ : -9223372036854775808 ≤ now ∧ now ≤ 9223372036854775807) (n : Int) (hn : -9223372036854775808 ≤ n ∧ n ≤ 9223372036854775807) (w : World) :
    Calls Try.prog 3 #[.int .i64 now, .int .i64 n] w fun e w' => e = .returned (.bool true) ∧ Below w.heap.size w w' := by
  have HAW := Lib.hid (fun W => awake11_any W)
  have HMK := Lib.hid (fun W => make_std W)
  have HCU := Lib.hid (fun W => cut0_any now W)
  have HHD : Hid (∀ W, Calls Try.prog 7 #[.agg zeroSt, .int .i64 n] W fun e w' => e = .returned (.tuple #[.agg #[.int .i64 0, .int .i64 0, .int .i64 0, .string ⟨#[]⟩, .string ⟨#[]⟩], .bool false]) ∧ Below W.heap.size W w') := Lib.hid fun W => by
    have key := stHead_any (.slice none 0 0) default default default default none 0 0 [] rfl (by decide) n hn W (RowG.nil W none)
    have e1 : headAt ([] : List Hd) n = (default, false) := by unfold headAt; rw [if_neg (by simp; omega)]
    rw [e1] at key
    exact key
  go_enter Try.func3, Try.ntmps3
  go_wp2_with fail
  refine (HMK.out _).mono ?_
  rintro e w1 ⟨rfl, hb1⟩
  obtain ⟨w2, hw2⟩ : ∃ w2, w1.alloc (.cells tabV 26) = w2 := ⟨_, rfl⟩
  have hb12 : Below w1.heap.size w1 w2 := by rw [← hw2]; exact (Below.refl _ w1).alloc (Nat.le_refl _) _
  have kT : Blk w2 w1.heap.size 26 tabV := by rw [← hw2]; exact Blk.new _ _ _
  have hb2 := hb1.trans (hb12.mono hb1.size)
  have HW2 := Lib.hid hw2
  have l1 := tab_run kT
  have zs := zeroS
  clear hw2 hb12 hb1
  go_wp2_with (refine wpList_store_row rfl 26 _ _ rfl w1.heap.size tabV rfl rfl 26 zero72 (Blk.new _ _ _) (by rw [tabV_size]; exact infoTable) (by kernel_rfl) (by kernel_rfl) ?_; rw [World.setRow_alloc_new, HW2.out])
  refine (HCU.out w2).mono ?_
  rintro e w3 ⟨C, oa, ob, ca, cb, rfl, hC, hb3⟩
  replace kT := kT.below hb3 kT.lt
  have hb4 := hb2.trans (hb3.mono hb2.size)
  obtain ⟨w4, hw4⟩ : ∃ w4, w3.alloc (.cells C 37) = w4 := ⟨_, rfl⟩
  have hb34 : Below w3.heap.size w3 w4 := by rw [← hw4]; exact (Below.refl _ w3).alloc (Nat.le_refl _) _
  have k6 : Blk w4 w3.heap.size 37 C := by rw [← hw4]; exact Blk.new _ _ _
  replace kT := kT.below hb34 kT.lt
  have hb5 := hb4.trans (hb34.mono hb4.size)
  have HI : Hid ((Try.prog.info? 37).map (·.size) = some C.size) := Lib.hid (by rw [hC]; exact infoS)
  have HZ : Hid (zeroSt.size = C.size) := Lib.hid (by rw [hC]; rfl)
  have HO : Hid ((C.all fun x => x.oneCell') = true) := Lib.hid (by rw [hC]; exact cellsS_one oa ob 0 0 ca cb _ _ _ _)
  have HS : Hid (C.size = 22) := Lib.hid (by rw [hC]; rfl)
  have HC := Lib.hid hC
  have HW4 := Lib.hid hw4
  clear hw4 hC l1 hb2 hb3 hb4 hb34
  go_wp2_with (refine wpList_store_row rfl 37 _ _ rfl w3.heap.size C rfl rfl 37 zeroSt (Blk.new _ _ _) HI.out HZ.out HO.out ?_; rw [World.setRow_alloc_new, HW4.out])
  refine (HHD.out w4).mono ?_
  rintro e w5 ⟨rfl, hb6⟩
  replace kT := kT.below hb6 kT.lt
  replace k6 := k6.below hb6 k6.lt
  have hlt6 := k6.lt
  have hltT := kT.lt
  have hb7 := hb5.trans (hb6.mono hb5.size)
  obtain ⟨w6, hw6⟩ : ∃ w6, w5.alloc (.cells zeroHd 41) = w6 := ⟨_, rfl⟩
  have hb56 : Below w5.heap.size w5 w6 := by rw [← hw6]; exact (Below.refl _ w5).alloc (Nat.le_refl _) _
  have k8 : Blk w6 w5.heap.size 41 zeroHd := by rw [← hw6]; exact Blk.new _ _ _
  replace kT := kT.below hb56 kT.lt
  replace k6 := k6.below hb56 k6.lt
  have hb8 := hb7.trans (hb56.mono hb7.size)
  obtain ⟨w7, hw7⟩ : ∃ w7, w6.setRow w5.heap.size #[.int .i64 0, .int .i64 0, .int .i64 0, .string ⟨#[]⟩, .string ⟨#[]⟩] = w7 := ⟨_, rfl⟩
  have hg7 : w6.grownBy w7 (some w5.heap.size) := by rw [← hw7]; exact only_setRow (grown_refl _ _) _
  replace kT := kT.grown hg7 (by intro e; injection e; omega)
  replace k6 := k6.grown hg7 (by intro e; injection e; omega)
  have hb9 := hb8.grown hg7 hb8.size (fun k hk => by injection hk with e; have := hb7.size; omega)
  have HK8 := Lib.hid k8
  have HW6 := Lib.hid hw6
  have HW7 := Lib.hid hw7
  have HB9 := Lib.hid hb9
  have HKT := Lib.hid kT
  have HK6 := Lib.hid k6
  clear hw6 hw7 hg7 hb56 hb5 hb6 hb7 hb8 hb9 kT k6 k8
  have hzh : ∀ W : World, (zeroValue 41).run Try.prog W = .ok (.agg zeroHd) W := fun W => by kernel_rfl
  go_wp2_with (first
    | rw [HW6.out]
    | (refine wpList_store_row rfl 41 _ _ rfl w5.heap.size #[.int .i64 0, .int .i64 0, .int .i64 0, .string ⟨#[]⟩, .string ⟨#[]⟩] rfl rfl 41 zeroHd (Blk.new _ _ _) info5 rfl (hd_one _ _ _ _ _) ?_; rw [HW6.out, HW7.out])
    | (refine wpList_store_row rfl 41 _ _ rfl w5.heap.size #[.int .i64 0, .int .i64 0, .int .i64 0, .string ⟨#[]⟩, .string ⟨#[]⟩] rfl rfl 41 zeroHd HK8.out info5 rfl (hd_one _ _ _ _ _) ?_; rw [HW7.out]))
  refine (HAW.out w7).mono ?_
  rintro e w8 ⟨rfl, hb10⟩
  have k6 := HK6.out.below hb10 HK6.out.lt
  have kT := HKT.out.below hb10 HKT.out.lt
  have hb11 := HB9.out.trans (hb10.mono HB9.out.size)
  have m1 := st_load HS.out k6
  have m2 := tab_run kT
  have m3 : (loadVar 35 ⟨w3.heap.size, 21, none⟩).run Try.prog w8 = .ok (.slice ob 0 cb) w8 := by
    have h := k6
    rw [HC.out] at h
    exact sl_hd (h.cell 21)
  have HLV : Hid (∀ W, Calls Try.prog 9 #[.agg C, .agg tabV, .int .i64 n] W fun e w' => e = .returned (.slice none 0 0) ∧ Below W.heap.size W w') := Lib.hid fun W => by
    rw [HC.out]
    exact leaves0_any oa ob ca cb default default default default n hn W
  have HMP : Hid (∀ W, Calls Try.prog 10 #[.agg C, .int .i64 n] W fun e w' => ∃ b, e = .returned (.map (some b)) ∧ w'.heap[b]? = some (.map #[] 0) ∧ Below W.heap.size W w') := Lib.hid fun W => by
    rw [HC.out]
    exact map0_any oa ob ca cb default default default default n hn W
  clear hb10 HB9
  go_wp2_with fail
  refine (HLV.out w8).mono ?_
  rintro e w9 ⟨rfl, hb12⟩
  have k6 := k6.below hb12 k6.lt
  have hb13 := hb11.trans (hb12.mono hb11.size)
  have m4 := st_load HS.out k6
  clear m1 m2 m3 hb11 hb12 kT
  go_wp2_with fail
  refine (HMP.out w9).mono ?_
  rintro e w10 ⟨b, rfl, hm, hb14⟩
  have hb15 := hb13.trans (hb14.mono hb13.size)
  clear m4
  have m5 : ∀ ty, (Builtin.len_ #[48] ty #[.map (some b)]).run Try.prog w10 = .ok (.int .i64 0) w10 := fun ty => by
    have hg : (getObj b).run Try.prog w10 = .ok (.map #[] 0) w10 := by simp [getObj, Sem.run, hm]
    simp [Builtin.len_, run_underlying Try.underlying48, hg, goInt]
  go_wp2_with fail
  go_ret
  exact ⟨by first | rfl | simp, hb15⟩
end
end Go.Proofs.Ytjmjkcgldencoaa
