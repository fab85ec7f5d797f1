/-
  The walk of the law OtsSigns.
-/
import Derived.Test.YtdbfkkopolhpaaaOLaw
import Derived.Test.YtdbfkkopolhpaaaORef3
namespace Go.Proofs.Ytdbfkkopolhpaaa
open Go.RowKit

theorem signed_yes (seed : ByteArray) (q : Nat) (m : ByteArray) (hq : q < 8) : verV (nodeB seed 3 0) m (signB seed q m) = .returned (.tuple #[.int .i64 (q : Nat), .bool true]) := by
  have hf := sign_front seed q m hq
  rw [verV_yes (decide_eq_true ⟨signB_size seed q m, by rw [hf]; exact hq, by rw [hf]; exact sign_ver seed q m hq⟩), hf]
section
attribute [-go_sem] loadVar
set_option maxRecDepth 100000 in
set_option maxHeartbeats 2000000 in
theorem law_signs (seed : ByteArray) (hs : seed.size ≤ 9223372036854775807) (m : ByteArray) (hm : m.size ≤ 9223372036854775807) (x : Int) (w : World) :
    Calls Try.prog 5 #[.string seed, .string m, .int .i64 x] w fun e w' => e = .returned (.bool true) ∧ Below w.heap.size w w' := by
  by_cases hls : seed.size ≤ 100
  · have hls' : ¬ (100 : Int) < (seed.size : Int) := by omega
    by_cases hlm : m.size ≤ 100
    · have hlm' : ¬ (100 : Int) < (m.size : Int) := by omega
      have z1 := zeroTable
      by_cases hx : 0 ≤ x ∧ x < 8
      · obtain ⟨q, rfl⟩ : ∃ q : Nat, x = q := ⟨x.toNat, by omega⟩
        have hx0 : ¬ (q : Int) < 0 := by omega
        have hx7 : ¬ (7 : Int) < (q : Int) := by omega
        have HSG := Lib.hid (fun W => sign_any seed m (by omega) (by omega) q (by omega) W)
        have HPB := Lib.hid (fun W => public_any seed (by omega) W)
        have HVF := Lib.hid (fun W => verify_any (nodeB seed 3 0) m (signB seed q m) (by omega) W)
        rw [signed_yes seed q m (by omega)] at HVF
        have HRS := Lib.hid (fun W => rsign_any seed m (by omega) (by omega) q (by omega) W)
        have HRN := Lib.hid (fun W => rnode_any seed (by omega) 3 0 (by decide) (by decide) W)
        rw [show ((3 : Nat) : Int) = 3 from rfl, show ((0 : Nat) : Int) = 0 from rfl] at HRN
        generalize signB seed q m = SB at *
        generalize nodeB seed 3 0 = PB at *
        have e1 : (SB.toList == SB.toList) = true := beq_self_eq_true _
        have e2 : (PB.toList == PB.toList) = true := beq_self_eq_true _
        have e3 : ((q : Int) == (q : Int)) = true := beq_self_eq_true _
        go_enter Try.func5, Try.ntmps5
        go_wp2_with fail
        refine (awake3_any _).mono ?_
        rintro e w1 ⟨rfl, hB1⟩
        go_wp2_with fail
        refine (make_std _).mono ?_
        rintro e w2 ⟨rfl, hB2⟩
        have hB2' := hB1.trans (hB2.mono hB1.size)
        clear hB1 hB2
        have hl3 := tab_run (Blk.new w2 29 tabV)
        go_wp2_with (refine wpList_store_row rfl 29 _ _ rfl w2.heap.size tabV rfl rfl 29 zero72 (Blk.new _ _ _) (by rw [tabV_size]; exact infoTable) (by kernel_rfl) (by kernel_rfl) ?_; rw [World.setRow_alloc_new])
        have hB3 := hB2'.alloc hB2'.size (.cells tabV 29)
        have hT : Blk (w2.alloc (.cells tabV 29)) w2.heap.size 29 tabV := Blk.new _ _ _
        generalize w2.alloc (.cells tabV 29) = w3 at *
        generalize w2.heap.size = gt at *
        clear hB2' z1
        refine (HSG.out _).mono ?_
        rintro e w4 ⟨rfl, hb4⟩
        have hT4 := hT.below hb4 hT.lt
        have hB4 := hB3.trans (hb4.mono hB3.size)
        have hl4 := tab_run hT4
        clear hT hB3 hb4 hl3
        go_wp2_with fail
        refine (HPB.out _).mono ?_
        rintro e w5 ⟨rfl, hb5⟩
        have hT5 := hT4.below hb5 hT4.lt
        have hB5 := hB4.trans (hb5.mono hB4.size)
        have hl5 := tab_run hT5
        clear hT4 hB4 hb5 hl4
        go_wp2_with fail
        refine (HVF.out _).mono ?_
        rintro e w6 ⟨rfl, hb6⟩
        have hB6 := hB5.trans (hb6.mono hB5.size)
        clear hT5 hB5 hb6 hl5
        go_wp2_with fail
        refine (HRS.out _).mono ?_
        rintro e w7 ⟨rfl, hb7⟩
        have hB7 := hB6.trans (hb7.mono hB6.size)
        clear hB6 hb7
        go_wp2_with fail
        refine (HRN.out _).mono ?_
        rintro e w8 ⟨rfl, hb8⟩
        have hB8 := hB7.trans (hb8.mono hB7.size)
        clear hB7 hb8
        go_wp2
        go_ret
        exact ⟨rfl, hB8⟩
      · have hx' : x < 0 ∨ 7 < x := by omega
        have HSG := Lib.hid (fun W => sign_spent seed m x hx W)
        rcases hx' with hx0 | hx7
        · clear hx
          go_enter Try.func5, Try.ntmps5
          go_wp2_with fail
          refine (awake3_any _).mono ?_
          rintro e w1 ⟨rfl, hB1⟩
          go_wp2_with fail
          refine (make_std _).mono ?_
          rintro e w2 ⟨rfl, hB2⟩
          have hB2' := hB1.trans (hB2.mono hB1.size)
          clear hB1 hB2
          have hl3 := tab_run (Blk.new w2 29 tabV)
          go_wp2_with (refine wpList_store_row rfl 29 _ _ rfl w2.heap.size tabV rfl rfl 29 zero72 (Blk.new _ _ _) (by rw [tabV_size]; exact infoTable) (by kernel_rfl) (by kernel_rfl) ?_; rw [World.setRow_alloc_new])
          have hB3 := hB2'.alloc hB2'.size (.cells tabV 29)
          generalize w2.alloc (.cells tabV 29) = w3 at *
          generalize w2.heap.size = gt at *
          clear hB2' z1
          refine (HSG.out _).mono ?_
          rintro e w4 ⟨rfl, hb4⟩
          have hB4 := hB3.trans (hb4.mono hB3.size)
          clear hB3 hb4 hl3
          go_wp2
          go_ret
          exact ⟨rfl, hB4⟩
        · have hx0 : ¬ x < 0 := by omega
          clear hx
          go_enter Try.func5, Try.ntmps5
          go_wp2_with fail
          refine (awake3_any _).mono ?_
          rintro e w1 ⟨rfl, hB1⟩
          go_wp2_with fail
          refine (make_std _).mono ?_
          rintro e w2 ⟨rfl, hB2⟩
          have hB2' := hB1.trans (hB2.mono hB1.size)
          clear hB1 hB2
          have hl3 := tab_run (Blk.new w2 29 tabV)
          go_wp2_with (refine wpList_store_row rfl 29 _ _ rfl w2.heap.size tabV rfl rfl 29 zero72 (Blk.new _ _ _) (by rw [tabV_size]; exact infoTable) (by kernel_rfl) (by kernel_rfl) ?_; rw [World.setRow_alloc_new])
          have hB3 := hB2'.alloc hB2'.size (.cells tabV 29)
          generalize w2.alloc (.cells tabV 29) = w3 at *
          generalize w2.heap.size = gt at *
          clear hB2' z1
          refine (HSG.out _).mono ?_
          rintro e w4 ⟨rfl, hb4⟩
          have hB4 := hB3.trans (hb4.mono hB3.size)
          clear hB3 hb4 hl3
          go_wp2
          go_ret
          exact ⟨rfl, hB4⟩
    · have hlm' : (100 : Int) < (m.size : Int) := by omega
      go_enter Try.func5, Try.ntmps5
      go_wp2_with fail
      refine (awake3_any _).mono ?_
      rintro e w1 ⟨rfl, hB1⟩
      go_wp2_with fail
      refine (awake3_any _).mono ?_
      rintro e w2 ⟨rfl, hB2⟩
      have hB2' := hB1.trans (hB2.mono hB1.size)
      go_wp2
      go_ret
      exact ⟨rfl, hB2'⟩
  · have hls' : (100 : Int) < (seed.size : Int) := by omega
    go_enter Try.func5, Try.ntmps5
    go_wp2_with fail
    refine (awake3_any _).mono ?_
    rintro e w1 ⟨rfl, hB1⟩
    go_wp2_with fail
    refine (awake3_any _).mono ?_
    rintro e w2 ⟨rfl, hB2⟩
    have hB2' := hB1.trans (hB2.mono hB1.size)
    go_wp2
    go_ret
    exact ⟨rfl, hB2'⟩
end
end Go.Proofs.Ytdbfkkopolhpaaa
