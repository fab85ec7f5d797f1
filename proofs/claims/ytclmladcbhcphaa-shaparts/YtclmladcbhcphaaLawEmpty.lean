/-
  The walk of the law ShaEmpty.
-/
import Derived.Test.YtclmladcbhcphaaSumF
import Derived.Test.YtclmladcbhcphaaRefSum
namespace Go.Proofs.Ytclmladcbhcphaa
open Go.RowKit

theorem nums_append (a b : ByteArray) : nums (a ++ b) = nums a ++ nums b := by
  unfold nums
  rw [ByteArray.data_append]
  simp
theorem nums_nil : nums ⟨#[]⟩ = [] := rfl
theorem tab_run {w : World} {g : Nat} (h : Blk w g 27 tabV) : (loadVar 27 ⟨g, 0, none⟩).run Try.prog w = .ok (.agg tabV) w :=
  run_loadVar_row w g 27 27 tabV (0, 0) _ h Try.underlying27 rfl (by rw [tabV_size]; exact infoTable)

section
attribute [-go_sem] loadVar
set_option maxRecDepth 100000 in
set_option maxHeartbeats 1000000 in
theorem law_empty (a b : ByteArray) (ha : a.size ≤ 9223372036854775807) (hb : b.size ≤ 9223372036854775807) (w : World) : Calls Try.prog 3 #[.string a, .string b] w fun e w' => e = .returned (.bool true) ∧ Below w.heap.size w w' := by
  by_cases hla : a.size ≤ 500
  · have hla' : ¬ (500 : Int) < (a.size : Int) := by omega
    by_cases hlb : b.size ≤ 500
    · have hlb' : ¬ (500 : Int) < (b.size : Int) := by omega
      have HRA := Lib.hid (fun W => refsum_any a (by omega) W)
      have HRB := Lib.hid (fun W => refsum_any b (by omega) W)
      have HRC := Lib.hid (fun W => refsum_any (a ++ b) (by rw [ByteArray.size_append]; omega) W)
      have hsz : ¬ a.size + b.size > 9223372036854775807 := by omega
      have z1 := zeroTable
      have HLA := Lib.hid (nums_length a)
      have HLB := Lib.hid (nums_length b)
      rw [nums_append] at HRC
      obtain ⟨ma, hma⟩ : ∃ ma, nums a = ma := ⟨_, rfl⟩
      obtain ⟨mb, hmb⟩ : ∃ mb, nums b = mb := ⟨_, rfl⟩
      have HMA := Lib.hid hma
      have HMB := Lib.hid hmb
      rw [hma] at HRA HRC HLA
      rw [hmb] at HRB HRC HLB
      clear hma hmb
      go_enter Try.func3, Try.ntmps3
      go_wp2_with fail
      refine (awake_any _).mono ?_
      rintro e w1 ⟨rfl, hB1⟩
      go_wp2_with fail
      refine (make_std _).mono ?_
      rintro e w2 ⟨rfl, hB2⟩
      have hB2' := hB1.trans (hB2.mono hB1.size)
      clear hB1 hB2
      go_wp2_with (refine wpList_store_row rfl 27 _ _ rfl w2.heap.size tabV rfl rfl 27 zero72 (Blk.new _ _ _) (by rw [tabV_size]; exact infoTable) (by kernel_rfl) (by kernel_rfl) ?_; rw [World.setRow_alloc_new])
      have hB3 := hB2'.alloc hB2'.size (.cells tabV 27)
      have hT : Blk (w2.alloc (.cells tabV 27)) w2.heap.size 27 tabV := Blk.new _ _ _
      generalize w2.alloc (.cells tabV 27) = w3 at *
      generalize w2.heap.size = gt at *
      clear hB2' z1
      have HKP : Hid (∀ W, Below w3.heap.size w3 W → (loadVar 27 ⟨gt, 0, none⟩).run Try.prog W = .ok (.agg tabV) W ∧ Below w3.heap.size w3 W) := Lib.hid fun W hW => ⟨tab_run (hT.below hW hT.lt), hW⟩
      clear hT
      go_simp
      go_region_held3 (fun w' => (loadVar 27 ⟨gt, 0, none⟩).run Try.prog w' = .ok (.agg tabV) w' ∧ Below w3.heap.size w3 w')
        ((refine HKP.out _ ?_; first | exact hB5' | exact hB4' | exact (Below.refl _ _).drew | exact Below.refl _ _))
        (first
          | (have := hd4; go_at_call 10; refine (new_any _).mono ?_; rintro e w5 ⟨rfl, hd5, hB5⟩; have hB5' : Below w3.heap.size w3 w5 := hB4'.trans (hB5.mono hB4'.size))
          | (go_at_call 10; refine (new_any _).mono ?_; rintro e w4 ⟨rfl, hd4, hB4⟩; have hB4' : Below w3.heap.size w3 w4 := (Below.refl _ _).drew.trans hB4))
      change Dig w4 (w3.heap.size + 1) [] at hd4
      have hgt := hB3.size
      have hn4 := hd4.lt
      have hd4' := hd4.below hB5 hn4
      have hne : w3.heap.size + 1 ≠ w4.heap.size + 1 := by intro h; rw [h] at hn4; omega
      have hge1 : w.heap.size ≤ w3.heap.size + 1 := Nat.le_trans hgt (Nat.le_succ _)
      have hge2 : w.heap.size ≤ w4.heap.size + 1 := by have := hB4'.size; omega
      have hB6 := hB3.trans (hB5'.mono hB3.size)
      clear hB4 hB4' hB5 hB5' hn4 hgt HKP hB3
      rename_i hHeld
      clear hHeld
      go_simp
      generalize w3.heap.size + 1 = gd at *
      generalize w4.heap.size + 1 = ge at *
      clear hd4
      have hnd : some gd ≠ some ge := by intro h; injection h; omega
      have hnd' : some ge ≠ some gd := by intro h; injection h; omega
      go_wp2_with fail
      refine (write_any gd [] a (by show 0 + a.size ≤ _; omega) _ hd4').mono ?_
      rintro e w6 ⟨rfl, hd6, hg6⟩
      rw [List.nil_append, HMA.out] at hd6
      have he6 := hd5.grown hg6 hnd'
      have hB7 := hB6.grown hg6 hB6.size (fun k hk => by injection hk; omega)
      clear hd4' hd5 hB6 hg6
      go_wp2_with fail
      refine (write_any ge [] b (by show 0 + b.size ≤ _; omega) _ he6).mono ?_
      rintro e w7 ⟨rfl, he7, hg7⟩
      rw [List.nil_append, HMB.out] at he7
      have hd7 := hd6.grown hg7 hnd
      have hB8 := hB7.grown hg7 hB7.size (fun k hk => by injection hk; omega)
      clear hd6 he6 hB7 hg7
      go_wp2_with fail
      refine (write_any gd ma ⟨#[]⟩ (by rw [HLA.out]; show a.size + 0 ≤ _; omega) _ hd7).mono ?_
      rintro e w8 ⟨rfl, hd8, hg8⟩
      rw [nums_nil, List.append_nil] at hd8
      have he8 := he7.grown hg8 hnd'
      have hB9 := hB8.grown hg8 hB8.size (fun k hk => by injection hk; omega)
      clear hd7 he7 hB8 hg8
      go_wp2_with fail
      refine (dsum_any gd ma (by rw [HLA.out]; omega) _ hd8).mono ?_
      rintro e w9 ⟨rfl, hb9⟩
      have hd9 := hd8.below hb9 hd8.lt
      have he9 := he8.below hb9 he8.lt
      have hB10 := hB9.trans (hb9.mono hB9.size)
      clear hd8 he8 hB9 hb9
      go_wp2_with fail
      refine (dsum_any gd ma (by rw [HLA.out]; omega) _ hd9).mono ?_
      rintro e w10 ⟨rfl, hb10⟩
      have hd10 := hd9.below hb10 hd9.lt
      have he10 := he9.below hb10 he9.lt
      have hB11 := hB10.trans (hb10.mono hB10.size)
      clear hd9 he9 hB10 hb10
      go_wp2_with fail
      refine (write_any gd ma b (by rw [HLA.out]; omega) _ hd10).mono ?_
      rintro e w11 ⟨rfl, hd11, hg11⟩
      rw [HMB.out] at hd11
      have he11 := he10.grown hg11 hnd'
      have hB12 := hB11.grown hg11 hB11.size (fun k hk => by injection hk; omega)
      clear hd10 he10 hB11 hg11
      have HSD := Lib.hid (fun W (h : Dig W gd (ma ++ mb)) => dsum_any gd (ma ++ mb) (by rw [List.length_append, HLA.out, HLB.out]; omega) W h)
      have HSE := Lib.hid (fun W (h : Dig W ge mb) => dsum_any ge mb (by rw [HLB.out]; omega) W h)
      generalize SHA (ma ++ mb) = SC at *
      generalize SHA ma = SA at *
      generalize SHA mb = SB at *
      go_wp2_with fail
      refine (HRA.out _).mono ?_
      rintro e w12 ⟨rfl, hb12⟩
      have hd12 := hd11.below hb12 hd11.lt
      have he12 := he11.below hb12 he11.lt
      have hB13 := hB12.trans (hb12.mono hB12.size)
      clear hd11 he11 hB12 hb12
      go_wp2_with fail
      refine (HSE.out _ he12).mono ?_
      rintro e w13 ⟨rfl, hb13⟩
      have hd13 := hd12.below hb13 hd12.lt
      have hB14 := hB13.trans (hb13.mono hB13.size)
      clear hd12 he12 hB13 hb13
      go_wp2_with fail
      refine (HRB.out _).mono ?_
      rintro e w14 ⟨rfl, hb14⟩
      have hd14 := hd13.below hb14 hd13.lt
      have hB15 := hB14.trans (hb14.mono hB14.size)
      clear hd13 hB14 hb14
      go_wp2_with fail
      refine (HSD.out _ hd14).mono ?_
      rintro e w15 ⟨rfl, hb15⟩
      have hB16 := hB15.trans (hb15.mono hB15.size)
      clear hd14 hB15 hb15
      go_wp2_with fail
      refine (HRC.out _).mono ?_
      rintro e w16 ⟨rfl, hb16⟩
      have hB17 := hB16.trans (hb16.mono hB16.size)
      clear hB16 hb16
      go_wp2
      go_ret
      exact ⟨by simp, hB17⟩
    · have hlb' : (500 : Int) < (b.size : Int) := by omega
      go_enter Try.func3, Try.ntmps3
      go_wp2_with fail
      refine (awake_any _).mono ?_
      rintro e w1 ⟨rfl, hB1⟩
      go_wp2_with fail
      refine (awake_any _).mono ?_
      rintro e w2 ⟨rfl, hB2⟩
      have hB2' := hB1.trans (hB2.mono hB1.size)
      go_wp2
      go_ret
      exact ⟨rfl, hB2'⟩
  · have hla' : (500 : Int) < (a.size : Int) := by omega
    go_enter Try.func3, Try.ntmps3
    go_wp2_with fail
    refine (awake_any _).mono ?_
    rintro e w1 ⟨rfl, hB1⟩
    go_wp2_with fail
    refine (awake_any _).mono ?_
    rintro e w2 ⟨rfl, hB2⟩
    have hB2' := hB1.trans (hB2.mono hB1.size)
    go_wp2
    go_ret
    exact ⟨rfl, hB2'⟩
end
end Go.Proofs.Ytclmladcbhcphaa
