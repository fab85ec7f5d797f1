/-
  The walk of the law SmtVerifies.
-/
import Derived.Test.YtedkhcjbppknpaaSNil
import Derived.Test.YtedkhcjbppknpaaSRefP
import Derived.Test.YtedkhcjbppknpaaSRefH
import Derived.Test.YtedkhcjbppknpaaBent
namespace Go.Proofs.Ytedkhcjbppknpaa
open Go.RowKit

theorem conv_zero (w : World) (g : Nat) (h : Blk w g 5 (flA fun _ => 0)) : (convert 53 9 (.slice (some ⟨g, 0, none⟩) 32 32)).run Try.prog w = .ok (.string (flB fun _ => 0)) w := by
  have := conv_cells w 53 5 9 Try.underlying53 Try.underlying5 Try.underlying9 g 32 ((List.range 32).map fun _ => 0) (fun i hi => by
    have hi2 : i < 32 := by simpa using hi
    rw [h.cell, flA_at _ hi2]
    simp [List.getD_eq_getElem?_getD, hi2])
  unfold flB
  simpa using this
section
attribute [-go_sem] loadVar
set_option maxRecDepth 100000 in
set_option maxHeartbeats 4000000 in
theorem law_smtverifies (oa : Option Addr) (n cap : Nat) (ps : List (ByteArray × ByteArray)) (hn : ps.length = n) (k v : ByteArray) (x0 x1 x2 : Int) (hx : (0 ≤ x0 ∧ x0 ≤ 65535) ∧ (0 ≤ x1 ∧ x1 ≤ 65535) ∧ (0 ≤ x2 ∧ x2 ≤ 65535)) (w : World) (hP : Prs w oa ps) :
    Calls Try.prog 6 #[.slice oa n cap, .agg #[.string k, .string v], .agg #[.int .u16 x0, .int .u16 x1, .int .u16 x2]] w fun e w' => e = .returned (.bool true) ∧ Below w.heap.size w w' := by
  obtain ⟨n0, rfl⟩ : ∃ n : Nat, x0 = n := ⟨x0.toNat, by omega⟩
  obtain ⟨n1, rfl⟩ : ∃ n : Nat, x1 = n := ⟨x1.toNat, by omega⟩
  obtain ⟨n2, rfl⟩ : ∃ n : Nat, x2 = n := ⟨x2.toNat, by omega⟩
  have hn0 : n0 ≤ 65535 := by omega
  have hn1 : n1 ≤ 65535 := by omega
  have hn2 : n2 ≤ 65535 := by omega
  obtain ⟨B, hBB⟩ : ∃ B, w.heap.size = B := ⟨_, rfl⟩
  obtain ⟨w0, hw0⟩ : ∃ w0, (w.alloc (.cells #[.string k, .string v] 33)).alloc (.cells #[.int .u16 n0, .int .u16 n1, .int .u16 n2] 52) = w0 := ⟨_, rfl⟩
  have hK : Blk w0 B 33 #[.string k, .string v] := by rw [← hw0, ← hBB]; exact (Blk.new _ _ _).alloc _
  have hX : Blk w0 (B + 1) 52 #[.int .u16 n0, .int .u16 n1, .int .u16 n2] := by rw [← hw0]; exact Blk.new_at (by simp [hBB])
  have hB0 : Below w.heap.size w w0 := by rw [← hw0]; exact ((Below.refl _ w).alloc (Nat.le_refl _) _).alloc (by simp) _
  have hP0 := hP.below hB0
  have HW0 := Lib.hid hw0
  have HBB := Lib.hid hBB
  have HF1 := Lib.hid (fun W hP => few_any5 oa n cap 5 ps hn (by decide) W hP)
  have HF2 := Lib.hid (fun oa W hP => few_any5 oa 1 1 1 [(k, v)] rfl (by decide) W hP)
  unfold RFew at HF1 HF2
  rw [show ((5 : Nat) : Int) = 5 from rfl] at HF1
  rw [show ((1 : Nat) : Int) = 1 from rfl] at HF2
  have HAW := Lib.hid awake5_any
  clear hw0 hP hx
  go_enter Try.func6, Try.ntmps6
  go_wp2_with (rw [HW0.out])
  refine (HAW.out _).mono ?_
  rintro e w1 ⟨rfl, hb1⟩
  have hK1 := hK.below hb1 hK.lt
  have hX1 := hX.below hb1 hX.lt
  have hP1 := hP0.below hb1
  have hB1 := hB0.trans (hb1.mono hB0.size)
  clear hb1 hK hX hP0 hB0
  go_wp2_with fail
  refine (HF1.out _ hP1).mono ?_
  rintro e w2 ⟨⟨b1, rfl, hb1⟩, rfl⟩
  cases b1
  · clear hK1 hX1 hP1 HF1 HF2 hb1
    go_wp2_with fail
    refine (HAW.out _).mono ?_
    rintro e w3 ⟨rfl, hb3⟩
    have hB3 := hB1.trans (hb3.mono hB1.size)
    go_wp2
    go_ret
    exact ⟨rfl, hB3⟩
  · obtain ⟨hn5, hfp⟩ := hb1 rfl
    clear hb1
    have hlk := pair_load (w := w2) (g := B) (o := 0) (hK1.cell 0) (hK1.cell 1)
    have hP2 : Prs (w2.alloc (.cells #[.string k, .string v] 33)) (some ⟨w2.heap.size, 0, none⟩) [(k, v)] := by
      refine .inr ⟨w2.heap.size, 0, rfl, by simp, fun i hi => ?_⟩
      obtain rfl : i = 0 := by simpa using hi
      exact ⟨(Blk.new w2 33 #[.string k, .string v]).cell 0, (Blk.new w2 33 #[.string k, .string v]).cell 1⟩
    have hb2 := (Below.refl _ w2).alloc (Nat.le_refl _) (.cells #[.string k, .string v] 33)
    have hK2 := hK1.below hb2 hK1.lt
    have hX2 := hX1.below hb2 hX1.lt
    have hP2' := hP1.below hb2
    have hB2 := hB1.trans (hb2.mono hB1.size)
    clear hb2 hK1 hX1 hP1 hB1
    go_wp2_with fail
    refine (HF2.out _ _ hP2).mono ?_
    rintro e w3 ⟨⟨b2, rfl, hb2⟩, hw3⟩
    subst hw3
    clear hlk hP2
    generalize w2.alloc (.cells #[.string k, .string v] 33) = w3 at *
    cases b2
    · clear hK2 hX2 hP2' HF1 HF2 hb2 hfp
      go_wp2_with fail
      refine (HAW.out _).mono ?_
      rintro e w4 ⟨rfl, hb4⟩
      have hB4 := hB2.trans (hb4.mono hB2.size)
      go_wp2
      go_ret
      exact ⟨rfl, hB4⟩
    · obtain ⟨_, hfk⟩ := hb2 rfl
      have hks : k.size ≤ 60 ∧ v.size ≤ 60 := hfk (k, v) (by simp)
      obtain ⟨hk60, hv60⟩ := hks
      clear hb2 hfk HF1 HF2
      have z1 := zeroTable
      have hZE : Try.zeroCells43 = emC fun _ => ⟨#[]⟩ := by kernel_rfl
      have HZE := Lib.hid hZE
      have HI := Lib.hid (show (Try.prog.info? 43).map (·.size) = some (emC emp).size by rw [emC_size]; exact infoEm)
      have HZ1 := Lib.hid (show (emC fun _ => (⟨#[]⟩ : ByteArray)).size = (emC emp).size by rw [emC_size, emC_size])
      have HO1 := Lib.hid (emC_one emp)
      have HEM := Lib.hid rempty_any
      have HLA := Lib.hid (fun W hP => last_any oa n cap ps hn (by omega) W hP)
      have HLL := Lib.hid (lastK_len ps n)
      have HLF : Hid (FitP (lastK ps n)) := Lib.hid fun x hx => hfp x (lastK_mem ps n (by omega) x hx)
      unfold RTP at HLA
      generalize lastK ps n = LP at *
      have HPA := Lib.hid (fun oa cap W hP => paths_any oa LP.length cap LP rfl (by have := HLL.out; omega) HLF.out W hP)
      unfold RT at HPA
      have HFL := Lib.hid (fstN_length (fun i => pathS (keyP LP i)) LP.length)
      have HFS : Hid (∀ s ∈ fstN (fun i => pathS (keyP LP i)) LP.length, s.size = 32) := Lib.hid fun s hs => by
        obtain ⟨i, _, rfl⟩ := List.mem_map.1 hs
        exact pathS_size _
      generalize fstN (fun i => pathS (keyP LP i)) LP.length = FF at *
      have HRO := Lib.hid (fun oa ob cap capb W hP hS => rroot_any 256 0 rfl oa ob LP.length cap capb LP FF rfl HFL.out (by have := HLL.out; omega) HLF.out HFS.out W hP hS)
      unfold R32 at HRO
      rw [show ((0 : Nat) : Int) = 0 from rfl] at HRO
      have HPR := Lib.hid (fun oa cap W hP => rprove_any oa LP.length cap LP rfl (by have := HLL.out; omega) HLF.out k hk60 W hP)
      unfold RPf at HPR
      have HVE := Lib.hid (fun root th s (hs : s.size ≤ 1000000) W => verify_any root k v th s (by omega) (by omega) (by omega) W)
      have HHO := Lib.hid (fun root th s (hs : s.size ≤ 1000000) W => holds_any root k v th s (by omega) (by omega) hs W)
      obtain ⟨EE, hEE⟩ : ∃ EE, emC emp = EE := ⟨_, rfl⟩
      rw [hEE] at HI HZ1 HO1 HEM HRO HPR HHO
      clear hZE hEE hfp
      go_wp2_with fail
      refine (make_std _).mono ?_
      rintro e w4 ⟨rfl, hb4⟩
      have hK4 := hK2.below hb4 hK2.lt
      have hX4 := hX2.below hb4 hX2.lt
      have hP4 := hP2'.below hb4
      have hB4 := hB2.trans (hb4.mono hB2.size)
      clear hb4 hK2 hX2 hP2' hB2
      go_wp2_with (refine wpList_store_row rfl 29 _ _ rfl w4.heap.size tabV rfl rfl 29 zero72 (Blk.new _ _ _) (by rw [tabV_size]; exact infoTable) (by kernel_rfl) (by kernel_rfl) ?_; rw [World.setRow_alloc_new])
      have hb5 := (Below.refl _ w4).alloc (Nat.le_refl _) (.cells tabV 29)
      have hT5 : Blk (w4.alloc (.cells tabV 29)) w4.heap.size 29 tabV := Blk.new _ _ _
      have hK5 := hK4.below hb5 hK4.lt
      have hX5 := hX4.below hb5 hX4.lt
      have hP5 := hP4.below hb5
      have hB5 := hB4.trans (hb5.mono hB4.size)
      generalize w4.alloc (.cells tabV 29) = w5 at *
      generalize w4.heap.size = gt at *
      clear hb5 hK4 hX4 hP4 hB4 z1
      refine (HEM.out _).mono ?_
      rintro e w6 ⟨rfl, hb6⟩
      have hT6 := hT5.below hb6 hT5.lt
      have hK6 := hK5.below hb6 hK5.lt
      have hX6 := hX5.below hb6 hX5.lt
      have hP6 := hP5.below hb6
      have hB6 := hB5.trans (hb6.mono hB5.size)
      clear hb6 hT5 hK5 hX5 hP5 hB5 HEM
      go_wp2_with (first
        | (rw [HZE.out])
        | (refine wpList_store_row rfl 43 _ _ rfl w6.heap.size EE rfl rfl 43 (emC fun _ => ⟨#[]⟩) (Blk.new _ _ _) HI.out HZ1.out HO1.out ?_; rw [World.setRow_alloc_new]))
      have hb7 := (Below.refl _ w6).alloc (Nat.le_refl _) (.cells EE 43)
      have hE7 : Blk (w6.alloc (.cells EE 43)) w6.heap.size 43 EE := Blk.new _ _ _
      have hT7 := hT6.below hb7 hT6.lt
      have hK7 := hK6.below hb7 hK6.lt
      have hX7 := hX6.below hb7 hX6.lt
      have hP7 := hP6.below hb7
      have hB7 := hB6.trans (hb7.mono hB6.size)
      generalize w6.alloc (.cells EE 43) = w7 at *
      generalize w6.heap.size = ge at *
      clear hb7 hT6 hK6 hX6 hP6 hB6
      refine (HLA.out _ hP7).mono ?_
      rintro e w8 ⟨v8, rfl, hown8, hb8⟩
      obtain ⟨ol, cl, rfl, hcl, hP8⟩ := hown8.form
      have hE8 := hE7.below hb8 hE7.lt
      have hT8 := hT7.below hb8 hT7.lt
      have hK8 := hK7.below hb8 hK7.lt
      have hX8 := hX7.below hb8 hX7.lt
      have hB8 := hB7.trans (hb8.mono hB7.size)
      clear hb8 hE7 hT7 hK7 hX7 hP7 hB7 HLA hown8 hcl
      have HEL : Hid (∀ W, Blk W ge 43 EE → (loadVar 43 ⟨ge, 0, none⟩).run Try.prog W = .ok (.agg EE) W) := Lib.hid fun W hW => run_loadVar_row W ge 43 43 EE (0, 0) _ hW Try.underlying43 rfl HI.out
      have HKP8 : Hid (∀ W, Below w8.heap.size w8 W → (loadVar 43 ⟨ge, 0, none⟩).run Try.prog W = .ok (.agg EE) W ∧ Below w8.heap.size w8 W) := Lib.hid fun W hW => ⟨HEL.out W (hE8.below hW hE8.lt), hW⟩
      have HP8 := Lib.hid hP8
      have HE8 := Lib.hid hE8
      have HT8 := Lib.hid hT8
      have HK8 := Lib.hid hK8
      have HX8 := Lib.hid hX8
      have HB8 := Lib.hid hB8
      clear hP8 hE8 hT8 hK8 hX8 hB8
      generalize LP.length = nl at *
      go_wp2
      refine wp_region_held_drew (S := fun w' => (loadVar 43 ⟨ge, 0, none⟩).run Try.prog w' = .ok (.agg EE) w' ∧ Below w8.heap.size w8 w') (by kernel_rfl) ?_ (fun hHeld0 => ?_)
      · (refine HKP8.out _ ?_; first | exact hE2 | exact hE1 | exact (Below.refl _ _).drew | exact Below.refl _ _)
      apply takeH (i := 0) rfl (by kernel_rfl) (by kernel_rfl) (by kernel_rfl) (fun _ _ _ h => h) (by rfl)
      case hy => (intro w hSw; (try dsimp only at hSw); go_simp; try with_reducible rfl)
      case hS => assumption
      (try simp only [Act.put, List.setIfInBounds_toArray, List.set_cons_zero, List.set_cons_succ])
      apply takeH (i := 1) rfl (by kernel_rfl) (by kernel_rfl) (by kernel_rfl) (fun _ _ _ h => h) (by rfl)
      case hy => (intro w hSw; (try dsimp only at hSw); go_simp; try with_reducible rfl)
      case hS => assumption
      (try simp only [Act.put, List.setIfInBounds_toArray, List.set_cons_zero, List.set_cons_succ])
      apply takeH (i := 2) rfl (by kernel_rfl) (by kernel_rfl) (by kernel_rfl) (fun _ _ _ h => h) (by rfl)
      case hy => (intro w hSw; (try dsimp only at hSw); go_simp; try with_reducible rfl)
      case hS => assumption
      (try simp only [Act.put, List.setIfInBounds_toArray, List.set_cons_zero, List.set_cons_succ])
      refine doH (i := 3) rfl (by kernel_rfl) (by rfl) (fun K hK => ?_)
      go_simp
      (go_at_call 18; refine (HPA.out _ _ _ (HP8.out.below (Below.refl _ _).drew)).mono ?_; rintro e y1 ⟨v1, rfl, hown1, hy1⟩; obtain ⟨op, cp, hv1, hst1⟩ := hown1.form; rw [HFL.out] at hv1; subst hv1; have hE1 : Below w8.heap.size w8 y1 := (Below.refl _ _).drew.trans hy1)
      go_wp2_with fail
      refine hK.out _ _ ?_ (fun hHeld3 => ?_)
      · (refine HKP8.out _ ?_; first | exact hE2 | exact hE1 | exact (Below.refl _ _).drew | exact Below.refl _ _)
      clear hK K hHeld0
      (try simp only [Act.put, List.setIfInBounds_toArray, List.set_cons_zero, List.set_cons_succ])
      refine doH (i := 4) rfl (by kernel_rfl) (by rfl) (fun K hK => ?_)
      go_simp
      (go_at_call 17; refine (HRO.out _ _ _ _ _ (HP8.out.below hE1) hst1).mono ?_; rintro e y2 ⟨⟨rt, rfl, hrt⟩, hy2⟩; have hE2 : Below w8.heap.size w8 y2 := hE1.trans (hy2.mono hE1.size))
      go_wp2_with fail
      refine hK.out _ _ ?_ (fun hHeld4 => ?_)
      · (refine HKP8.out _ ?_; first | exact hE2 | exact hE1 | exact (Below.refl _ _).drew | exact Below.refl _ _)
      clear hK K hHeld3
      (try simp only [Act.put, List.setIfInBounds_toArray, List.set_cons_zero, List.set_cons_succ])
      apply takeH (i := 5) rfl (by kernel_rfl) (by kernel_rfl) (by kernel_rfl) (fun _ _ _ h => h) (by rfl)
      case hy => (intro w hSw; (try dsimp only at hSw); go_simp; try with_reducible rfl)
      case hS => assumption
      (try simp only [Act.put, List.setIfInBounds_toArray, List.set_cons_zero, List.set_cons_succ])
      refine wpAnyH_done (by kernel_rfl) ?_ _
      have hP9 := HP8.out.below hE2
      have hE9 := HE8.out.below hE2 HE8.out.lt
      have hT9 := HT8.out.below hE2 HT8.out.lt
      have hK9 := HK8.out.below hE2 HK8.out.lt
      have hX9 := HX8.out.below hE2 HX8.out.lt
      have hB9 := HB8.out.trans (hE2.mono HB8.out.size)
      have hl9 := HEL.out y2 hE9
      have hk9 := txt_load (w := y2) (p := ⟨B, 0, none⟩) (hK9.cell 0)
      clear hHeld4 hE2 hE1 hy1 hy2 hown1 hst1 HKP8 HP8 HE8 HT8 HK8 HX8 HB8 HPA HRO
      go_wp2_with fail
      refine (HPR.out _ _ _ hP9).mono ?_
      rintro e w10 ⟨⟨SB, rfl, hSB1, hSB2⟩, hb10⟩
      have hE10 := hE9.below hb10 hE9.lt
      have hT10 := hT9.below hb10 hT9.lt
      have hK10 := hK9.below hb10 hK9.lt
      have hX10 := hX9.below hb10 hX9.lt
      have hB10 := hB9.trans (hb10.mono hB9.size)
      clear hb10 hP9 hE9 hT9 hK9 hX9 hB9 hl9 hk9 HPR
      obtain ⟨w11, cap11, hrun, hcap, hcells, hgl, hb11⟩ := run_bytes_row (P := Try.prog) w10 9 53 5 SB Try.underlying9 Try.underlying53 Try.underlying5
      have hE11 := hE10.below hb11 hE10.lt
      have hT11 := hT10.below hb11 hT10.lt
      have hK11 := hK10.below hb11 hK10.lt
      have hX11 := hX10.below hb11 hX10.lt
      have hB11 := hB10.trans (hb11.mono hB10.size)
      have g1 : ge < w10.heap.size := hE10.lt
      have g2 : gt < w10.heap.size := hT10.lt
      have g3 : B < w10.heap.size := hK10.lt
      have g4 : B + 1 < w10.heap.size := hX10.lt
      generalize w10.heap.size = gb at *
      have HCL := Lib.hid hcells
      clear hb11 hE10 hT10 hK10 hX10 hB10 hcells
      go_wp2
      clear hrun
      obtain ⟨i, hi⟩ : ∃ i, n0 % SB.size = i := ⟨_, rfl⟩
      have hil : i < SB.size := by rw [← hi]; exact Nat.mod_lt _ (by omega)
      have e1 : (n0 : Int).tmod (SB.size : Int) = (i : Int) := by rw [Int.tmod_eq_emod_of_nonneg (by omega), ← hi]; simp
      have e1' : IntKind.i64.wrap (i : Int) = (i : Int) := i64_small (by omega)
      have e3 : IntKind.i64.wrap (n0 : Int) = (n0 : Int) := i64_small (by omega)
      have hil' : (i : Int) < (SB.size : Int) := by omega
      have hne : ¬ (SB.size : Int) = 0 := by omega
      have hne2 : ¬ SB.size = 0 := by omega
      obtain ⟨hci, hfi⟩ := HCL.out i hil
      have ha : (nums SB).getD i 0 < 256 := nums_get_lt SB i
      obtain ⟨y, hy, hyl⟩ := xor_byte ((nums SB).getD i 0) ha (n1 % 256) (by omega)
      have e2 : IntKind.u8.wrap (n1 : Int) = ((n1 % 256 : Nat) : Int) := by rw [IntKind.wrap_u8']; omega
      unfold U8 at hci
      have l1 : (loadVar 51 ⟨B + 1, 0, none⟩).run Try.prog w11.drew = .ok (.int .u16 n0) w11.drew := half_load (hX11.cell 0)
      have l2 : (loadVar 51 ⟨B + 1, 1, none⟩).run Try.prog w11.drew = .ok (.int .u16 n1) w11.drew := half_load (hX11.cell 1)
      have l3 : (loadVar 5 ⟨gb, i, none⟩).run Try.prog w11.drew = .ok (.int .u8 ((nums SB).getD i 0 : Nat)) w11.drew := byte_load hci
      have HC11 : Hid (∀ j, j < SB.size → w11.cell? ⟨gb, j, none⟩ = some (U8 ((nums SB).getD j 0))) := Lib.hid (fun j hj => (HCL.out j hj).1)
      have HSZ := Lib.hid (bentB_size SB i y)
      have HCV := Lib.hid (fun W hW => conv_bent w11.drew gb cap11 i y SB hil HC11.out W hW)
      generalize (nums SB).getD i 0 = a at *
      generalize n1 % 256 = z at *
      generalize bentB SB i y = S0 at *
      clear hi HC11 HCL
      have c11 : w11.drew.cell? ⟨gb, i, none⟩ = some (.int .u8 (a : Int)) := hci
      have f11 : w11.drew.frozen? ⟨gb, i, none⟩ = false := hfi
      have HKX : Hid (∀ W, Blk W (B + 1) 52 #[.int .u16 n0, .int .u16 n1, .int .u16 n2] → (loadVar 51 ⟨B + 1, 0, none⟩).run Try.prog W = .ok (.int .u16 n0) W ∧ (loadVar 51 ⟨B + 1, 1, none⟩).run Try.prog W = .ok (.int .u16 n1) W) := Lib.hid fun W hW => ⟨half_load (hW.cell 0), half_load (hW.cell 1)⟩
      refine wp_region_held_drew (S := fun W => (loadVar 51 ⟨B + 1, 0, none⟩).run Try.prog W = .ok (.int .u16 n0) W ∧ (loadVar 51 ⟨B + 1, 1, none⟩).run Try.prog W = .ok (.int .u16 n1) W) (by kernel_rfl) ?_ (fun hHeld0 => ?_)
      · (refine HKX.out _ ?_; first | exact hX11 | exact hX11.drew | exact (hX11.drew).far (by show B + 1 ≠ gb; omega) _ | exact hX11.far (by show B + 1 ≠ gb; omega) _)
      apply takeH (i := 0) rfl (by kernel_rfl) (by kernel_rfl) (by kernel_rfl) (fun _ _ _ h => h) (by rfl)
      case hy => (intro w hSw; (try dsimp only at hSw); go_simp; try with_reducible rfl)
      case hS => assumption
      (try simp only [Act.put, List.setIfInBounds_toArray, List.set_cons_zero, List.set_cons_succ])
      apply takeH (i := 1) rfl (by kernel_rfl) (by kernel_rfl) (by kernel_rfl) (fun _ _ _ h => h) (by rfl)
      case hy => (intro w hSw; (try dsimp only at hSw); go_simp; try with_reducible rfl)
      case hS => assumption
      (try simp only [Act.put, List.setIfInBounds_toArray, List.set_cons_zero, List.set_cons_succ])
      apply takeH (i := 2) rfl (by kernel_rfl) (by kernel_rfl) (by kernel_rfl) (fun _ _ _ h => h) (by rfl)
      case hy => (intro w hSw; (try dsimp only at hSw); go_simp; try with_reducible rfl)
      case hS => assumption
      (try simp only [Act.put, List.setIfInBounds_toArray, List.set_cons_zero, List.set_cons_succ])
      apply takeH (i := 3) rfl (by kernel_rfl) (by kernel_rfl) (by kernel_rfl) (fun _ _ _ h => h) (by rfl)
      case hy => (intro w hSw; (try dsimp only at hSw); go_simp; try with_reducible rfl)
      case hS => assumption
      (try simp only [Act.put, List.setIfInBounds_toArray, List.set_cons_zero, List.set_cons_succ])
      apply takeH (i := 4) rfl (by kernel_rfl) (by kernel_rfl) (by kernel_rfl) (fun _ _ _ h => h) (by rfl)
      case hy => (intro w hSw; (try dsimp only at hSw); go_simp; try with_reducible rfl)
      case hS => assumption
      (try simp only [Act.put, List.setIfInBounds_toArray, List.set_cons_zero, List.set_cons_succ])
      apply takeH (i := 5) rfl (by kernel_rfl) (by kernel_rfl) (by kernel_rfl) (fun _ _ _ h => h) (by rfl)
      case hy => (intro w hSw; (try dsimp only at hSw); go_simp; try with_reducible rfl)
      case hS => assumption
      (try simp only [Act.put, List.setIfInBounds_toArray, List.set_cons_zero, List.set_cons_succ])
      apply takeH (i := 6) rfl (by kernel_rfl) (by kernel_rfl) (by kernel_rfl) (fun _ _ _ h => h) (by rfl)
      case hy => (intro w hSw; (try dsimp only at hSw); go_simp; try with_reducible rfl)
      case hS => assumption
      (try simp only [Act.put, List.setIfInBounds_toArray, List.set_cons_zero, List.set_cons_succ])
      apply takeH (i := 7) rfl (by kernel_rfl) (by kernel_rfl) (by kernel_rfl) (fun _ _ _ h => h) (by rfl)
      case hy => (intro w hSw; (try dsimp only at hSw); go_simp; try with_reducible rfl)
      case hS => assumption
      (try simp only [Act.put, List.setIfInBounds_toArray, List.set_cons_zero, List.set_cons_succ])
      apply takeH (i := 9) rfl (by kernel_rfl) (by kernel_rfl) (by kernel_rfl) (fun _ _ _ h => h) (by rfl)
      case hy => (intro w hSw; (try dsimp only at hSw); go_simp; try with_reducible rfl)
      case hS => assumption
      (try simp only [Act.put, List.setIfInBounds_toArray, List.set_cons_zero, List.set_cons_succ])
      apply takeH (i := 10) rfl (by kernel_rfl) (by kernel_rfl) (by kernel_rfl) (fun _ _ _ h => h) (by rfl)
      case hy => (intro w hSw; (try dsimp only at hSw); go_simp; try with_reducible rfl)
      case hS => assumption
      (try simp only [Act.put, List.setIfInBounds_toArray, List.set_cons_zero, List.set_cons_succ])
      apply takeH (i := 11) rfl (by kernel_rfl) (by kernel_rfl) (by kernel_rfl) (fun _ _ _ h => h) (by rfl)
      case hy => (intro w hSw; (try dsimp only at hSw); go_simp; try with_reducible rfl)
      case hS => assumption
      (try simp only [Act.put, List.setIfInBounds_toArray, List.set_cons_zero, List.set_cons_succ])
      refine doH (i := 8) rfl (by kernel_rfl) (by rfl) (fun K hK => ?_)
      go_simp
      refine hK.out _ _ ?_ (fun hHeld8 => ?_)
      · (refine HKX.out _ ?_; first | exact hX11 | exact hX11.drew | exact (hX11.drew).far (by show B + 1 ≠ gb; omega) _ | exact hX11.far (by show B + 1 ≠ gb; omega) _)
      clear hK K hHeld0
      (try simp only [Act.put, List.setIfInBounds_toArray, List.set_cons_zero, List.set_cons_succ])
      apply takeH (i := 12) rfl (by kernel_rfl) (by kernel_rfl) (by kernel_rfl) (fun _ _ _ h => h) (by rfl)
      case hy => (intro w hSw; (try dsimp only at hSw); go_simp; try with_reducible rfl)
      case hS => assumption
      (try simp only [Act.put, List.setIfInBounds_toArray, List.set_cons_zero, List.set_cons_succ])
      apply takeH (i := 13) rfl (by kernel_rfl) (by kernel_rfl) (by kernel_rfl) (fun _ _ _ h => h) (by rfl)
      case hy => (intro w hSw; (try dsimp only at hSw); go_simp; try with_reducible rfl)
      case hS => assumption
      (try simp only [Act.put, List.setIfInBounds_toArray, List.set_cons_zero, List.set_cons_succ])
      refine doH (i := 14) rfl (by kernel_rfl) (by rfl) (fun K hK => ?_)
      go_simp
      refine hK.out _ _ ?_ (fun hHeld14 => ?_)
      · (refine HKX.out _ ?_; first | exact hX11 | exact hX11.drew | exact (hX11.drew).far (by show B + 1 ≠ gb; omega) _ | exact hX11.far (by show B + 1 ≠ gb; omega) _)
      clear hK K hHeld8
      (try simp only [Act.put, List.setIfInBounds_toArray, List.set_cons_zero, List.set_cons_succ])
      refine wpAnyH_done (by kernel_rfl) ?_ _
      all_goals
        have hXz0 : Blk (w11.setCell ⟨gb, i, none⟩ (.int .u8 (y : Int))).drew (B + 1) 52 #[.int .u16 n0, .int .u16 n1, .int .u16 n2] := hX11.far (p := ⟨gb, i, none⟩) (by show B + 1 ≠ gb; omega) _
        have hKz0 : Blk (w11.setCell ⟨gb, i, none⟩ (.int .u8 (y : Int))).drew B 33 #[.string k, .string v] := hK11.far (p := ⟨gb, i, none⟩) (by show B ≠ gb; omega) _
        have hTz0 : Blk (w11.setCell ⟨gb, i, none⟩ (.int .u8 (y : Int))).drew gt 29 tabV := hT11.far (p := ⟨gb, i, none⟩) (by show gt ≠ gb; omega) _
        have hEz0 : Blk (w11.setCell ⟨gb, i, none⟩ (.int .u8 (y : Int))).drew ge 43 EE := hE11.far (p := ⟨gb, i, none⟩) (by show ge ≠ gb; omega) _
        have hBz0 : Below w.heap.size w (w11.setCell ⟨gb, i, none⟩ (.int .u8 (y : Int))).drew := (hB11.setCell (p := ⟨gb, i, none⟩) (by show w.heap.size ≤ gb; have := HBB.out; omega) _).drew
        have hcv : (convert 53 9 (.slice (some ⟨gb, 0, none⟩) SB.size cap11)).run Try.prog (w11.setCell ⟨gb, i, none⟩ (.int .u8 (y : Int))).drew = .ok (.string S0) (w11.setCell ⟨gb, i, none⟩ (.int .u8 (y : Int))).drew := HCV.out (w11.setCell ⟨gb, i, none⟩ (.int .u8 (y : Int))).drew rfl
        generalize (w11.setCell ⟨gb, i, none⟩ (.int .u8 (y : Int))).drew = wy at *
        have hS0 : S0.size = SB.size := HSZ.out
        have l5 := half_load (w := wy) (p := ⟨B + 1, 2, none⟩) (hXz0.cell 2)
        obtain ⟨m5, hm5⟩ : ∃ m5, n2 % 5 = m5 := ⟨_, rfl⟩
        have hm5' : (n2 : Int) % 5 = (m5 : Int) := by omega
        obtain ⟨m2, hm2⟩ : ∃ m2, n2 % 2 = m2 := ⟨_, rfl⟩
        have hm2' : (n2 : Int) % 2 = (m2 : Int) := by omega
        clear l1 l2 l3 hci hfi c11 f11 hHeld14 HKX e1 e1' e2 e3 hy HCV HSZ hX11 hK11 hT11 hE11 hB11 hm5 hm2 ha
        by_cases q1 : m5 = 1
        · subst q1
          have hmk := make32 wy
          have bz : Blk (wy.alloc (.cells (flA fun _ => 0) 5)) wy.heap.size 5 (flA fun _ => 0) := Blk.new _ _ _
          have hcz := conv_zero _ _ bz
          have hbz : Below wy.heap.size wy (wy.alloc (.cells (flA fun _ => 0) 5)) := (Below.refl _ wy).alloc (Nat.le_refl _) _
          have hfz := flB_size (fun _ => 0)
          generalize (flB fun _ => 0) = ZB at *
          have hadd : ¬ S0.size + ZB.size > 9223372036854775807 := by omega
          have hTz := hTz0.below hbz hTz0.lt
          have hEz := hEz0.below hbz hEz0.lt
          have hKz := hKz0.below hbz hKz0.lt
          have hXz := hXz0.below hbz hXz0.lt
          have hBz := hBz0.trans (hbz.mono hBz0.size)
          have l6 := half_load (w := wy.alloc (.cells (flA fun _ => 0) 5)) (p := ⟨B + 1, 2, none⟩) (hXz.cell 2)
          have hsz : (S0 ++ ZB).size ≤ 1000000 := by rw [ByteArray.size_append]; omega
          obtain ⟨TH, hTH⟩ : ∃ TH, ((m2 : Int) == 0) = TH := ⟨_, rfl⟩
          clear hbz bz hfz
          go_wp2
          generalize wy.alloc (.cells (flA fun _ => 0) 5) = wz at *
          generalize S0 ++ ZB = S2 at *
          clear hmk hcz l5 hadd hcv hTz0 hEz0 hKz0 hXz0 hBz0
          have HKQ : Hid (∀ W, Below wz.heap.size wz W → ((loadVar 29 ⟨gt, 0, none⟩).run Try.prog W = .ok (.agg tabV) W ∧ (loadVar 43 ⟨ge, 0, none⟩).run Try.prog W = .ok (.agg EE) W ∧ (loadVar 9 ⟨B, 0, none⟩).run Try.prog W = .ok (.string k) W ∧ (loadVar 9 ⟨B, 1, none⟩).run Try.prog W = .ok (.string v) W ∧ (loadVar 33 ⟨B, 0, none⟩).run Try.prog W = .ok (.agg #[.string k, .string v]) W) ∧ Below wz.heap.size wz W) :=
            Lib.hid fun W hW => ⟨⟨tab_run (hTz.below hW hTz.lt), HEL.out W (hEz.below hW hEz.lt), txt_load ((hKz.below hW hKz.lt).cell 0), txt_load ((hKz.below hW hKz.lt).cell 1), pair_load (o := 0) ((hKz.below hW hKz.lt).cell 0) ((hKz.below hW hKz.lt).cell 1)⟩, hW⟩
          have HV := Lib.hid (fun W => HVE.out rt TH S2 hsz W)
          have HH := Lib.hid (fun W => HHO.out rt TH S2 hsz W)
          generalize verS rt k v TH S2 = VS at *
          have hvv : (VS == VS) = true := beq_self_eq_true VS
          have HBZ := Lib.hid hBz
          clear hTz hEz hKz hXz hBz HVE HHO HEL hsz l6
          go_wp2
          refine wp_region_held_drew (S := fun W => ((loadVar 29 ⟨gt, 0, none⟩).run Try.prog W = .ok (.agg tabV) W ∧ (loadVar 43 ⟨ge, 0, none⟩).run Try.prog W = .ok (.agg EE) W ∧ (loadVar 9 ⟨B, 0, none⟩).run Try.prog W = .ok (.string k) W ∧ (loadVar 9 ⟨B, 1, none⟩).run Try.prog W = .ok (.string v) W ∧ (loadVar 33 ⟨B, 0, none⟩).run Try.prog W = .ok (.agg #[.string k, .string v]) W) ∧ Below wz.heap.size wz W) (by kernel_rfl) ?_ (fun hHeld0 => ?_)
          · (refine HKQ.out _ ?_; first | exact hE2 | exact hE1 | exact (Below.refl _ _).drew | exact Below.refl _ _)
          apply takeH (i := 0) rfl (by kernel_rfl) (by kernel_rfl) (by kernel_rfl) (fun _ _ _ h => h) (by rfl)
          case hy => (intro w hSw; (try dsimp only at hSw); go_simp; try with_reducible rfl)
          case hS => assumption
          (try simp only [Act.put, List.setIfInBounds_toArray, List.set_cons_zero, List.set_cons_succ])
          apply takeH (i := 1) rfl (by kernel_rfl) (by kernel_rfl) (by kernel_rfl) (fun _ _ _ h => h) (by rfl)
          case hy => (intro w hSw; (try dsimp only at hSw); go_simp; try with_reducible rfl)
          case hS => assumption
          (try simp only [Act.put, List.setIfInBounds_toArray, List.set_cons_zero, List.set_cons_succ])
          apply takeH (i := 2) rfl (by kernel_rfl) (by kernel_rfl) (by kernel_rfl) (fun _ _ _ h => h) (by rfl)
          case hy => (intro w hSw; (try dsimp only at hSw); go_simp; try with_reducible rfl)
          case hS => assumption
          (try simp only [Act.put, List.setIfInBounds_toArray, List.set_cons_zero, List.set_cons_succ])
          apply takeH (i := 3) rfl (by kernel_rfl) (by kernel_rfl) (by kernel_rfl) (fun _ _ _ h => h) (by rfl)
          case hy => (intro w hSw; (try dsimp only at hSw); go_simp; try with_reducible rfl)
          case hS => assumption
          (try simp only [Act.put, List.setIfInBounds_toArray, List.set_cons_zero, List.set_cons_succ])
          apply takeH (i := 4) rfl (by kernel_rfl) (by kernel_rfl) (by kernel_rfl) (fun _ _ _ h => h) (by rfl)
          case hy => (intro w hSw; (try dsimp only at hSw); go_simp; try with_reducible rfl)
          case hS => assumption
          (try simp only [Act.put, List.setIfInBounds_toArray, List.set_cons_zero, List.set_cons_succ])
          apply takeH (i := 5) rfl (by kernel_rfl) (by kernel_rfl) (by kernel_rfl) (fun _ _ _ h => h) (by rfl)
          case hy => (intro w hSw; (try dsimp only at hSw); go_simp; try with_reducible rfl)
          case hS => assumption
          (try simp only [Act.put, List.setIfInBounds_toArray, List.set_cons_zero, List.set_cons_succ])
          apply takeH (i := 6) rfl (by kernel_rfl) (by kernel_rfl) (by kernel_rfl) (fun _ _ _ h => h) (by rfl)
          case hy => (intro w hSw; (try dsimp only at hSw); go_simp; try with_reducible rfl)
          case hS => assumption
          (try simp only [Act.put, List.setIfInBounds_toArray, List.set_cons_zero, List.set_cons_succ])
          apply takeH (i := 7) rfl (by kernel_rfl) (by kernel_rfl) (by kernel_rfl) (fun _ _ _ h => h) (by rfl)
          case hy => (intro w hSw; (try dsimp only at hSw); go_simp; try with_reducible rfl)
          case hS => assumption
          (try simp only [Act.put, List.setIfInBounds_toArray, List.set_cons_zero, List.set_cons_succ])
          apply takeH (i := 9) rfl (by kernel_rfl) (by kernel_rfl) (by kernel_rfl) (fun _ _ _ h => h) (by rfl)
          case hy => (intro w hSw; (try dsimp only at hSw); go_simp; try with_reducible rfl)
          case hS => assumption
          (try simp only [Act.put, List.setIfInBounds_toArray, List.set_cons_zero, List.set_cons_succ])
          apply takeH (i := 10) rfl (by kernel_rfl) (by kernel_rfl) (by kernel_rfl) (fun _ _ _ h => h) (by rfl)
          case hy => (intro w hSw; (try dsimp only at hSw); go_simp; try with_reducible rfl)
          case hS => assumption
          (try simp only [Act.put, List.setIfInBounds_toArray, List.set_cons_zero, List.set_cons_succ])
          apply takeH (i := 11) rfl (by kernel_rfl) (by kernel_rfl) (by kernel_rfl) (fun _ _ _ h => h) (by rfl)
          case hy => (intro w hSw; (try dsimp only at hSw); go_simp; try with_reducible rfl)
          case hS => assumption
          (try simp only [Act.put, List.setIfInBounds_toArray, List.set_cons_zero, List.set_cons_succ])
          apply takeH (i := 12) rfl (by kernel_rfl) (by kernel_rfl) (by kernel_rfl) (fun _ _ _ h => h) (by rfl)
          case hy => (intro w hSw; (try dsimp only at hSw); go_simp; try with_reducible rfl)
          case hS => assumption
          (try simp only [Act.put, List.setIfInBounds_toArray, List.set_cons_zero, List.set_cons_succ])
          apply takeH (i := 13) rfl (by kernel_rfl) (by kernel_rfl) (by kernel_rfl) (fun _ _ _ h => h) (by rfl)
          case hy => (intro w hSw; (try dsimp only at hSw); go_simp; try with_reducible rfl)
          case hS => assumption
          (try simp only [Act.put, List.setIfInBounds_toArray, List.set_cons_zero, List.set_cons_succ])
          refine doH (i := 8) rfl (by kernel_rfl) (by rfl) (fun K hK => ?_)
          go_simp
          (go_at_call 14; refine (HV.out _).mono ?_; rintro e y1 ⟨rfl, hy1⟩; have hE1 : Below wz.heap.size wz y1 := (Below.refl _ _).drew.trans hy1)
          go_wp2_with fail
          refine hK.out _ _ ?_ (fun hHeld8 => ?_)
          · (refine HKQ.out _ ?_; first | exact hE2 | exact hE1 | exact (Below.refl _ _).drew | exact Below.refl _ _)
          clear hK K hHeld0
          (try simp only [Act.put, List.setIfInBounds_toArray, List.set_cons_zero, List.set_cons_succ])
          refine doH (i := 14) rfl (by kernel_rfl) (by rfl) (fun K hK => ?_)
          go_simp
          (go_at_call 20; refine (HH.out _).mono ?_; rintro e y2 ⟨rfl, hy2⟩; have hE2 : Below wz.heap.size wz y2 := hE1.trans (hy2.mono hE1.size))
          go_wp2_with fail
          refine hK.out _ _ ?_ (fun hHeld14 => ?_)
          · (refine HKQ.out _ ?_; first | exact hE2 | exact hE1 | exact (Below.refl _ _).drew | exact Below.refl _ _)
          clear hK K hHeld8
          (try simp only [Act.put, List.setIfInBounds_toArray, List.set_cons_zero, List.set_cons_succ])
          apply takeH (i := 15) rfl (by kernel_rfl) (by kernel_rfl) (by kernel_rfl) (fun _ _ _ h => h) (by rfl)
          case hy => (intro w hSw; (try dsimp only at hSw); go_simp; try with_reducible rfl)
          case hS => assumption
          (try simp only [Act.put, List.setIfInBounds_toArray, List.set_cons_zero, List.set_cons_succ])
          apply takeH (i := 16) rfl (by kernel_rfl) (by kernel_rfl) (by kernel_rfl) (fun _ _ _ h => h) (by rfl)
          case hy => (intro w hSw; (try dsimp only at hSw); go_simp; try with_reducible rfl)
          case hS => assumption
          (try simp only [Act.put, List.setIfInBounds_toArray, List.set_cons_zero, List.set_cons_succ])
          refine wpAnyH_done (by kernel_rfl) ?_ _
          have hBE := HBZ.out.trans (hE2.mono HBZ.out.size)
          go_wp2
          go_ret
          exact ⟨rfl, hBE⟩
        · have q1' : (((m5 : Nat) : Int) == 1) = false := by rw [beq_eq_false_iff_ne]; omega
          by_cases q2 : m5 = 2
          · subst q2
            have hge : (1 : Int) ≤ (SB.size : Int) := by omega
            have hge2 : 1 ≤ SB.size := by omega
            have hsz : (S0.extract 0 (SB.size - 1)).size ≤ 1000000 := by rw [ByteArray.size_extract]; omega
            obtain ⟨TH, hTH⟩ : ∃ TH, ((m2 : Int) == 0) = TH := ⟨_, rfl⟩
            go_wp2
            generalize S0.extract 0 (SB.size - 1) = S2 at *
            generalize wy = wz at *
            have hTz := hTz0
            have hEz := hEz0
            have hKz := hKz0
            have hXz := hXz0
            have hBz := hBz0
            clear hcv hTz0 hEz0 hKz0 hXz0 hBz0 hge hge2
            have HKQ : Hid (∀ W, Below wz.heap.size wz W → ((loadVar 29 ⟨gt, 0, none⟩).run Try.prog W = .ok (.agg tabV) W ∧ (loadVar 43 ⟨ge, 0, none⟩).run Try.prog W = .ok (.agg EE) W ∧ (loadVar 9 ⟨B, 0, none⟩).run Try.prog W = .ok (.string k) W ∧ (loadVar 9 ⟨B, 1, none⟩).run Try.prog W = .ok (.string v) W ∧ (loadVar 33 ⟨B, 0, none⟩).run Try.prog W = .ok (.agg #[.string k, .string v]) W) ∧ Below wz.heap.size wz W) :=
              Lib.hid fun W hW => ⟨⟨tab_run (hTz.below hW hTz.lt), HEL.out W (hEz.below hW hEz.lt), txt_load ((hKz.below hW hKz.lt).cell 0), txt_load ((hKz.below hW hKz.lt).cell 1), pair_load (o := 0) ((hKz.below hW hKz.lt).cell 0) ((hKz.below hW hKz.lt).cell 1)⟩, hW⟩
            have HV := Lib.hid (fun W => HVE.out rt TH S2 hsz W)
            have HH := Lib.hid (fun W => HHO.out rt TH S2 hsz W)
            generalize verS rt k v TH S2 = VS at *
            have hvv : (VS == VS) = true := beq_self_eq_true VS
            have HBZ := Lib.hid hBz
            clear hTz hEz hKz hXz hBz HVE HHO HEL hsz l5
            go_wp2
            refine wp_region_held_drew (S := fun W => ((loadVar 29 ⟨gt, 0, none⟩).run Try.prog W = .ok (.agg tabV) W ∧ (loadVar 43 ⟨ge, 0, none⟩).run Try.prog W = .ok (.agg EE) W ∧ (loadVar 9 ⟨B, 0, none⟩).run Try.prog W = .ok (.string k) W ∧ (loadVar 9 ⟨B, 1, none⟩).run Try.prog W = .ok (.string v) W ∧ (loadVar 33 ⟨B, 0, none⟩).run Try.prog W = .ok (.agg #[.string k, .string v]) W) ∧ Below wz.heap.size wz W) (by kernel_rfl) ?_ (fun hHeld0 => ?_)
            · (refine HKQ.out _ ?_; first | exact hE2 | exact hE1 | exact (Below.refl _ _).drew | exact Below.refl _ _)
            apply takeH (i := 0) rfl (by kernel_rfl) (by kernel_rfl) (by kernel_rfl) (fun _ _ _ h => h) (by rfl)
            case hy => (intro w hSw; (try dsimp only at hSw); go_simp; try with_reducible rfl)
            case hS => assumption
            (try simp only [Act.put, List.setIfInBounds_toArray, List.set_cons_zero, List.set_cons_succ])
            apply takeH (i := 1) rfl (by kernel_rfl) (by kernel_rfl) (by kernel_rfl) (fun _ _ _ h => h) (by rfl)
            case hy => (intro w hSw; (try dsimp only at hSw); go_simp; try with_reducible rfl)
            case hS => assumption
            (try simp only [Act.put, List.setIfInBounds_toArray, List.set_cons_zero, List.set_cons_succ])
            apply takeH (i := 2) rfl (by kernel_rfl) (by kernel_rfl) (by kernel_rfl) (fun _ _ _ h => h) (by rfl)
            case hy => (intro w hSw; (try dsimp only at hSw); go_simp; try with_reducible rfl)
            case hS => assumption
            (try simp only [Act.put, List.setIfInBounds_toArray, List.set_cons_zero, List.set_cons_succ])
            apply takeH (i := 3) rfl (by kernel_rfl) (by kernel_rfl) (by kernel_rfl) (fun _ _ _ h => h) (by rfl)
            case hy => (intro w hSw; (try dsimp only at hSw); go_simp; try with_reducible rfl)
            case hS => assumption
            (try simp only [Act.put, List.setIfInBounds_toArray, List.set_cons_zero, List.set_cons_succ])
            apply takeH (i := 4) rfl (by kernel_rfl) (by kernel_rfl) (by kernel_rfl) (fun _ _ _ h => h) (by rfl)
            case hy => (intro w hSw; (try dsimp only at hSw); go_simp; try with_reducible rfl)
            case hS => assumption
            (try simp only [Act.put, List.setIfInBounds_toArray, List.set_cons_zero, List.set_cons_succ])
            apply takeH (i := 5) rfl (by kernel_rfl) (by kernel_rfl) (by kernel_rfl) (fun _ _ _ h => h) (by rfl)
            case hy => (intro w hSw; (try dsimp only at hSw); go_simp; try with_reducible rfl)
            case hS => assumption
            (try simp only [Act.put, List.setIfInBounds_toArray, List.set_cons_zero, List.set_cons_succ])
            apply takeH (i := 6) rfl (by kernel_rfl) (by kernel_rfl) (by kernel_rfl) (fun _ _ _ h => h) (by rfl)
            case hy => (intro w hSw; (try dsimp only at hSw); go_simp; try with_reducible rfl)
            case hS => assumption
            (try simp only [Act.put, List.setIfInBounds_toArray, List.set_cons_zero, List.set_cons_succ])
            apply takeH (i := 7) rfl (by kernel_rfl) (by kernel_rfl) (by kernel_rfl) (fun _ _ _ h => h) (by rfl)
            case hy => (intro w hSw; (try dsimp only at hSw); go_simp; try with_reducible rfl)
            case hS => assumption
            (try simp only [Act.put, List.setIfInBounds_toArray, List.set_cons_zero, List.set_cons_succ])
            apply takeH (i := 9) rfl (by kernel_rfl) (by kernel_rfl) (by kernel_rfl) (fun _ _ _ h => h) (by rfl)
            case hy => (intro w hSw; (try dsimp only at hSw); go_simp; try with_reducible rfl)
            case hS => assumption
            (try simp only [Act.put, List.setIfInBounds_toArray, List.set_cons_zero, List.set_cons_succ])
            apply takeH (i := 10) rfl (by kernel_rfl) (by kernel_rfl) (by kernel_rfl) (fun _ _ _ h => h) (by rfl)
            case hy => (intro w hSw; (try dsimp only at hSw); go_simp; try with_reducible rfl)
            case hS => assumption
            (try simp only [Act.put, List.setIfInBounds_toArray, List.set_cons_zero, List.set_cons_succ])
            apply takeH (i := 11) rfl (by kernel_rfl) (by kernel_rfl) (by kernel_rfl) (fun _ _ _ h => h) (by rfl)
            case hy => (intro w hSw; (try dsimp only at hSw); go_simp; try with_reducible rfl)
            case hS => assumption
            (try simp only [Act.put, List.setIfInBounds_toArray, List.set_cons_zero, List.set_cons_succ])
            apply takeH (i := 12) rfl (by kernel_rfl) (by kernel_rfl) (by kernel_rfl) (fun _ _ _ h => h) (by rfl)
            case hy => (intro w hSw; (try dsimp only at hSw); go_simp; try with_reducible rfl)
            case hS => assumption
            (try simp only [Act.put, List.setIfInBounds_toArray, List.set_cons_zero, List.set_cons_succ])
            apply takeH (i := 13) rfl (by kernel_rfl) (by kernel_rfl) (by kernel_rfl) (fun _ _ _ h => h) (by rfl)
            case hy => (intro w hSw; (try dsimp only at hSw); go_simp; try with_reducible rfl)
            case hS => assumption
            (try simp only [Act.put, List.setIfInBounds_toArray, List.set_cons_zero, List.set_cons_succ])
            refine doH (i := 8) rfl (by kernel_rfl) (by rfl) (fun K hK => ?_)
            go_simp
            (go_at_call 14; refine (HV.out _).mono ?_; rintro e y1 ⟨rfl, hy1⟩; have hE1 : Below wz.heap.size wz y1 := (Below.refl _ _).drew.trans hy1)
            go_wp2_with fail
            refine hK.out _ _ ?_ (fun hHeld8 => ?_)
            · (refine HKQ.out _ ?_; first | exact hE2 | exact hE1 | exact (Below.refl _ _).drew | exact Below.refl _ _)
            clear hK K hHeld0
            (try simp only [Act.put, List.setIfInBounds_toArray, List.set_cons_zero, List.set_cons_succ])
            refine doH (i := 14) rfl (by kernel_rfl) (by rfl) (fun K hK => ?_)
            go_simp
            (go_at_call 20; refine (HH.out _).mono ?_; rintro e y2 ⟨rfl, hy2⟩; have hE2 : Below wz.heap.size wz y2 := hE1.trans (hy2.mono hE1.size))
            go_wp2_with fail
            refine hK.out _ _ ?_ (fun hHeld14 => ?_)
            · (refine HKQ.out _ ?_; first | exact hE2 | exact hE1 | exact (Below.refl _ _).drew | exact Below.refl _ _)
            clear hK K hHeld8
            (try simp only [Act.put, List.setIfInBounds_toArray, List.set_cons_zero, List.set_cons_succ])
            apply takeH (i := 15) rfl (by kernel_rfl) (by kernel_rfl) (by kernel_rfl) (fun _ _ _ h => h) (by rfl)
            case hy => (intro w hSw; (try dsimp only at hSw); go_simp; try with_reducible rfl)
            case hS => assumption
            (try simp only [Act.put, List.setIfInBounds_toArray, List.set_cons_zero, List.set_cons_succ])
            apply takeH (i := 16) rfl (by kernel_rfl) (by kernel_rfl) (by kernel_rfl) (fun _ _ _ h => h) (by rfl)
            case hy => (intro w hSw; (try dsimp only at hSw); go_simp; try with_reducible rfl)
            case hS => assumption
            (try simp only [Act.put, List.setIfInBounds_toArray, List.set_cons_zero, List.set_cons_succ])
            refine wpAnyH_done (by kernel_rfl) ?_ _
            have hBE := HBZ.out.trans (hE2.mono HBZ.out.size)
            go_wp2
            go_ret
            exact ⟨rfl, hBE⟩
          · have q2' : (((m5 : Nat) : Int) == 2) = false := by rw [beq_eq_false_iff_ne]; omega
            by_cases q3 : m5 = 3
            · subst q3
              have hge : (32 : Int) ≤ (SB.size : Int) := by omega
              have hge2 : 32 ≤ SB.size := by omega
              have hsz : (S0.extract 0 (SB.size - 32)).size ≤ 1000000 := by rw [ByteArray.size_extract]; omega
              obtain ⟨TH, hTH⟩ : ∃ TH, ((m2 : Int) == 0) = TH := ⟨_, rfl⟩
              go_wp2
              generalize S0.extract 0 (SB.size - 32) = S2 at *
              generalize wy = wz at *
              have hTz := hTz0
              have hEz := hEz0
              have hKz := hKz0
              have hXz := hXz0
              have hBz := hBz0
              clear hcv hTz0 hEz0 hKz0 hXz0 hBz0 hge hge2
              have HKQ : Hid (∀ W, Below wz.heap.size wz W → ((loadVar 29 ⟨gt, 0, none⟩).run Try.prog W = .ok (.agg tabV) W ∧ (loadVar 43 ⟨ge, 0, none⟩).run Try.prog W = .ok (.agg EE) W ∧ (loadVar 9 ⟨B, 0, none⟩).run Try.prog W = .ok (.string k) W ∧ (loadVar 9 ⟨B, 1, none⟩).run Try.prog W = .ok (.string v) W ∧ (loadVar 33 ⟨B, 0, none⟩).run Try.prog W = .ok (.agg #[.string k, .string v]) W) ∧ Below wz.heap.size wz W) :=
                Lib.hid fun W hW => ⟨⟨tab_run (hTz.below hW hTz.lt), HEL.out W (hEz.below hW hEz.lt), txt_load ((hKz.below hW hKz.lt).cell 0), txt_load ((hKz.below hW hKz.lt).cell 1), pair_load (o := 0) ((hKz.below hW hKz.lt).cell 0) ((hKz.below hW hKz.lt).cell 1)⟩, hW⟩
              have HV := Lib.hid (fun W => HVE.out rt TH S2 hsz W)
              have HH := Lib.hid (fun W => HHO.out rt TH S2 hsz W)
              generalize verS rt k v TH S2 = VS at *
              have hvv : (VS == VS) = true := beq_self_eq_true VS
              have HBZ := Lib.hid hBz
              clear hTz hEz hKz hXz hBz HVE HHO HEL hsz l5
              go_wp2
              refine wp_region_held_drew (S := fun W => ((loadVar 29 ⟨gt, 0, none⟩).run Try.prog W = .ok (.agg tabV) W ∧ (loadVar 43 ⟨ge, 0, none⟩).run Try.prog W = .ok (.agg EE) W ∧ (loadVar 9 ⟨B, 0, none⟩).run Try.prog W = .ok (.string k) W ∧ (loadVar 9 ⟨B, 1, none⟩).run Try.prog W = .ok (.string v) W ∧ (loadVar 33 ⟨B, 0, none⟩).run Try.prog W = .ok (.agg #[.string k, .string v]) W) ∧ Below wz.heap.size wz W) (by kernel_rfl) ?_ (fun hHeld0 => ?_)
              · (refine HKQ.out _ ?_; first | exact hE2 | exact hE1 | exact (Below.refl _ _).drew | exact Below.refl _ _)
              apply takeH (i := 0) rfl (by kernel_rfl) (by kernel_rfl) (by kernel_rfl) (fun _ _ _ h => h) (by rfl)
              case hy => (intro w hSw; (try dsimp only at hSw); go_simp; try with_reducible rfl)
              case hS => assumption
              (try simp only [Act.put, List.setIfInBounds_toArray, List.set_cons_zero, List.set_cons_succ])
              apply takeH (i := 1) rfl (by kernel_rfl) (by kernel_rfl) (by kernel_rfl) (fun _ _ _ h => h) (by rfl)
              case hy => (intro w hSw; (try dsimp only at hSw); go_simp; try with_reducible rfl)
              case hS => assumption
              (try simp only [Act.put, List.setIfInBounds_toArray, List.set_cons_zero, List.set_cons_succ])
              apply takeH (i := 2) rfl (by kernel_rfl) (by kernel_rfl) (by kernel_rfl) (fun _ _ _ h => h) (by rfl)
              case hy => (intro w hSw; (try dsimp only at hSw); go_simp; try with_reducible rfl)
              case hS => assumption
              (try simp only [Act.put, List.setIfInBounds_toArray, List.set_cons_zero, List.set_cons_succ])
              apply takeH (i := 3) rfl (by kernel_rfl) (by kernel_rfl) (by kernel_rfl) (fun _ _ _ h => h) (by rfl)
              case hy => (intro w hSw; (try dsimp only at hSw); go_simp; try with_reducible rfl)
              case hS => assumption
              (try simp only [Act.put, List.setIfInBounds_toArray, List.set_cons_zero, List.set_cons_succ])
              apply takeH (i := 4) rfl (by kernel_rfl) (by kernel_rfl) (by kernel_rfl) (fun _ _ _ h => h) (by rfl)
              case hy => (intro w hSw; (try dsimp only at hSw); go_simp; try with_reducible rfl)
              case hS => assumption
              (try simp only [Act.put, List.setIfInBounds_toArray, List.set_cons_zero, List.set_cons_succ])
              apply takeH (i := 5) rfl (by kernel_rfl) (by kernel_rfl) (by kernel_rfl) (fun _ _ _ h => h) (by rfl)
              case hy => (intro w hSw; (try dsimp only at hSw); go_simp; try with_reducible rfl)
              case hS => assumption
              (try simp only [Act.put, List.setIfInBounds_toArray, List.set_cons_zero, List.set_cons_succ])
              apply takeH (i := 6) rfl (by kernel_rfl) (by kernel_rfl) (by kernel_rfl) (fun _ _ _ h => h) (by rfl)
              case hy => (intro w hSw; (try dsimp only at hSw); go_simp; try with_reducible rfl)
              case hS => assumption
              (try simp only [Act.put, List.setIfInBounds_toArray, List.set_cons_zero, List.set_cons_succ])
              apply takeH (i := 7) rfl (by kernel_rfl) (by kernel_rfl) (by kernel_rfl) (fun _ _ _ h => h) (by rfl)
              case hy => (intro w hSw; (try dsimp only at hSw); go_simp; try with_reducible rfl)
              case hS => assumption
              (try simp only [Act.put, List.setIfInBounds_toArray, List.set_cons_zero, List.set_cons_succ])
              apply takeH (i := 9) rfl (by kernel_rfl) (by kernel_rfl) (by kernel_rfl) (fun _ _ _ h => h) (by rfl)
              case hy => (intro w hSw; (try dsimp only at hSw); go_simp; try with_reducible rfl)
              case hS => assumption
              (try simp only [Act.put, List.setIfInBounds_toArray, List.set_cons_zero, List.set_cons_succ])
              apply takeH (i := 10) rfl (by kernel_rfl) (by kernel_rfl) (by kernel_rfl) (fun _ _ _ h => h) (by rfl)
              case hy => (intro w hSw; (try dsimp only at hSw); go_simp; try with_reducible rfl)
              case hS => assumption
              (try simp only [Act.put, List.setIfInBounds_toArray, List.set_cons_zero, List.set_cons_succ])
              apply takeH (i := 11) rfl (by kernel_rfl) (by kernel_rfl) (by kernel_rfl) (fun _ _ _ h => h) (by rfl)
              case hy => (intro w hSw; (try dsimp only at hSw); go_simp; try with_reducible rfl)
              case hS => assumption
              (try simp only [Act.put, List.setIfInBounds_toArray, List.set_cons_zero, List.set_cons_succ])
              apply takeH (i := 12) rfl (by kernel_rfl) (by kernel_rfl) (by kernel_rfl) (fun _ _ _ h => h) (by rfl)
              case hy => (intro w hSw; (try dsimp only at hSw); go_simp; try with_reducible rfl)
              case hS => assumption
              (try simp only [Act.put, List.setIfInBounds_toArray, List.set_cons_zero, List.set_cons_succ])
              apply takeH (i := 13) rfl (by kernel_rfl) (by kernel_rfl) (by kernel_rfl) (fun _ _ _ h => h) (by rfl)
              case hy => (intro w hSw; (try dsimp only at hSw); go_simp; try with_reducible rfl)
              case hS => assumption
              (try simp only [Act.put, List.setIfInBounds_toArray, List.set_cons_zero, List.set_cons_succ])
              refine doH (i := 8) rfl (by kernel_rfl) (by rfl) (fun K hK => ?_)
              go_simp
              (go_at_call 14; refine (HV.out _).mono ?_; rintro e y1 ⟨rfl, hy1⟩; have hE1 : Below wz.heap.size wz y1 := (Below.refl _ _).drew.trans hy1)
              go_wp2_with fail
              refine hK.out _ _ ?_ (fun hHeld8 => ?_)
              · (refine HKQ.out _ ?_; first | exact hE2 | exact hE1 | exact (Below.refl _ _).drew | exact Below.refl _ _)
              clear hK K hHeld0
              (try simp only [Act.put, List.setIfInBounds_toArray, List.set_cons_zero, List.set_cons_succ])
              refine doH (i := 14) rfl (by kernel_rfl) (by rfl) (fun K hK => ?_)
              go_simp
              (go_at_call 20; refine (HH.out _).mono ?_; rintro e y2 ⟨rfl, hy2⟩; have hE2 : Below wz.heap.size wz y2 := hE1.trans (hy2.mono hE1.size))
              go_wp2_with fail
              refine hK.out _ _ ?_ (fun hHeld14 => ?_)
              · (refine HKQ.out _ ?_; first | exact hE2 | exact hE1 | exact (Below.refl _ _).drew | exact Below.refl _ _)
              clear hK K hHeld8
              (try simp only [Act.put, List.setIfInBounds_toArray, List.set_cons_zero, List.set_cons_succ])
              apply takeH (i := 15) rfl (by kernel_rfl) (by kernel_rfl) (by kernel_rfl) (fun _ _ _ h => h) (by rfl)
              case hy => (intro w hSw; (try dsimp only at hSw); go_simp; try with_reducible rfl)
              case hS => assumption
              (try simp only [Act.put, List.setIfInBounds_toArray, List.set_cons_zero, List.set_cons_succ])
              apply takeH (i := 16) rfl (by kernel_rfl) (by kernel_rfl) (by kernel_rfl) (fun _ _ _ h => h) (by rfl)
              case hy => (intro w hSw; (try dsimp only at hSw); go_simp; try with_reducible rfl)
              case hS => assumption
              (try simp only [Act.put, List.setIfInBounds_toArray, List.set_cons_zero, List.set_cons_succ])
              refine wpAnyH_done (by kernel_rfl) ?_ _
              have hBE := HBZ.out.trans (hE2.mono HBZ.out.size)
              go_wp2
              go_ret
              exact ⟨rfl, hBE⟩
            · have q3' : (((m5 : Nat) : Int) == 3) = false := by rw [beq_eq_false_iff_ne]; omega
              have hsz : S0.size ≤ 1000000 := by omega
              obtain ⟨TH, hTH⟩ : ∃ TH, ((m2 : Int) == 0) = TH := ⟨_, rfl⟩
              go_wp2
              generalize wy = wz at *
              have hTz := hTz0
              have hEz := hEz0
              have hKz := hKz0
              have hXz := hXz0
              have hBz := hBz0
              clear hcv hTz0 hEz0 hKz0 hXz0 hBz0
              have HKQ : Hid (∀ W, Below wz.heap.size wz W → ((loadVar 29 ⟨gt, 0, none⟩).run Try.prog W = .ok (.agg tabV) W ∧ (loadVar 43 ⟨ge, 0, none⟩).run Try.prog W = .ok (.agg EE) W ∧ (loadVar 9 ⟨B, 0, none⟩).run Try.prog W = .ok (.string k) W ∧ (loadVar 9 ⟨B, 1, none⟩).run Try.prog W = .ok (.string v) W ∧ (loadVar 33 ⟨B, 0, none⟩).run Try.prog W = .ok (.agg #[.string k, .string v]) W) ∧ Below wz.heap.size wz W) :=
                Lib.hid fun W hW => ⟨⟨tab_run (hTz.below hW hTz.lt), HEL.out W (hEz.below hW hEz.lt), txt_load ((hKz.below hW hKz.lt).cell 0), txt_load ((hKz.below hW hKz.lt).cell 1), pair_load (o := 0) ((hKz.below hW hKz.lt).cell 0) ((hKz.below hW hKz.lt).cell 1)⟩, hW⟩
              have HV := Lib.hid (fun W => HVE.out rt TH S0 hsz W)
              have HH := Lib.hid (fun W => HHO.out rt TH S0 hsz W)
              generalize verS rt k v TH S0 = VS at *
              have hvv : (VS == VS) = true := beq_self_eq_true VS
              have HBZ := Lib.hid hBz
              clear hTz hEz hKz hXz hBz HVE HHO HEL hsz l5
              go_wp2
              refine wp_region_held_drew (S := fun W => ((loadVar 29 ⟨gt, 0, none⟩).run Try.prog W = .ok (.agg tabV) W ∧ (loadVar 43 ⟨ge, 0, none⟩).run Try.prog W = .ok (.agg EE) W ∧ (loadVar 9 ⟨B, 0, none⟩).run Try.prog W = .ok (.string k) W ∧ (loadVar 9 ⟨B, 1, none⟩).run Try.prog W = .ok (.string v) W ∧ (loadVar 33 ⟨B, 0, none⟩).run Try.prog W = .ok (.agg #[.string k, .string v]) W) ∧ Below wz.heap.size wz W) (by kernel_rfl) ?_ (fun hHeld0 => ?_)
              · (refine HKQ.out _ ?_; first | exact hE2 | exact hE1 | exact (Below.refl _ _).drew | exact Below.refl _ _)
              apply takeH (i := 0) rfl (by kernel_rfl) (by kernel_rfl) (by kernel_rfl) (fun _ _ _ h => h) (by rfl)
              case hy => (intro w hSw; (try dsimp only at hSw); go_simp; try with_reducible rfl)
              case hS => assumption
              (try simp only [Act.put, List.setIfInBounds_toArray, List.set_cons_zero, List.set_cons_succ])
              apply takeH (i := 1) rfl (by kernel_rfl) (by kernel_rfl) (by kernel_rfl) (fun _ _ _ h => h) (by rfl)
              case hy => (intro w hSw; (try dsimp only at hSw); go_simp; try with_reducible rfl)
              case hS => assumption
              (try simp only [Act.put, List.setIfInBounds_toArray, List.set_cons_zero, List.set_cons_succ])
              apply takeH (i := 2) rfl (by kernel_rfl) (by kernel_rfl) (by kernel_rfl) (fun _ _ _ h => h) (by rfl)
              case hy => (intro w hSw; (try dsimp only at hSw); go_simp; try with_reducible rfl)
              case hS => assumption
              (try simp only [Act.put, List.setIfInBounds_toArray, List.set_cons_zero, List.set_cons_succ])
              apply takeH (i := 3) rfl (by kernel_rfl) (by kernel_rfl) (by kernel_rfl) (fun _ _ _ h => h) (by rfl)
              case hy => (intro w hSw; (try dsimp only at hSw); go_simp; try with_reducible rfl)
              case hS => assumption
              (try simp only [Act.put, List.setIfInBounds_toArray, List.set_cons_zero, List.set_cons_succ])
              apply takeH (i := 4) rfl (by kernel_rfl) (by kernel_rfl) (by kernel_rfl) (fun _ _ _ h => h) (by rfl)
              case hy => (intro w hSw; (try dsimp only at hSw); go_simp; try with_reducible rfl)
              case hS => assumption
              (try simp only [Act.put, List.setIfInBounds_toArray, List.set_cons_zero, List.set_cons_succ])
              apply takeH (i := 5) rfl (by kernel_rfl) (by kernel_rfl) (by kernel_rfl) (fun _ _ _ h => h) (by rfl)
              case hy => (intro w hSw; (try dsimp only at hSw); go_simp; try with_reducible rfl)
              case hS => assumption
              (try simp only [Act.put, List.setIfInBounds_toArray, List.set_cons_zero, List.set_cons_succ])
              apply takeH (i := 6) rfl (by kernel_rfl) (by kernel_rfl) (by kernel_rfl) (fun _ _ _ h => h) (by rfl)
              case hy => (intro w hSw; (try dsimp only at hSw); go_simp; try with_reducible rfl)
              case hS => assumption
              (try simp only [Act.put, List.setIfInBounds_toArray, List.set_cons_zero, List.set_cons_succ])
              apply takeH (i := 7) rfl (by kernel_rfl) (by kernel_rfl) (by kernel_rfl) (fun _ _ _ h => h) (by rfl)
              case hy => (intro w hSw; (try dsimp only at hSw); go_simp; try with_reducible rfl)
              case hS => assumption
              (try simp only [Act.put, List.setIfInBounds_toArray, List.set_cons_zero, List.set_cons_succ])
              apply takeH (i := 9) rfl (by kernel_rfl) (by kernel_rfl) (by kernel_rfl) (fun _ _ _ h => h) (by rfl)
              case hy => (intro w hSw; (try dsimp only at hSw); go_simp; try with_reducible rfl)
              case hS => assumption
              (try simp only [Act.put, List.setIfInBounds_toArray, List.set_cons_zero, List.set_cons_succ])
              apply takeH (i := 10) rfl (by kernel_rfl) (by kernel_rfl) (by kernel_rfl) (fun _ _ _ h => h) (by rfl)
              case hy => (intro w hSw; (try dsimp only at hSw); go_simp; try with_reducible rfl)
              case hS => assumption
              (try simp only [Act.put, List.setIfInBounds_toArray, List.set_cons_zero, List.set_cons_succ])
              apply takeH (i := 11) rfl (by kernel_rfl) (by kernel_rfl) (by kernel_rfl) (fun _ _ _ h => h) (by rfl)
              case hy => (intro w hSw; (try dsimp only at hSw); go_simp; try with_reducible rfl)
              case hS => assumption
              (try simp only [Act.put, List.setIfInBounds_toArray, List.set_cons_zero, List.set_cons_succ])
              apply takeH (i := 12) rfl (by kernel_rfl) (by kernel_rfl) (by kernel_rfl) (fun _ _ _ h => h) (by rfl)
              case hy => (intro w hSw; (try dsimp only at hSw); go_simp; try with_reducible rfl)
              case hS => assumption
              (try simp only [Act.put, List.setIfInBounds_toArray, List.set_cons_zero, List.set_cons_succ])
              apply takeH (i := 13) rfl (by kernel_rfl) (by kernel_rfl) (by kernel_rfl) (fun _ _ _ h => h) (by rfl)
              case hy => (intro w hSw; (try dsimp only at hSw); go_simp; try with_reducible rfl)
              case hS => assumption
              (try simp only [Act.put, List.setIfInBounds_toArray, List.set_cons_zero, List.set_cons_succ])
              refine doH (i := 8) rfl (by kernel_rfl) (by rfl) (fun K hK => ?_)
              go_simp
              (go_at_call 14; refine (HV.out _).mono ?_; rintro e y1 ⟨rfl, hy1⟩; have hE1 : Below wz.heap.size wz y1 := (Below.refl _ _).drew.trans hy1)
              go_wp2_with fail
              refine hK.out _ _ ?_ (fun hHeld8 => ?_)
              · (refine HKQ.out _ ?_; first | exact hE2 | exact hE1 | exact (Below.refl _ _).drew | exact Below.refl _ _)
              clear hK K hHeld0
              (try simp only [Act.put, List.setIfInBounds_toArray, List.set_cons_zero, List.set_cons_succ])
              refine doH (i := 14) rfl (by kernel_rfl) (by rfl) (fun K hK => ?_)
              go_simp
              (go_at_call 20; refine (HH.out _).mono ?_; rintro e y2 ⟨rfl, hy2⟩; have hE2 : Below wz.heap.size wz y2 := hE1.trans (hy2.mono hE1.size))
              go_wp2_with fail
              refine hK.out _ _ ?_ (fun hHeld14 => ?_)
              · (refine HKQ.out _ ?_; first | exact hE2 | exact hE1 | exact (Below.refl _ _).drew | exact Below.refl _ _)
              clear hK K hHeld8
              (try simp only [Act.put, List.setIfInBounds_toArray, List.set_cons_zero, List.set_cons_succ])
              apply takeH (i := 15) rfl (by kernel_rfl) (by kernel_rfl) (by kernel_rfl) (fun _ _ _ h => h) (by rfl)
              case hy => (intro w hSw; (try dsimp only at hSw); go_simp; try with_reducible rfl)
              case hS => assumption
              (try simp only [Act.put, List.setIfInBounds_toArray, List.set_cons_zero, List.set_cons_succ])
              apply takeH (i := 16) rfl (by kernel_rfl) (by kernel_rfl) (by kernel_rfl) (fun _ _ _ h => h) (by rfl)
              case hy => (intro w hSw; (try dsimp only at hSw); go_simp; try with_reducible rfl)
              case hS => assumption
              (try simp only [Act.put, List.setIfInBounds_toArray, List.set_cons_zero, List.set_cons_succ])
              refine wpAnyH_done (by kernel_rfl) ?_ _
              have hBE := HBZ.out.trans (hE2.mono HBZ.out.size)
              go_wp2
              go_ret
              exact ⟨rfl, hBE⟩
end
end Go.Proofs.Ytedkhcjbppknpaa
