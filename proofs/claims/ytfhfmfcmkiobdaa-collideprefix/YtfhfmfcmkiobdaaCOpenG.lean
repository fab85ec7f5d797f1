/-
  Layer 8: a consistency proof opened; both roots.
-/
import Derived.Test.YtfhfmfcmkiobdaaCGrow
import Derived.Test.YtfhfmfcmkiobdaaCConc
import Derived.Test.YtfhfmfcmkiobdaaCTail
import Derived.Test.YtfhfmfcmkiobdaaCRefB
namespace Go.Proofs.Ytfhfmfcmkiobdaa
open Go.RowKit

abbrev zgrw : Array Value := #[.string ⟨#[]⟩, .string ⟨#[]⟩, .slice none 0 0, .slice none 0 0]
/-- what openGrowth answers -/
def RGO (o : Option (ByteArray × ByteArray × List ByteArray × List ByteArray)) (w : World) (e : Ending) (w' : World) : Prop :=
  (match o with
  | none => e = .returned (.tuple #[.agg zgrw, .bool false])
  | some T => ∃ oe ce ol cl, e = .returned (.tuple #[.agg #[.string T.1, .string T.2.1, .slice oe T.2.2.1.length ce, .slice ol T.2.2.2.length cl], .bool true]) ∧ Strs w' oe T.2.2.1 ∧ Strs w' ol T.2.2.2 ∧ T.2.2.1.length ≤ ce ∧ T.2.2.2.length ≤ cl) ∧ Below w.heap.size w w'
set_option maxRecDepth 100000 in
set_option maxHeartbeats 2000000 in
theorem openGrowth_bad (g : Nat) (M N : Int) (first : ByteArray) (hfl : first.size ≤ 1000) (s : Value) (hbad : M < 1 ∨ N < M ∨ 1048576 < N ∨ first.size ≠ 32) (w : World) :
    Calls Try.prog 27 #[.func (.func g) #[] #[], .int .i64 M, .int .i64 N, .string first, s] w (RGO none w) := by
  obtain ⟨B, hB⟩ : ∃ B, w.heap.size = B := ⟨_, rfl⟩
  obtain ⟨w0, hw0⟩ : ∃ w0, w.alloc (.cells zgrw 55) = w0 := ⟨_, rfl⟩
  have hT : Blk w0 B 55 zgrw := by rw [← hw0, ← hB]; exact Blk.new _ _ _
  have hB0 : Below w.heap.size w w0 := by rw [← hw0]; exact (Below.refl _ w).alloc (Nat.le_refl _) _
  have HW0 := Lib.hid hw0
  have hnil := func_nil g
  have s0 : w0.cell? ⟨B, 0, none⟩ = some (.string ⟨#[]⟩) := hT.cell 0
  have s1 : w0.cell? ⟨B, 1, none⟩ = some (.string ⟨#[]⟩) := hT.cell 1
  have s2 : w0.cell? ⟨B, 2, none⟩ = some (.slice none 0 0) := hT.cell 2
  have s3 : w0.cell? ⟨B, 3, none⟩ = some (.slice none 0 0) := hT.cell 3
  have t0 := hT.frozen 0
  have t1 := hT.frozen 1
  have t2 := hT.frozen 2
  have t3 := hT.frozen 3
  have HRES := Lib.hid ((((hT.set_ 0 (.string ⟨#[]⟩)).set_ 1 (.string ⟨#[]⟩)).set_ 2 (.slice none 0 0)).set_ 3 (.slice none 0 0))
  have HB0 := Lib.hid ((((hB0.setCell (p := ⟨B, 0, none⟩) (by show w.heap.size ≤ B; omega) (.string ⟨#[]⟩)).setCell (p := ⟨B, 1, none⟩) (by show w.heap.size ≤ B; omega) (.string ⟨#[]⟩)).setCell (p := ⟨B, 2, none⟩) (by show w.heap.size ≤ B; omega) (.slice none 0 0)).setCell (p := ⟨B, 3, none⟩) (by show w.heap.size ≤ B; omega) (.slice none 0 0))
  clear hw0 hT hB0
  by_cases n1 : M < 1
  · clear hbad
    go_enter Try.func27, Try.ntmps27
    go_wp2_with (rw [HW0.out])
    refine bodyPost_ret (results_grw rfl _ _ B 55 zgrw _ rfl HRES.out Try.underlying55 rfl infoGrw) rfl ?_
    exact ⟨rfl, HB0.out⟩
  · by_cases n2 : N < M
    · clear hbad
      go_enter Try.func27, Try.ntmps27
      go_wp2_with (rw [HW0.out])
      refine bodyPost_ret (results_grw rfl _ _ B 55 zgrw _ rfl HRES.out Try.underlying55 rfl infoGrw) rfl ?_
      exact ⟨rfl, HB0.out⟩
    · by_cases n3 : 1048576 < N
      · clear hbad
        go_enter Try.func27, Try.ntmps27
        go_wp2_with (rw [HW0.out])
        refine bodyPost_ret (results_grw rfl _ _ B 55 zgrw _ rfl HRES.out Try.underlying55 rfl infoGrw) rfl ?_
        exact ⟨rfl, HB0.out⟩
      · have n4 : ((first.size : Int) != 32) = true := by rw [bne_iff_ne]; omega
        clear hbad
        go_enter Try.func27, Try.ntmps27
        go_wp2_with (rw [HW0.out])
        refine bodyPost_ret (results_grw rfl _ _ B 55 zgrw _ rfl HRES.out Try.underlying55 rfl infoGrw) rfl ?_
        exact ⟨rfl, HB0.out⟩
theorem hashes_of {E : List Bool} {first : ByteArray} (hf : first.size = 32) {ss : List ByteArray} : allC (if E.contains true then ss else first :: ss) = allC ss := by
  by_cases h : E.contains true = true
  · rw [if_pos h]
  · rw [if_neg h, Bool.eq_iff_iff]
    unfold allC
    rw [decide_eq_true_iff, decide_eq_true_iff]
    constructor
    · intro k i hi
      have := k (i + 1) (by simp; omega)
      exact this
    · intro k i hi
      cases i with
      | zero => exact hf
      | succ i => exact k i (by simp at hi; omega)
theorem add_rev (E : List Bool) (first : ByteArray) (ss : List ByteArray) : addF first true E ss.reverse = (if E.contains true then ss else first :: ss).reverse := by
  unfold addF
  cases E.contains true <;> simp
theorem contains_rev (E : List Bool) : E.reverse.contains true = E.contains true := by
  rw [Bool.eq_iff_iff]; simp
set_option maxRecDepth 100000 in
set_option maxHeartbeats 8000000 in
theorem openGrowth_in {g : Nat} {h : ByteArray → ByteArray} (H : Hsh g h) (m n : Nat) (h1 : 1 ≤ m) (hmn : m ≤ n) (hn : n ≤ 1048576) (first : ByteArray) (hf : first.size = 32) (oa : Option Addr) (len cap : Nat) (ss : List ByteArray) (hl : ss.length = len) (hm : len ≤ 40) (hcap : len ≤ cap) (hnil0 : oa = none → len = 0 ∧ cap = 0) (hsz : ∀ s ∈ ss, s.size ≤ 9223372036854775807) (w : World) (hc : Strs w oa ss) :
    Calls Try.prog 27 #[.func (.func g) #[] #[], .int .i64 m, .int .i64 n, .string first, .slice oa len cap] w (RGO (if allC ss = true then gro h (we (m - 1) n) (addF first true (we (m - 1) n) ss.reverse) else none) w) := by
  have HWay := Lib.hid (fun W => wayToEnd_any m n h1 hmn hn W)
  have hwl := we_len (m - 1) n
  rw [add_rev]
  obtain ⟨E, hE⟩ : ∃ E, we (m - 1) n = E := ⟨_, rfl⟩
  rw [hE] at HWay hwl ⊢
  clear hE
  have HAC := Lib.hid (hashes_of (E := E) hf (ss := ss))
  have HER := Lib.hid (contains_rev E)
  have HLR := Lib.hid (show E.reverse.length = E.length from List.length_reverse)
  obtain ⟨B, hB⟩ : ∃ B, w.heap.size = B := ⟨_, rfl⟩
  obtain ⟨w0, hw0⟩ : ∃ w0, w.alloc (.cells zgrw 55) = w0 := ⟨_, rfl⟩
  have hT : Blk w0 B 55 zgrw := by rw [← hw0, ← hB]; exact Blk.new _ _ _
  have hB0 : Below w.heap.size w w0 := by rw [← hw0]; exact (Below.refl _ w).alloc (Nat.le_refl _) _
  have HW0 := Lib.hid hw0
  have hnil := func_nil g
  have n1 : ¬ (m : Int) < 1 := by omega
  have n2 : ¬ (n : Int) < (m : Int) := by omega
  have n3 : ¬ (1048576 : Int) < (n : Int) := by omega
  have n4 : ((first.size : Int) != 32) = false := by rw [hf]; rfl
  have hfl : first.size ≤ 1000 := by omega
  have HC := Lib.hid hc
  have HL := Lib.hid hl
  have HSZ := Lib.hid hsz
  have HNIL := Lib.hid hnil0
  have HF := Lib.hid hf
  have HH := Lib.hid H
  clear hw0 hc hl hsz hnil0 hf H
  by_cases hcb : E.contains true = true
  · have HCB := Lib.hid hcb
    rw [if_pos hcb]
    clear hcb HAC
    by_cases hok : (decide (len = E.length + 1) && allC ss) = true
    · have HOK := Lib.hid hok
      rw [Bool.and_eq_true, decide_eq_true_iff] at hok
      obtain ⟨hle, ha⟩ := hok
      rw [if_pos ha]
      have HALL := Lib.hid (show allC ss = true by first | exact ha | (rw [HAC.out]; exact ha))
      obtain ⟨low, T', hLT⟩ : ∃ low T', ss = low :: T' := by
        cases hL : ss with
        | nil => exact absurd (congrArg List.length hL) (by rw [HL.out]; show ¬ len = 0; omega)
        | cons low T' => exact ⟨low, T', rfl⟩
      rw [hLT]
      have hlT : T'.length = E.length := by have := HL.out; rw [hLT] at this; simp at this; omega
      have hsome : (gro h E (low :: T').reverse).isSome = true := by rw [gro_len, decide_eq_true_iff]; simp; omega
      obtain ⟨T, hT9⟩ := Option.isSome_iff_exists.1 hsome
      rw [hT9]
      rw [List.reverse_cons] at hT9
      have HALL' : Hid (allC (low :: T') = true) := Lib.hid (by rw [← hLT]; exact HALL.out)
      have HG := Lib.hid (fun (oaw : Option Addr) (capw : Nat) (ot : Option Addr) (cp : Nat) W (hb : Bools W oaw E.reverse) (hs : Strs W ot T') => cgrow_any HH.out E oaw E.length capw (by omega) HLR.out low (allC_at HALL'.out (by simp)) ot cp T' hlT (fun q hq => allC_at HALL'.out (by simp [hq])) T hT9 W hb hs)
      obtain ⟨a, s, ea, la⟩ := T
      have HLT := Lib.hid hLT
      have HLTl := Lib.hid hlT
      clear hLT hlT hsome hT9 ha HALL hle
      go_enter Try.func27, Try.ntmps27
      go_wp2_with (first | rw [HW0.out])
      refine (HWay.out _).mono ?_
      rintro e w1 ⟨vw, rfl, hownW, hB1⟩
      obtain ⟨oaw, capw, rfl, hbools⟩ := hownW.form
      rw [HLR.out]
      have hT1 := hT.below hB1 hT.lt
      have hBw1 : Below w.heap.size w w1 := hB0.trans (hB1.mono hB0.size)
      clear hT hB0 hB1 HWay hownW n1 n2 n3 n4
      have hbc := bcontains_any oaw E.length capw E.reverse HLR.out (by omega) w1 hbools
      rw [HER.out, HCB.out] at hbc
      have HBC := Lib.hid hbc
      have hS1 := HC.out.below hBw1
      clear hbc
      go_wp2_with (go_at_call 36; refine HBC.out.mono ?_; rintro e w' ⟨rfl, hw'⟩; rw [hw']; clear hw' w')
      have hare := areHashes_any oa len cap (E.length + 1) (by omega) ss HL.out (by omega) HSZ.out w1 hS1
      rw [HOK.out] at hare
      have HARE := Lib.hid hare
      clear hare
      have hle : len = E.length + 1 := by have := HOK.out; rw [Bool.and_eq_true, decide_eq_true_iff] at this; exact this.1
      have hS := hS1
      rw [HLT.out] at hS
      obtain ⟨pa, rfl, hpb, hlow⟩ := hS 0 (by simp)
      rw [show pa.add 0 = pa by simp [Addr.add]] at hlow
      change w1.cell? pa = some (.string low) at hlow
      have hlow' : w1.drew.cell? pa = some (.string low) := hlow
      have hsl := slice_one (some pa) len cap (by omega) hcap
      have hlen1 : len - 1 = E.length := by omega
      rw [hlen1] at hsl
      have HTl := Lib.hid (strs_tail hS (cap := cap) (by have := HLTl.out; omega))
      generalize tailA (some pa) cap = ot at *
      have HKP := Lib.hid (show ∀ W', Below w1.heap.size w1 W' → W'.cell? pa = some (.string low) from fun W' hW => (hW.cell hpb).trans hlow)
      have hidx : (0 : Int) < (len : Int) := by omega
      have hidxN : 0 < len := by omega
      have HBo := Lib.hid hbools
      have hBs0 := hT1.lt
      have hpaB : pa.block ≠ B := (by obtain ⟨a9, e9, h9, _⟩ := HC.out 0 (by rw [HL.out]; omega); injection e9 with e9; subst e9; omega)
      have HPB := Lib.hid hpaB
      clear hS hlow hlen1 hpaB hle
      go_wp2_with (go_at_call 38; refine HARE.out.mono ?_; rintro e w' ⟨rfl, hw'⟩; rw [hw']; clear hw' w')
      refine wp_region_held_drew (S := fun W' => W'.cell? pa = some (.string low)) (by kernel_rfl) ?_ (fun hHeld0 => ?_)
      · (first | exact HK9 | exact HKP.out _ hb6 | exact HKP.out _ (Below.refl _ _).drew)
      apply takeH (i := 0) rfl (by kernel_rfl) (by kernel_rfl) (by kernel_rfl) (fun _ _ _ h => h) (by rfl)
      case hy => (intro w hSw; (try dsimp only at hSw); go_simp; try with_reducible rfl)
      case hS => assumption
      (try simp only [Act.put, List.setIfInBounds_toArray, List.set_cons_zero, List.set_cons_succ])
      apply takeH (i := 1) rfl (by kernel_rfl) (by kernel_rfl) (by kernel_rfl) (fun _ _ _ h => h) (by rfl)
      case hy => (intro w hSw; (try dsimp only at hSw); go_simp; try with_reducible rfl)
      case hS => assumption
      (try simp only [Act.put, List.setIfInBounds_toArray, List.set_cons_zero, List.set_cons_succ])
      apply takeH (i := 2) rfl (by kernel_rfl) (by kernel_rfl) (by kernel_rfl) (fun _ _ _ h => h) (by rfl)
      case hy => (intro w hSw; (try dsimp only at hSw); go_simp; try with_reducible rfl)
      case hS => assumption
      (try simp only [Act.put, List.setIfInBounds_toArray, List.set_cons_zero, List.set_cons_succ])
      apply takeH (i := 3) rfl (by kernel_rfl) (by kernel_rfl) (by kernel_rfl) (fun _ _ _ h => h) (by rfl)
      case hy => (intro w hSw; (try dsimp only at hSw); go_simp; try with_reducible rfl)
      case hS => assumption
      (try simp only [Act.put, List.setIfInBounds_toArray, List.set_cons_zero, List.set_cons_succ])
      apply takeH (i := 4) rfl (by kernel_rfl) (by kernel_rfl) (by kernel_rfl) (fun _ _ _ h => h) (by rfl)
      case hy => (intro w hSw; (try dsimp only at hSw); go_simp; try with_reducible rfl)
      case hS => assumption
      (try simp only [Act.put, List.setIfInBounds_toArray, List.set_cons_zero, List.set_cons_succ])
      apply takeH (i := 5) rfl (by kernel_rfl) (by kernel_rfl) (by kernel_rfl) (fun _ _ _ h => h) (by rfl)
      case hy => (intro w hSw; (try dsimp only at hSw); go_simp; try with_reducible rfl)
      case hS => assumption
      (try simp only [Act.put, List.setIfInBounds_toArray, List.set_cons_zero, List.set_cons_succ])
      apply takeH (i := 6) rfl (by kernel_rfl) (by kernel_rfl) (by kernel_rfl) (fun _ _ _ h => h) (by rfl)
      case hy => (intro w hSw; (try dsimp only at hSw); go_simp; try with_reducible rfl)
      case hS => assumption
      (try simp only [Act.put, List.setIfInBounds_toArray, List.set_cons_zero, List.set_cons_succ])
      refine doH (i := 7) rfl (by kernel_rfl) (by rfl) (fun K hK => ?_)
      go_simp
      refine (HG.out oaw capw ot _ _ (HBo.out.below (Below.refl _ _).drew) (HTl.out.below (Below.refl _ _).drew)).mono ?_
      rintro e w6 ⟨ve, vl, rfl, hoe, hol, hb6'⟩
      have hb6 : Below w1.heap.size w1 w6 := (Below.refl _ _).drew.trans hb6'
      obtain ⟨oe, ce, rfl, hSe, hce⟩ := hoe.formL
      obtain ⟨ol, cl, rfl, hSl, hcl⟩ := hol.formL
      have hT6 := hT1.below hb6 hT1.lt
      have hB6 := hBw1.trans (hb6.mono hBw1.size)
      have s0 : w6.cell? ⟨B, 0, none⟩ = some (.string ⟨#[]⟩) := hT6.cell 0
      have s1 : w6.cell? ⟨B, 1, none⟩ = some (.string ⟨#[]⟩) := hT6.cell 1
      have s2 : w6.cell? ⟨B, 2, none⟩ = some (.slice none 0 0) := hT6.cell 2
      have s3 : w6.cell? ⟨B, 3, none⟩ = some (.slice none 0 0) := hT6.cell 3
      have t0 := hT6.frozen 0
      have t1 := hT6.frozen 1
      have t2 := hT6.frozen 2
      have t3 := hT6.frozen 3
      change w6.ownsRow _ _ _ (.slice oe ea.length ce) _ _ at hoe
      change w6.ownsRow _ _ _ (.slice ol la.length cl) _ _ at hol
      change Strs w6 oe ea at hSe
      change Strs w6 ol la at hSl
      change ea.length ≤ ce at hce
      change la.length ≤ cl at hcl
      obtain ⟨ne, hne⟩ : ∃ n, ea.length = n := ⟨_, rfl⟩
      obtain ⟨nl, hnl⟩ : ∃ n, la.length = n := ⟨_, rfl⟩
      have HNE := Lib.hid hne
      have HNL := Lib.hid hnl
      try dsimp only
      rw [HNE.out, HNL.out]
      rw [hne] at hoe hce
      rw [hnl] at hol hcl
      have HRES := Lib.hid ((((hT6.set_ 0 (.string a)).set_ 1 (.string s)).set_ 2 (.slice oe ne ce)).set_ 3 (.slice ol nl cl))
      have hE7 := own_farC (own_farC (own_farC (own_farC (show Own w6 _ (.slice oe ne ce) ea from by unfold Own; rw [hne]; exact hoe) (p := ⟨B, 0, none⟩) (by show B < _; have : w1.drew.heap.size = w1.heap.size := rfl; omega) (.string a)) (p := ⟨B, 1, none⟩) (by show B < _; have : w1.drew.heap.size = w1.heap.size := rfl; omega) (.string s)) (p := ⟨B, 2, none⟩) (by show B < _; have : w1.drew.heap.size = w1.heap.size := rfl; omega) (.slice oe ne ce)) (p := ⟨B, 3, none⟩) (by show B < _; have : w1.drew.heap.size = w1.heap.size := rfl; omega) (.slice ol nl cl)
      have hL7 := own_farC (own_farC (own_farC (own_farC (show Own w6 _ (.slice ol nl cl) la from by unfold Own; rw [hnl]; exact hol) (p := ⟨B, 0, none⟩) (by show B < _; have : w1.drew.heap.size = w1.heap.size := rfl; omega) (.string a)) (p := ⟨B, 1, none⟩) (by show B < _; have : w1.drew.heap.size = w1.heap.size := rfl; omega) (.string s)) (p := ⟨B, 2, none⟩) (by show B < _; have : w1.drew.heap.size = w1.heap.size := rfl; omega) (.slice oe ne ce)) (p := ⟨B, 3, none⟩) (by show B < _; have : w1.drew.heap.size = w1.heap.size := rfl; omega) (.slice ol nl cl)
      have HE7 := Lib.hid hE7
      have HL7 := Lib.hid hL7
      have hB7 := (((hB6.setCell (p := ⟨B, 0, none⟩) (by show w.heap.size ≤ B; omega) (.string a)).setCell (p := ⟨B, 1, none⟩) (by show w.heap.size ≤ B; omega) (.string s)).setCell (p := ⟨B, 2, none⟩) (by show w.heap.size ≤ B; omega) (.slice oe ne ce)).setCell (p := ⟨B, 3, none⟩) (by show w.heap.size ≤ B; omega) (.slice ol nl cl)
      have HB7 := Lib.hid hB7
      have far : ∀ (W9 : World) (k : Nat) (u : Value), (W9.setCell ⟨B, k, none⟩ u).cell? pa = W9.cell? pa := fun W9 k u => World.cell?_setCell_other _ _ _ _ (by intro e; have := congrArg Addr.block e; exact HPB.out this.symm)
      have HK9 : ((((w6.setCell ⟨B, 0, none⟩ (.string a)).setCell ⟨B, 1, none⟩ (.string s)).setCell ⟨B, 2, none⟩ (.slice oe ne ce)).setCell ⟨B, 3, none⟩ (.slice ol nl cl)).cell? pa = some (.string low) := by rw [far, far, far, far]; exact HKP.out _ hb6
      clear hT6 hB6 hB7 hE7 hL7 hoe hol hSe hSl hnl hne far
      go_wp2_with fail
      refine hK.out _ _ ?_ (fun hHeld7 => ?_)
      · (first | exact HK9 | exact HKP.out _ hb6 | exact HKP.out _ (Below.refl _ _).drew)
      clear hK K hHeld0
      (try simp only [Act.put, List.setIfInBounds_toArray, List.set_cons_zero, List.set_cons_succ])
      refine doH (i := 8) rfl (by kernel_rfl) (by rfl) (fun K hK => ?_)
      go_simp
      refine hK.out _ _ ?_ (fun hHeld8 => ?_)
      · (first | exact HK9 | exact HKP.out _ hb6 | exact HKP.out _ (Below.refl _ _).drew)
      clear hK K hHeld7
      (try simp only [Act.put, List.setIfInBounds_toArray, List.set_cons_zero, List.set_cons_succ])
      apply takeH (i := 9) rfl (by kernel_rfl) (by kernel_rfl) (by kernel_rfl) (fun _ _ _ h => h) (by rfl)
      case hy => (intro w hSw; (try dsimp only at hSw); go_simp; try with_reducible rfl)
      case hS => assumption
      (try simp only [Act.put, List.setIfInBounds_toArray, List.set_cons_zero, List.set_cons_succ])
      refine wpAnyH_done (by kernel_rfl) ?_ _
      go_wp2
      refine bodyPost_ret (results_grw rfl _ _ B 55 #[.string a, .string s, .slice oe ne ce, .slice ol nl cl] _ rfl HRES.out Try.underlying55 rfl infoGrw) rfl ?_
      refine ⟨⟨oe, ce, ol, cl, ?_, ?_, ?_, ?_, ?_⟩, HB7.out⟩
      · show _ = Ending.returned (.tuple #[.agg #[.string a, .string s, .slice oe ea.length ce, .slice ol la.length cl], .bool true])
        rw [HNE.out, HNL.out]; rfl
      · obtain ⟨_, _, ex, hx⟩ := HE7.out.form; injection ex with ex1; subst ex1; exact hx
      · obtain ⟨_, _, ex, hx⟩ := HL7.out.form; injection ex with ex1; subst ex1; exact hx
      · show ea.length ≤ ce; rw [HNE.out]; exact hce
      · show la.length ≤ cl; rw [HNL.out]; exact hcl
    · have hok' : (decide (len = E.length + 1) && allC ss) = false := by simpa using hok
      have HOK := Lib.hid hok'
      have en : (if allC ss = true then gro h E (ss).reverse else none) = none := by
        by_cases ha : allC ss = true
        · rw [if_pos ha]
          have : (gro h E (ss).reverse).isSome = false := by
            rw [gro_len, decide_eq_false_iff_not, List.length_reverse, HL.out]
            rw [ha, Bool.and_true, decide_eq_false_iff_not] at hok'
            exact hok'
          cases hg : gro h E (ss).reverse with
          | none => rfl
          | some t => rw [hg] at this; cases this
        · rw [if_neg ha]
      rw [en]
      clear en hok hok'
      go_enter Try.func27, Try.ntmps27
      go_wp2_with (first | rw [HW0.out])
      refine (HWay.out _).mono ?_
      rintro e w1 ⟨vw, rfl, hownW, hB1⟩
      obtain ⟨oaw, capw, rfl, hbools⟩ := hownW.form
      rw [HLR.out]
      have hT1 := hT.below hB1 hT.lt
      have hBw1 : Below w.heap.size w w1 := hB0.trans (hB1.mono hB0.size)
      clear hT hB0 hB1 HWay hownW n1 n2 n3 n4
      have hbc := bcontains_any oaw E.length capw E.reverse HLR.out (by omega) w1 hbools
      rw [HER.out, HCB.out] at hbc
      have HBC := Lib.hid hbc
      have hS1 := HC.out.below hBw1
      clear hbc
      go_wp2_with (go_at_call 36; refine HBC.out.mono ?_; rintro e w' ⟨rfl, hw'⟩; rw [hw']; clear hw' w')
      have hare := areHashes_any oa len cap (E.length + 1) (by omega) ss HL.out (by omega) HSZ.out w1 hS1
      rw [HOK.out] at hare
      have HARE := Lib.hid hare
      clear hare
      have hT6 := hT1
      have hB6 := hBw1
      have s0 : w1.cell? ⟨B, 0, none⟩ = some (.string ⟨#[]⟩) := hT6.cell 0
      have s1 : w1.cell? ⟨B, 1, none⟩ = some (.string ⟨#[]⟩) := hT6.cell 1
      have s2 : w1.cell? ⟨B, 2, none⟩ = some (.slice none 0 0) := hT6.cell 2
      have s3 : w1.cell? ⟨B, 3, none⟩ = some (.slice none 0 0) := hT6.cell 3
      have t0 := hT6.frozen 0
      have t1 := hT6.frozen 1
      have t2 := hT6.frozen 2
      have t3 := hT6.frozen 3
      have HRES := Lib.hid ((((hT6.set_ 0 (.string ⟨#[]⟩)).set_ 1 (.string ⟨#[]⟩)).set_ 2 (.slice none 0 0)).set_ 3 (.slice none 0 0))
      have HB7 := Lib.hid ((((hB6.setCell (p := ⟨B, 0, none⟩) (by show w.heap.size ≤ B; omega) (.string ⟨#[]⟩)).setCell (p := ⟨B, 1, none⟩) (by show w.heap.size ≤ B; omega) (.string ⟨#[]⟩)).setCell (p := ⟨B, 2, none⟩) (by show w.heap.size ≤ B; omega) (.slice none 0 0)).setCell (p := ⟨B, 3, none⟩) (by show w.heap.size ≤ B; omega) (.slice none 0 0))
      clear hT6 hB6
      go_wp2_with (go_at_call 38; refine HARE.out.mono ?_; rintro e w' ⟨rfl, hw'⟩; rw [hw']; clear hw' w')
      refine bodyPost_ret (results_grw rfl _ _ B 55 zgrw _ rfl HRES.out Try.underlying55 rfl infoGrw) rfl ?_
      exact ⟨rfl, HB7.out⟩
  · have HCB := Lib.hid (show E.contains true = false by simpa using hcb)
    rw [if_neg hcb] at HAC ⊢
    clear hcb
    have HLP1 : Hid ((first :: ss).length = len + 1) := Lib.hid (by rw [List.length_cons, HL.out])
    have HZP : Hid (∀ s ∈ first :: ss, s.size ≤ 9223372036854775807) := Lib.hid (fun s hs => by
      rcases List.mem_cons.1 hs with rfl | hs
      · omega
      · exact HSZ.out s hs)
    by_cases hok : (decide (len + 1 = E.length + 1) && allC ss) = true
    · have HOK := Lib.hid hok
      rw [Bool.and_eq_true, decide_eq_true_iff] at hok
      obtain ⟨hle, ha⟩ := hok
      rw [if_pos ha]
      have HALL := Lib.hid (show allC (first :: ss) = true by first | exact ha | (rw [HAC.out]; exact ha))
      obtain ⟨low, T', hLT⟩ : ∃ low T', (first :: ss) = low :: T' := by
        cases hL : (first :: ss) with
        | nil => exact absurd (congrArg List.length hL) (by rw [HLP1.out]; show ¬ (len + 1) = 0; omega)
        | cons low T' => exact ⟨low, T', rfl⟩
      rw [hLT]
      have hlT : T'.length = E.length := by have := HLP1.out; rw [hLT] at this; simp at this; omega
      have hsome : (gro h E (low :: T').reverse).isSome = true := by rw [gro_len, decide_eq_true_iff]; simp; omega
      obtain ⟨T, hT9⟩ := Option.isSome_iff_exists.1 hsome
      rw [hT9]
      rw [List.reverse_cons] at hT9
      have HALL' : Hid (allC (low :: T') = true) := Lib.hid (by rw [← hLT]; exact HALL.out)
      have HG := Lib.hid (fun (oaw : Option Addr) (capw : Nat) (ot : Option Addr) (cp : Nat) W (hb : Bools W oaw E.reverse) (hs : Strs W ot T') => cgrow_any HH.out E oaw E.length capw (by omega) HLR.out low (allC_at HALL'.out (by simp)) ot cp T' hlT (fun q hq => allC_at HALL'.out (by simp [hq])) T hT9 W hb hs)
      obtain ⟨a, s, ea, la⟩ := T
      have HLT := Lib.hid hLT
      have HLTl := Lib.hid hlT
      clear hLT hlT hsome hT9 ha HALL hle
      go_enter Try.func27, Try.ntmps27
      go_wp2_with (first | rw [HW0.out])
      refine (HWay.out _).mono ?_
      rintro e w1 ⟨vw, rfl, hownW, hB1⟩
      obtain ⟨oaw, capw, rfl, hbools⟩ := hownW.form
      rw [HLR.out]
      have hT1 := hT.below hB1 hT.lt
      have hBw1 : Below w.heap.size w w1 := hB0.trans (hB1.mono hB0.size)
      clear hT hB0 hB1 HWay hownW n1 n2 n3 n4
      have hbc := bcontains_any oaw E.length capw E.reverse HLR.out (by omega) w1 hbools
      rw [HER.out, HCB.out] at hbc
      have HBC := Lib.hid hbc
      have hS1 := HC.out.below hBw1
      clear hbc
      go_wp2_with (go_at_call 36; refine HBC.out.mono ?_; rintro e w' ⟨rfl, hw'⟩; rw [hw']; clear hw' w')
      have hO1 := own_oneC w1 first
      have hB2 : Below w.heap.size w (w1.alloc (.cells #[.string first] 9)) := hBw1.alloc hBw1.size _
      have hT2 := hT1.alloc (.cells #[.string first] 9)
      have hs2 : (w1.alloc (.cells #[.string first] 9)).heap.size = w1.heap.size + 1 := by simp
      have hB21 : Below w1.heap.size w1 (w1.alloc (.cells #[.string first] 9)) := (Below.refl _ _).alloc (Nat.le_refl _) _
      generalize w1.alloc (.cells #[.string first] 9) = w2 at *
      obtain ⟨w3, hw3⟩ : ∃ w3, w2.alloc (.cells #[.slice (some ⟨w1.heap.size, 0, none⟩) 1 1, .slice oa len cap] 22) = w3 := ⟨_, rfl⟩
      have hP3 : Blk w3 w2.heap.size 22 #[.slice (some ⟨w1.heap.size, 0, none⟩) 1 1, .slice oa len cap] := by rw [← hw3]; exact Blk.new _ _ _
      have hB32 : Below w2.heap.size w2 w3 := by rw [← hw3]; exact (Below.refl _ _).alloc (Nat.le_refl _) _
      have hT3 := hT2.below hB32 hT2.lt
      have hB3 := hB2.trans (hB32.mono hB2.size)
      have hO3 := hO1.below hB32
      obtain ⟨_, _, ev, hS3⟩ := hO3.form
      injection ev with ev1 ev2 ev3
      subst ev1
      have hSA := HC.out.below hB3
      have hConc := concat_anyC w2.heap.size (some ⟨w1.heap.size, 0, none⟩) oa 1 1 len cap [first] ss rfl HL.out (by omega) (by omega) (fun e => by cases e) HNIL.out w3 hP3.lt (hP3.cell 0) (hP3.cell 1) hS3 hSA
      have HConc := Lib.hid hConc
      have HW3 := Lib.hid hw3
      have hbool3 := hbools.below (hB21.trans (hB32.mono hB21.size))
      rw [hs2] at HConc
      clear hConc hw3 hP3 hO1 hO3 hB2 hT2 hB32 hB21 hS3 hSA ev2 ev3
      go_wp2_with (first | rw [HW3.out])
      refine HConc.out.mono ?_
      rintro e w4 ⟨vc, rfl, hown4, hb4⟩
      obtain ⟨oac, capc, rfl, hS4, hcl4⟩ := hown4.formL
      have hT4 := hT3.below hb4 hT3.lt
      have hB4 := hB3.trans (hb4.mono hB3.size)
      have hbool4 := hbool3.below hb4
      have HPA := Lib.hid (fun k (hk : (Value.slice oac ([first] ++ ss).length capc).ownBlock = some k) => (World.ownsRow.lt hown4 k hk).1)
      have HLP := Lib.hid (show ([first] ++ ss).length = len + 1 by rw [List.length_append, HL.out, List.length_singleton, Nat.add_comm])
      rw [HLP.out] at hcl4 ⊢
      change Strs w4 oac (first :: ss) at hS4
      have hB3s : B < w3.heap.size := hT3.lt
      clear hT3 hB3 hb4 hbool3 HConc HW3 hbools hT1 hBw1
      have hare := areHashes_any oac (len + 1) capc (E.length + 1) (by omega) (first :: ss) HLP1.out (by omega) HZP.out w4 hS4
      rw [HAC.out, HOK.out] at hare
      have HARE := Lib.hid hare
      clear hare
      have hle : (len + 1) = E.length + 1 := by have := HOK.out; rw [Bool.and_eq_true, decide_eq_true_iff] at this; exact this.1
      have hS := hS4
      rw [HLT.out] at hS
      obtain ⟨pa, rfl, hpb, hlow⟩ := hS 0 (by simp)
      rw [show pa.add 0 = pa by simp [Addr.add]] at hlow
      change w4.cell? pa = some (.string low) at hlow
      have hlow' : w4.drew.cell? pa = some (.string low) := hlow
      have hsl := slice_one (some pa) (len + 1) capc (by omega) hcl4
      have hlen1 : (len + 1) - 1 = E.length := by omega
      rw [hlen1] at hsl
      have HTl := Lib.hid (strs_tail hS (cap := capc) (by have := HLTl.out; omega))
      generalize tailA (some pa) capc = ot at *
      have HKP := Lib.hid (show ∀ W', Below w4.heap.size w4 W' → W'.cell? pa = some (.string low) from fun W' hW => (hW.cell hpb).trans hlow)
      have hidx : (0 : Int) < ((len + 1) : Int) := by omega
      have hidxN : 0 < (len + 1) := by omega
      have HBo := Lib.hid hbool4
      have hBs0 := hT4.lt
      have hpaB : pa.block ≠ B := (by have := HPA.out pa.block rfl; omega)
      have HPB := Lib.hid hpaB
      clear hS hlow hlen1 hpaB hle
      go_wp2_with (go_at_call 38; refine HARE.out.mono ?_; rintro e w' ⟨rfl, hw'⟩; rw [hw']; clear hw' w')
      refine wp_region_held_drew (S := fun W' => W'.cell? pa = some (.string low)) (by kernel_rfl) ?_ (fun hHeld0 => ?_)
      · (first | exact HK9 | exact HKP.out _ hb6 | exact HKP.out _ (Below.refl _ _).drew)
      apply takeH (i := 0) rfl (by kernel_rfl) (by kernel_rfl) (by kernel_rfl) (fun _ _ _ h => h) (by rfl)
      case hy => (intro w hSw; (try dsimp only at hSw); go_simp; try with_reducible rfl)
      case hS => assumption
      (try simp only [Act.put, List.setIfInBounds_toArray, List.set_cons_zero, List.set_cons_succ])
      apply takeH (i := 1) rfl (by kernel_rfl) (by kernel_rfl) (by kernel_rfl) (fun _ _ _ h => h) (by rfl)
      case hy => (intro w hSw; (try dsimp only at hSw); go_simp; try with_reducible rfl)
      case hS => assumption
      (try simp only [Act.put, List.setIfInBounds_toArray, List.set_cons_zero, List.set_cons_succ])
      apply takeH (i := 2) rfl (by kernel_rfl) (by kernel_rfl) (by kernel_rfl) (fun _ _ _ h => h) (by rfl)
      case hy => (intro w hSw; (try dsimp only at hSw); go_simp; try with_reducible rfl)
      case hS => assumption
      (try simp only [Act.put, List.setIfInBounds_toArray, List.set_cons_zero, List.set_cons_succ])
      apply takeH (i := 3) rfl (by kernel_rfl) (by kernel_rfl) (by kernel_rfl) (fun _ _ _ h => h) (by rfl)
      case hy => (intro w hSw; (try dsimp only at hSw); go_simp; try with_reducible rfl)
      case hS => assumption
      (try simp only [Act.put, List.setIfInBounds_toArray, List.set_cons_zero, List.set_cons_succ])
      apply takeH (i := 4) rfl (by kernel_rfl) (by kernel_rfl) (by kernel_rfl) (fun _ _ _ h => h) (by rfl)
      case hy => (intro w hSw; (try dsimp only at hSw); go_simp; try with_reducible rfl)
      case hS => assumption
      (try simp only [Act.put, List.setIfInBounds_toArray, List.set_cons_zero, List.set_cons_succ])
      apply takeH (i := 5) rfl (by kernel_rfl) (by kernel_rfl) (by kernel_rfl) (fun _ _ _ h => h) (by rfl)
      case hy => (intro w hSw; (try dsimp only at hSw); go_simp; try with_reducible rfl)
      case hS => assumption
      (try simp only [Act.put, List.setIfInBounds_toArray, List.set_cons_zero, List.set_cons_succ])
      apply takeH (i := 6) rfl (by kernel_rfl) (by kernel_rfl) (by kernel_rfl) (fun _ _ _ h => h) (by rfl)
      case hy => (intro w hSw; (try dsimp only at hSw); go_simp; try with_reducible rfl)
      case hS => assumption
      (try simp only [Act.put, List.setIfInBounds_toArray, List.set_cons_zero, List.set_cons_succ])
      refine doH (i := 7) rfl (by kernel_rfl) (by rfl) (fun K hK => ?_)
      go_simp
      refine (HG.out oaw capw ot _ _ (HBo.out.below (Below.refl _ _).drew) (HTl.out.below (Below.refl _ _).drew)).mono ?_
      rintro e w6 ⟨ve, vl, rfl, hoe, hol, hb6'⟩
      have hb6 : Below w4.heap.size w4 w6 := (Below.refl _ _).drew.trans hb6'
      obtain ⟨oe, ce, rfl, hSe, hce⟩ := hoe.formL
      obtain ⟨ol, cl, rfl, hSl, hcl⟩ := hol.formL
      have hT6 := hT4.below hb6 hT4.lt
      have hB6 := hB4.trans (hb6.mono hB4.size)
      have s0 : w6.cell? ⟨B, 0, none⟩ = some (.string ⟨#[]⟩) := hT6.cell 0
      have s1 : w6.cell? ⟨B, 1, none⟩ = some (.string ⟨#[]⟩) := hT6.cell 1
      have s2 : w6.cell? ⟨B, 2, none⟩ = some (.slice none 0 0) := hT6.cell 2
      have s3 : w6.cell? ⟨B, 3, none⟩ = some (.slice none 0 0) := hT6.cell 3
      have t0 := hT6.frozen 0
      have t1 := hT6.frozen 1
      have t2 := hT6.frozen 2
      have t3 := hT6.frozen 3
      change w6.ownsRow _ _ _ (.slice oe ea.length ce) _ _ at hoe
      change w6.ownsRow _ _ _ (.slice ol la.length cl) _ _ at hol
      change Strs w6 oe ea at hSe
      change Strs w6 ol la at hSl
      change ea.length ≤ ce at hce
      change la.length ≤ cl at hcl
      obtain ⟨ne, hne⟩ : ∃ n, ea.length = n := ⟨_, rfl⟩
      obtain ⟨nl, hnl⟩ : ∃ n, la.length = n := ⟨_, rfl⟩
      have HNE := Lib.hid hne
      have HNL := Lib.hid hnl
      try dsimp only
      rw [HNE.out, HNL.out]
      rw [hne] at hoe hce
      rw [hnl] at hol hcl
      have HRES := Lib.hid ((((hT6.set_ 0 (.string a)).set_ 1 (.string s)).set_ 2 (.slice oe ne ce)).set_ 3 (.slice ol nl cl))
      have hE7 := own_farC (own_farC (own_farC (own_farC (show Own w6 _ (.slice oe ne ce) ea from by unfold Own; rw [hne]; exact hoe) (p := ⟨B, 0, none⟩) (by show B < _; have : w4.drew.heap.size = w4.heap.size := rfl; omega) (.string a)) (p := ⟨B, 1, none⟩) (by show B < _; have : w4.drew.heap.size = w4.heap.size := rfl; omega) (.string s)) (p := ⟨B, 2, none⟩) (by show B < _; have : w4.drew.heap.size = w4.heap.size := rfl; omega) (.slice oe ne ce)) (p := ⟨B, 3, none⟩) (by show B < _; have : w4.drew.heap.size = w4.heap.size := rfl; omega) (.slice ol nl cl)
      have hL7 := own_farC (own_farC (own_farC (own_farC (show Own w6 _ (.slice ol nl cl) la from by unfold Own; rw [hnl]; exact hol) (p := ⟨B, 0, none⟩) (by show B < _; have : w4.drew.heap.size = w4.heap.size := rfl; omega) (.string a)) (p := ⟨B, 1, none⟩) (by show B < _; have : w4.drew.heap.size = w4.heap.size := rfl; omega) (.string s)) (p := ⟨B, 2, none⟩) (by show B < _; have : w4.drew.heap.size = w4.heap.size := rfl; omega) (.slice oe ne ce)) (p := ⟨B, 3, none⟩) (by show B < _; have : w4.drew.heap.size = w4.heap.size := rfl; omega) (.slice ol nl cl)
      have HE7 := Lib.hid hE7
      have HL7 := Lib.hid hL7
      have hB7 := (((hB6.setCell (p := ⟨B, 0, none⟩) (by show w.heap.size ≤ B; omega) (.string a)).setCell (p := ⟨B, 1, none⟩) (by show w.heap.size ≤ B; omega) (.string s)).setCell (p := ⟨B, 2, none⟩) (by show w.heap.size ≤ B; omega) (.slice oe ne ce)).setCell (p := ⟨B, 3, none⟩) (by show w.heap.size ≤ B; omega) (.slice ol nl cl)
      have HB7 := Lib.hid hB7
      have far : ∀ (W9 : World) (k : Nat) (u : Value), (W9.setCell ⟨B, k, none⟩ u).cell? pa = W9.cell? pa := fun W9 k u => World.cell?_setCell_other _ _ _ _ (by intro e; have := congrArg Addr.block e; exact HPB.out this.symm)
      have HK9 : ((((w6.setCell ⟨B, 0, none⟩ (.string a)).setCell ⟨B, 1, none⟩ (.string s)).setCell ⟨B, 2, none⟩ (.slice oe ne ce)).setCell ⟨B, 3, none⟩ (.slice ol nl cl)).cell? pa = some (.string low) := by rw [far, far, far, far]; exact HKP.out _ hb6
      clear hT6 hB6 hB7 hE7 hL7 hoe hol hSe hSl hnl hne far
      go_wp2_with fail
      refine hK.out _ _ ?_ (fun hHeld7 => ?_)
      · (first | exact HK9 | exact HKP.out _ hb6 | exact HKP.out _ (Below.refl _ _).drew)
      clear hK K hHeld0
      (try simp only [Act.put, List.setIfInBounds_toArray, List.set_cons_zero, List.set_cons_succ])
      refine doH (i := 8) rfl (by kernel_rfl) (by rfl) (fun K hK => ?_)
      go_simp
      refine hK.out _ _ ?_ (fun hHeld8 => ?_)
      · (first | exact HK9 | exact HKP.out _ hb6 | exact HKP.out _ (Below.refl _ _).drew)
      clear hK K hHeld7
      (try simp only [Act.put, List.setIfInBounds_toArray, List.set_cons_zero, List.set_cons_succ])
      apply takeH (i := 9) rfl (by kernel_rfl) (by kernel_rfl) (by kernel_rfl) (fun _ _ _ h => h) (by rfl)
      case hy => (intro w hSw; (try dsimp only at hSw); go_simp; try with_reducible rfl)
      case hS => assumption
      (try simp only [Act.put, List.setIfInBounds_toArray, List.set_cons_zero, List.set_cons_succ])
      refine wpAnyH_done (by kernel_rfl) ?_ _
      go_wp2
      refine bodyPost_ret (results_grw rfl _ _ B 55 #[.string a, .string s, .slice oe ne ce, .slice ol nl cl] _ rfl HRES.out Try.underlying55 rfl infoGrw) rfl ?_
      refine ⟨⟨oe, ce, ol, cl, ?_, ?_, ?_, ?_, ?_⟩, HB7.out⟩
      · show _ = Ending.returned (.tuple #[.agg #[.string a, .string s, .slice oe ea.length ce, .slice ol la.length cl], .bool true])
        rw [HNE.out, HNL.out]; rfl
      · obtain ⟨_, _, ex, hx⟩ := HE7.out.form; injection ex with ex1; subst ex1; exact hx
      · obtain ⟨_, _, ex, hx⟩ := HL7.out.form; injection ex with ex1; subst ex1; exact hx
      · show ea.length ≤ ce; rw [HNE.out]; exact hce
      · show la.length ≤ cl; rw [HNL.out]; exact hcl
    · have hok' : (decide ((len + 1) = E.length + 1) && allC ss) = false := by simpa using hok
      have HOK := Lib.hid hok'
      have en : (if allC ss = true then gro h E ((first :: ss)).reverse else none) = none := by
        by_cases ha : allC ss = true
        · rw [if_pos ha]
          have : (gro h E ((first :: ss)).reverse).isSome = false := by
            rw [gro_len, decide_eq_false_iff_not, List.length_reverse, HLP1.out]
            rw [ha, Bool.and_true, decide_eq_false_iff_not] at hok'
            exact hok'
          cases hg : gro h E ((first :: ss)).reverse with
          | none => rfl
          | some t => rw [hg] at this; cases this
        · rw [if_neg ha]
      rw [en]
      clear en hok hok'
      go_enter Try.func27, Try.ntmps27
      go_wp2_with (first | rw [HW0.out])
      refine (HWay.out _).mono ?_
      rintro e w1 ⟨vw, rfl, hownW, hB1⟩
      obtain ⟨oaw, capw, rfl, hbools⟩ := hownW.form
      rw [HLR.out]
      have hT1 := hT.below hB1 hT.lt
      have hBw1 : Below w.heap.size w w1 := hB0.trans (hB1.mono hB0.size)
      clear hT hB0 hB1 HWay hownW n1 n2 n3 n4
      have hbc := bcontains_any oaw E.length capw E.reverse HLR.out (by omega) w1 hbools
      rw [HER.out, HCB.out] at hbc
      have HBC := Lib.hid hbc
      have hS1 := HC.out.below hBw1
      clear hbc
      go_wp2_with (go_at_call 36; refine HBC.out.mono ?_; rintro e w' ⟨rfl, hw'⟩; rw [hw']; clear hw' w')
      have hO1 := own_oneC w1 first
      have hB2 : Below w.heap.size w (w1.alloc (.cells #[.string first] 9)) := hBw1.alloc hBw1.size _
      have hT2 := hT1.alloc (.cells #[.string first] 9)
      have hs2 : (w1.alloc (.cells #[.string first] 9)).heap.size = w1.heap.size + 1 := by simp
      have hB21 : Below w1.heap.size w1 (w1.alloc (.cells #[.string first] 9)) := (Below.refl _ _).alloc (Nat.le_refl _) _
      generalize w1.alloc (.cells #[.string first] 9) = w2 at *
      obtain ⟨w3, hw3⟩ : ∃ w3, w2.alloc (.cells #[.slice (some ⟨w1.heap.size, 0, none⟩) 1 1, .slice oa len cap] 22) = w3 := ⟨_, rfl⟩
      have hP3 : Blk w3 w2.heap.size 22 #[.slice (some ⟨w1.heap.size, 0, none⟩) 1 1, .slice oa len cap] := by rw [← hw3]; exact Blk.new _ _ _
      have hB32 : Below w2.heap.size w2 w3 := by rw [← hw3]; exact (Below.refl _ _).alloc (Nat.le_refl _) _
      have hT3 := hT2.below hB32 hT2.lt
      have hB3 := hB2.trans (hB32.mono hB2.size)
      have hO3 := hO1.below hB32
      obtain ⟨_, _, ev, hS3⟩ := hO3.form
      injection ev with ev1 ev2 ev3
      subst ev1
      have hSA := HC.out.below hB3
      have hConc := concat_anyC w2.heap.size (some ⟨w1.heap.size, 0, none⟩) oa 1 1 len cap [first] ss rfl HL.out (by omega) (by omega) (fun e => by cases e) HNIL.out w3 hP3.lt (hP3.cell 0) (hP3.cell 1) hS3 hSA
      have HConc := Lib.hid hConc
      have HW3 := Lib.hid hw3
      have hbool3 := hbools.below (hB21.trans (hB32.mono hB21.size))
      rw [hs2] at HConc
      clear hConc hw3 hP3 hO1 hO3 hB2 hT2 hB32 hB21 hS3 hSA ev2 ev3
      go_wp2_with (first | rw [HW3.out])
      refine HConc.out.mono ?_
      rintro e w4 ⟨vc, rfl, hown4, hb4⟩
      obtain ⟨oac, capc, rfl, hS4, hcl4⟩ := hown4.formL
      have hT4 := hT3.below hb4 hT3.lt
      have hB4 := hB3.trans (hb4.mono hB3.size)
      have hbool4 := hbool3.below hb4
      have HPA := Lib.hid (fun k (hk : (Value.slice oac ([first] ++ ss).length capc).ownBlock = some k) => (World.ownsRow.lt hown4 k hk).1)
      have HLP := Lib.hid (show ([first] ++ ss).length = len + 1 by rw [List.length_append, HL.out, List.length_singleton, Nat.add_comm])
      rw [HLP.out] at hcl4 ⊢
      change Strs w4 oac (first :: ss) at hS4
      have hB3s : B < w3.heap.size := hT3.lt
      clear hT3 hB3 hb4 hbool3 HConc HW3 hbools hT1 hBw1
      have hare := areHashes_any oac (len + 1) capc (E.length + 1) (by omega) (first :: ss) HLP1.out (by omega) HZP.out w4 hS4
      rw [HAC.out, HOK.out] at hare
      have HARE := Lib.hid hare
      clear hare
      have hT6 := hT4
      have hB6 := hB4
      have s0 : w4.cell? ⟨B, 0, none⟩ = some (.string ⟨#[]⟩) := hT6.cell 0
      have s1 : w4.cell? ⟨B, 1, none⟩ = some (.string ⟨#[]⟩) := hT6.cell 1
      have s2 : w4.cell? ⟨B, 2, none⟩ = some (.slice none 0 0) := hT6.cell 2
      have s3 : w4.cell? ⟨B, 3, none⟩ = some (.slice none 0 0) := hT6.cell 3
      have t0 := hT6.frozen 0
      have t1 := hT6.frozen 1
      have t2 := hT6.frozen 2
      have t3 := hT6.frozen 3
      have HRES := Lib.hid ((((hT6.set_ 0 (.string ⟨#[]⟩)).set_ 1 (.string ⟨#[]⟩)).set_ 2 (.slice none 0 0)).set_ 3 (.slice none 0 0))
      have HB7 := Lib.hid ((((hB6.setCell (p := ⟨B, 0, none⟩) (by show w.heap.size ≤ B; omega) (.string ⟨#[]⟩)).setCell (p := ⟨B, 1, none⟩) (by show w.heap.size ≤ B; omega) (.string ⟨#[]⟩)).setCell (p := ⟨B, 2, none⟩) (by show w.heap.size ≤ B; omega) (.slice none 0 0)).setCell (p := ⟨B, 3, none⟩) (by show w.heap.size ≤ B; omega) (.slice none 0 0))
      clear hT6 hB6
      go_wp2_with (go_at_call 38; refine HARE.out.mono ?_; rintro e w' ⟨rfl, hw'⟩; rw [hw']; clear hw' w')
      refine bodyPost_ret (results_grw rfl _ _ B 55 zgrw _ rfl HRES.out Try.underlying55 rfl infoGrw) rfl ?_
      exact ⟨rfl, HB7.out⟩
theorem openGrowth_any {g : Nat} {h : ByteArray → ByteArray} (H : Hsh g h) (M N : Int) (first : ByteArray) (hfl : first.size ≤ 1000) (oa : Option Addr) (len cap : Nat) (ss : List ByteArray) (hl : ss.length = len) (hm : len ≤ 40) (hcap : len ≤ cap) (hnil0 : oa = none → len = 0 ∧ cap = 0) (hsz : ∀ s ∈ ss, s.size ≤ 9223372036854775807) (w : World) (hc : Strs w oa ss) :
    Calls Try.prog 27 #[.func (.func g) #[] #[], .int .i64 M, .int .i64 N, .string first, .slice oa len cap] w (RGO (groC h M N first ss) w) := by
  by_cases hf : 1 ≤ M ∧ M ≤ N ∧ N ≤ 1048576 ∧ first.size = 32
  · obtain ⟨n1, n2, n3, n4⟩ := hf
    obtain ⟨m, rfl⟩ := Int.eq_ofNat_of_zero_le (a := M) (by omega)
    obtain ⟨n, rfl⟩ := Int.eq_ofNat_of_zero_le (a := N) (by omega)
    have e : groC h (m : Int) (n : Int) first ss = if allC ss = true then gro h (we (m - 1) n) (addF first true (we (m - 1) n) ss.reverse) else none := by
      unfold groC
      by_cases ha : allC ss = true
      · rw [if_pos ⟨n1, n2, n3, n4, ha⟩, if_pos ha]; rfl
      · rw [if_neg (fun k => ha k.2.2.2.2), if_neg ha]
    rw [e]
    exact openGrowth_in H m n (by omega) (by omega) (by omega) first n4 oa len cap ss hl hm hcap hnil0 hsz w hc
  · have e : groC h M N first ss = none := by unfold groC; rw [if_neg (fun k => hf ⟨k.1, k.2.1, k.2.2.1, k.2.2.2.1⟩)]
    rw [e]
    exact openGrowth_bad g M N first hfl _ (by omega) w
end Go.Proofs.Ytfhfmfcmkiobdaa
