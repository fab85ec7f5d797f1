/-
  The reference's Holds.
-/
import Derived.Test.YtedkhcjbppknpaaSRefR
namespace Go.Proofs.Ytedkhcjbppknpaa
open Go.RowKit

/-- where the roots begin that are left, when the bits from i on have been looked at -/
def lfE (s : ByteArray) (i : Nat) : Nat := s.size - 32 * (cntS s 256 - cntS s i)
/-- the root beside the path, taken from the proof's end -/
def besE (s : ByteArray) (i : Nat) : ByteArray := if bitS s i then s.extract (lfE s (i + 1) - 32) (lfE s (i + 1)) else emp (i + 1)
theorem besE_V {s : ByteArray} (h : wfS s = true) {i : Nat} (hi : i < 256) : besE s i = besV s i := by
  unfold besE besV
  split
  · next hb =>
    have h1 := wfS_size h
    have h2 := cntS_succ s i
    rw [hb] at h2
    have h3 := cntS_mono s (a := i + 1) (b := 256) (by omega)
    have h4 : lfE s (i + 1) = 64 + 32 * cntS s i := by unfold lfE; simp at h2; omega
    rw [h4, show 64 + 32 * cntS s i - 32 = 32 + 32 * cntS s i by omega]
  · rfl
theorem clL_congr {p : ByteArray} {V V' : Nat → ByteArray} (h : ∀ i, i < 256 → V i = V' i) (x : ByteArray) (pre : List (Fin 256)) : clL p V x pre = clL p V' x pre := by
  unfold clL
  congr 1
  funext n i
  unfold clStep
  rw [h i.1 i.2]
/-- what has been climbed when the bits from k on have been looked at -/
def clK (p : ByteArray) (s x : ByteArray) (k : Nat) : ByteArray := clL p (besE s) x (dn (256 - k))
theorem clK_top (p s x : ByteArray) : clK p s x 256 = x := rfl
theorem clK_step (p s x : ByteArray) {j : Nat} (hj : j < 256) : clK p s x j = if bitS p j then nodS (besE s j) (clK p s x (j + 1)) else nodS (clK p s x (j + 1)) (besE s j) := by
  unfold clK
  rw [show 256 - j = (256 - (j + 1)) + 1 by omega, dn_succ _ (by omega), clL_snoc]
  unfold clStep
  simp only [show 255 - (256 - (j + 1)) = j by omega]
theorem clK_size (p s x : ByteArray) (hx : x.size = 32) (k : Nat) : (clK p s x k).size = 32 := clL_size _ _ _ hx _
theorem lfE_step {s : ByteArray} {j : Nat} (hj : j < 256) (h : 32 + 32 * (cntS s 256 - cntS s (j + 1)) ≤ s.size) (hb : bitS s j = true) (hne : lfE s (j + 1) ≠ 32) (hm : s.size % 32 = 0) : 64 ≤ lfE s (j + 1) ∧ lfE s j = lfE s (j + 1) - 32 ∧ 32 + 32 * (cntS s 256 - cntS s j) ≤ s.size ∧ lfE s (j + 1) ≤ s.size := by
  have h2 := cntS_succ s j
  rw [hb] at h2
  have h3 := cntS_mono s (a := j + 1) (b := 256) (by omega)
  unfold lfE at *
  simp at h2
  omega
theorem lfE_same {s : ByteArray} {j : Nat} (hb : bitS s j = false) : cntS s j = cntS s (j + 1) := by rw [cntS_succ, hb]; simp
theorem ver_end {root k v : ByteArray} {there : Bool} {s x : ByteArray} (hx : (if there then ownS k v else emp 256) = x) (h : lfE s 0 = 32) (h32 : 32 + 32 * (cntS s 256 - cntS s 0) ≤ s.size) : verS root k v there s = decide (clK (pathS k) s x 0 = root) := by
  have hc : cntS s 0 = 0 := rfl
  have hw : wfS s = true := by
    unfold lfE at h
    unfold wfS
    simp only [Bool.and_eq_true, decide_eq_true_eq]
    omega
  unfold verS
  rw [hw, hx, Bool.true_and]
  unfold clK
  rw [clL_congr (fun i hi => besE_V hw hi)]
theorem ver_no {root k v : ByteArray} {there : Bool} {s : ByteArray} (h : ¬ s.size = (1 + cntS s 256) * 32) : verS root k v there s = false := by
  unfold verS wfS
  simp [h]
section
attribute [-go_sem] loadVar
set_option maxRecDepth 100000 in
set_option maxHeartbeats 2000000 in
theorem holds_any (root k v : ByteArray) (there : Bool) (s : ByteArray) (hk : k.size ≤ 1000) (hv : v.size ≤ 1000) (hs : s.size ≤ 1000000) (w : World) :
    Calls Try.prog 20 #[.agg (emC emp), .string root, .agg #[.string k, .string v], .bool there, .string s] w fun e w' => e = .returned (.bool (verS root k v there s)) ∧ Below w.heap.size w w' := by
  obtain ⟨w0, hw0⟩ : ∃ w0, (w.alloc (.cells (emC emp) 43)).alloc (.cells #[.string k, .string v] 33) = w0 := ⟨_, rfl⟩
  have b0 : Blk w0 w.heap.size 43 (emC emp) := by rw [← hw0]; exact (Blk.new _ _ _).alloc _
  have b1 : Blk w0 (w.heap.size + 1) 33 #[.string k, .string v] := by rw [← hw0]; exact Blk.new_at (by simp)
  have hB0 : Below w.heap.size w w0 := by rw [← hw0]; exact ((Below.refl _ w).alloc (Nat.le_refl _) _).alloc (by simp) _
  have HW0 := Lib.hid hw0
  clear hw0
  by_cases h32 : s.size < 32
  · have h32' : (s.size : Int) < 32 := by omega
    have HR : Hid (verS root k v there s = false) := Lib.hid (ver_no (by omega))
    rw [HR.out]
    generalize emC emp = EE at *
    go_enter Try.func20, Try.ntmps20
    go_wp2_with (rw [HW0.out])
    go_ret
    exact ⟨rfl, hB0⟩
  · have h32' : ¬ (s.size : Int) < 32 := by omega
    by_cases hm : s.size % 32 = 0
    · have hm' : (((s.size : Int) % 32) != 0) = false := by simp; omega
      have hm2 : (s.size : Int) % 32 = 0 := by omega
      obtain ⟨X0, hX0⟩ : ∃ X0, (if there then ownS k v else emp 256) = X0 := ⟨_, rfl⟩
      have hXs : X0.size = 32 := by rw [← hX0]; split; exact ownS_size _ _; exact emp_size _
      have HEND := Lib.hid (fun h h2 => ver_end (root := root) (k := k) (v := v) (there := there) (s := s) hX0 h h2)
      have HNO := Lib.hid (fun h => ver_no (root := root) (k := k) (v := v) (there := there) (s := s) h)
      have HPA := Lib.hid (show ∀ W, Calls Try.prog 28 #[.string (⟨#[75]⟩ ++ k)] W fun e w' => e = .returned (.string (pathS k)) ∧ Below W.heap.size W w' from fun W => by
        have h1 : (⟨#[75]⟩ : ByteArray).size = 1 := rfl
        have h2 : ((⟨#[75]⟩ : ByteArray) ++ k).size ≤ 1099511627776 := by rw [ByteArray.size_append, h1]; omega
        have := rh5_any (⟨#[75]⟩ ++ k) h2 W
        rw [show pathS k = hB (⟨#[75]⟩ ++ k) from rfl]
        exact this)
      have hpks := pathS_size k
      have HOW := Lib.hid (fun W => rown_any k v (by omega) (by omega) W)
      have HCT := Lib.hid (clK_top (pathS k) s X0)
      have HCS := Lib.hid (fun j (hj : j < 256) => clK_step (pathS k) s X0 hj)
      have HCZ := Lib.hid (clK_size (pathS k) s X0 hXs)
      have HL0 : Hid (lfE s 256 = s.size) := Lib.hid (by unfold lfE; omega)
      have HLS := Lib.hid (fun j hj h hb hne => lfE_step (s := s) (j := j) hj h hb hne hm)
      have HLE := Lib.hid (fun j hb => lfE_same (s := s) (j := j) hb)
      have HLD : Hid (∀ j, lfE s j = s.size - 32 * (cntS s 256 - cntS s j)) := Lib.hid fun _ => rfl
      have HBE : Hid (∀ j, besE s j = if bitS s j then s.extract (lfE s (j + 1) - 32) (lfE s (j + 1)) else emp (j + 1)) := Lib.hid fun _ => rfl
      have HBS := Lib.hid (fun j (hj : j < 256) W => rbit_any s j hj (by omega) W)
      have HBP := Lib.hid (fun j (hj : j < 256) W => rbit_any (pathS k) j hj (by omega) W)
      have HBQ := Lib.hid (bitN_eq s)
      have HBQ2 := Lib.hid (bitN_eq (pathS k))
      have HND : Hid (∀ l r : ByteArray, nodS l r = hB (⟨#[78]⟩ ++ l ++ r)) := Lib.hid fun _ _ => rfl
      have HH := Lib.hid (fun (b : ByteArray) (hb : b.size ≤ 1000) W => rh5_any b (by omega) W)
      have HCM := Lib.hid (fun j (hj : j ≤ 256) => cntS_mono s (a := j) (b := 256) hj)
      have z0 : (⟨#[75]⟩ : ByteArray).size = 1 := rfl
      have a0 : ¬ (⟨#[75]⟩ : ByteArray).size + k.size > 9223372036854775807 := by omega
      have hl0 := txt_load ((b0.cell 256).trans (emC_at emp (by decide)))
      have hlp := pair_load (w := w0) (g := w.heap.size + 1) (o := 0) (b1.cell 0) (b1.cell 1)
      have hlk := txt_load (w := w0) (p := ⟨w.heap.size + 1, 0, none⟩) (b1.cell 0)
      have HB0 := Lib.hid hB0
      have HBK := Lib.hid b0
      have HB1 := Lib.hid b1
      obtain ⟨pk, hpk⟩ : ∃ pk, pathS k = pk := ⟨_, rfl⟩
      rw [hpk] at HEND HPA hpks HCT HCS HCZ HBP HBQ2
      generalize verS root k v there s = VS at *
      clear z0 hB0 b0 b1 hpk
      cases there
      · have hXE : emp 256 = X0 := hX0
        rw [hXE] at hl0
        clear hX0 hXE HOW hlp
        go_enter Try.func20, Try.ntmps20
        go_wp2_with (rw [HW0.out])
        refine (HPA.out _).mono ?_
        rintro e w1 ⟨rfl, hb1⟩
        have k1 := HBK.out.below hb1 HBK.out.lt
        have hB1 := HB0.out.trans (hb1.mono HB0.out.size)
        clear hb1 hl0 hlk HPA HB1 HB0 HBK a0
        go_wp2
        go_loopw [11, 13, 14] (fun x lf d wr => ∃ j : Nat, j ≤ 256 ∧ d = .int .i64 ((j : Int) - 1) ∧ x = .string (clK pk s X0 j) ∧ lf = .int .i64 (lfE s j : Nat) ∧ 32 + 32 * (cntS s 256 - cntS s j) ≤ s.size ∧ Blk wr w.heap.size 43 (emC emp) ∧ Below w.heap.size w wr) (fun _ _ d _ => ((intOf d) + 1).toNat)
        case atStart => exact ⟨256, Nat.le_refl _, rfl, by rw [HCT.out], by rw [HL0.out], by omega, k1, hB1⟩
        case round =>
          clear k1 hB1 HL0 HCT
          obtain ⟨j, hj, rfl, rfl, rfl, h64, hbr, hBr⟩ := hrel
          rcases j with _ | j
          · rw [show (((0 : Nat) : Int) - 1) = -1 from rfl]
            by_cases he : lfE s 0 = 32
            · have HE1 := Lib.hid (HEND.out he h64)
              have he' : (((lfE s 0 : Nat) : Int) == 32) = true := by rw [he]; rfl
              have HQ := Lib.hid (beqB5 (clK pk s X0 0) root)
              generalize clK pk s X0 0 = CK at *
              generalize lfE s 0 = lf at *
              clear h64 he
              go_wp2
              go_ret
              refine ⟨boolEq ?_, hBr⟩
              rw [HE1.out]
              exact HQ.out
            · have he' : (((lfE s 0 : Nat) : Int) == 32) = false := by rw [beq_eq_false_iff_ne]; omega
              have HE1 : Hid (VS = false) := Lib.hid (HNO.out (by have := HLD.out 0; have hc0 : cntS s 0 = 0 := rfl; omega))
              generalize clK pk s X0 0 = CK at *
              generalize lfE s 0 = lf at *
              clear h64 he
              go_wp2
              go_ret
              exact ⟨by rw [HE1.out]; rfl, hBr⟩
          · rw [show (((j + 1 : Nat) : Int) - 1) = (j : Int) by omega]
            have hj1 : j < 256 := by omega
            have hcb := txt_load ((hbr.cell (j + 1)).trans (emC_at emp (d := j + 1) (by omega)))
            have hj8 : (j : Int) + 1 < 257 := by omega
            have hes := emp_size (j + 1)
            have HBJ := Lib.hid (HBS.out j hj1)
            have HBPJ := Lib.hid (HBP.out j hj1)
            have hbs := HBQ.out j
            have hbp := HBQ2.out j
            have HSTP := Lib.hid (HCS.out j hj1)
            have HBEJ := Lib.hid (HBE.out j)
            have HLSJ := Lib.hid (HLS.out j hj1 h64)
            have HLEJ := Lib.hid (HLE.out j)
            have hck := HCZ.out (j + 1)
            have HBR := Lib.hid hbr
            have HBB := Lib.hid hBr
            generalize emp (j + 1) = E at *
            obtain ⟨CK, hCK⟩ : ∃ CK, clK pk s X0 (j + 1) = CK := ⟨_, rfl⟩
            rw [hCK] at HSTP hck ⊢
            obtain ⟨lf, hlf⟩ : ∃ lf, lfE s (j + 1) = lf := ⟨_, rfl⟩
            rw [hlf] at HLSJ HBEJ ⊢
            have z78 : (⟨#[78]⟩ : ByteArray).size = 1 := rfl
            clear hbr hBr HCS HCZ HBS HBP HBQ HBQ2 HLS HLE HEND hCK
            go_wp2_with fail
            refine (HBJ.out _).mono ?_
            rintro e w2 ⟨rfl, rfl⟩
            rw [hbs]
            cases hb : bitS s j with
            | true =>
              rw [hb] at HBEJ
              by_cases h3 : lf = 32
              · have HE1 : Hid (VS = false) := Lib.hid (HNO.out (by
                  have h1 := HLD.out (j + 1)
                  have h2 := cntS_succ s j
                  rw [hb] at h2
                  have h4 := HCM.out (j + 1) (by omega)
                  simp at h2
                  omega))
                subst h3
                clear hbs hb
                simp only [if_true]
                go_wp2
                go_ret
                exact ⟨by rw [HE1.out]; rfl, HBB.out⟩
              · obtain ⟨q1, q2, q3, q4⟩ := HLSJ.out hb h3
                have h3' : ((lf : Int) == 32) = false := by rw [beq_eq_false_iff_ne]; omega
                obtain ⟨l2, hl2⟩ : ∃ l2, lf - 32 = l2 := ⟨_, rfl⟩
                have hl2' : (lf : Int) - 32 = (l2 : Int) := by omega
                have hl3 : (l2 : Int) ≤ (lf : Int) := by omega
                have hl4 : (lf : Int) ≤ (s.size : Int) := by omega
                rw [hl2] at HBEJ q2
                have hXz : (s.extract l2 lf).size = 32 := by rw [sext_size _ _ _ q4]; omega
                have hbx : besE s j = s.extract l2 lf := HBEJ.out
                rw [hbx] at HSTP
                have HX := Lib.hid q2
                have HQ3 := Lib.hid q3
                generalize hEX : s.extract l2 lf = XE at *
                clear HBEJ HLSJ HLEJ hb hbs hbx hes q1 q2 q3 hl2
                simp only [if_true]
                have HH1 := Lib.hid (HH.out (⟨#[78]⟩ ++ CK ++ XE) (by simp only [ByteArray.size_append]; omega))
                have HH2 := Lib.hid (HH.out (⟨#[78]⟩ ++ XE ++ CK) (by simp only [ByteArray.size_append]; omega))
                rw [← HND.out] at HH1 HH2
                have a1 : ¬ (⟨#[78]⟩ : ByteArray).size + CK.size > 9223372036854775807 := by omega
                have a2 : ¬ ((⟨#[78]⟩ : ByteArray) ++ CK).size + (XE).size > 9223372036854775807 := by simp only [ByteArray.size_append]; omega
                have a3 : ¬ (⟨#[78]⟩ : ByteArray).size + (XE).size > 9223372036854775807 := by omega
                have a4 : ¬ ((⟨#[78]⟩ : ByteArray) ++ XE).size + CK.size > 9223372036854775807 := by simp only [ByteArray.size_append]; omega
                clear HH HND z78
                go_wp2_with fail
                refine (HBPJ.out _).mono ?_
                rintro e w2 ⟨rfl, rfl⟩
                rw [hbp]
                cases hb2 : bitS pk j with
                | false =>
                  have HST : Hid (clK pk s X0 j = nodS CK (XE)) := Lib.hid (by rw [HSTP.out, hb2]; rfl)
                  clear hbp hb2 HSTP HH2
                  simp only [Bool.false_eq_true, if_false]
                  generalize nodS CK (XE) = RR at *
                  go_wp2_with fail
                  refine (HH1.out _).mono ?_
                  rintro e w3 ⟨rfl, hb3⟩
                  have k3 := HBR.out.below hb3 HBR.out.lt
                  have hB3 := HBB.out.trans (hb3.mono HBB.out.size)
                  clear hb3
                  go_wp2
                  go_roundw
                  case rel => exact ⟨j, by omega, by go_num, by rw [HST.out], by rw [HX.out], HQ3.out, k3, hB3⟩
                  case measure => simp [intOf]
                | true =>
                  have HST : Hid (clK pk s X0 j = nodS (XE) CK) := Lib.hid (by rw [HSTP.out, hb2]; rfl)
                  clear hbp hb2 HSTP HH1
                  simp only [if_true]
                  generalize nodS (XE) CK = RR at *
                  go_wp2_with fail
                  refine (HH2.out _).mono ?_
                  rintro e w3 ⟨rfl, hb3⟩
                  have k3 := HBR.out.below hb3 HBR.out.lt
                  have hB3 := HBB.out.trans (hb3.mono HBB.out.size)
                  clear hb3
                  go_wp2
                  go_roundw
                  case rel => exact ⟨j, by omega, by go_num, by rw [HST.out], by rw [HX.out], HQ3.out, k3, hB3⟩
                  case measure => simp [intOf]
            | false =>
              have HLEQ := Lib.hid (HLEJ.out hb)
              rw [hb] at HBEJ
              have hbx : besE s j = E := HBEJ.out
              rw [hbx] at HSTP
              have HX : Hid (lfE s j = lf) := Lib.hid (by rw [← hlf, HLD.out, HLD.out, HLEQ.out])
              have HQ3 : Hid (32 + 32 * (cntS s 256 - cntS s j) ≤ s.size) := Lib.hid (by rw [HLEQ.out]; exact h64)
              clear HBEJ HLSJ HLEJ hb hbs hbx
              simp only [Bool.false_eq_true, if_false]
              have HH1 := Lib.hid (HH.out (⟨#[78]⟩ ++ CK ++ E) (by simp only [ByteArray.size_append]; omega))
              have HH2 := Lib.hid (HH.out (⟨#[78]⟩ ++ E ++ CK) (by simp only [ByteArray.size_append]; omega))
              rw [← HND.out] at HH1 HH2
              have a1 : ¬ (⟨#[78]⟩ : ByteArray).size + CK.size > 9223372036854775807 := by omega
              have a2 : ¬ ((⟨#[78]⟩ : ByteArray) ++ CK).size + (E).size > 9223372036854775807 := by simp only [ByteArray.size_append]; omega
              have a3 : ¬ (⟨#[78]⟩ : ByteArray).size + (E).size > 9223372036854775807 := by omega
              have a4 : ¬ ((⟨#[78]⟩ : ByteArray) ++ E).size + CK.size > 9223372036854775807 := by simp only [ByteArray.size_append]; omega
              clear HH HND z78
              go_wp2_with fail
              refine (HBPJ.out _).mono ?_
              rintro e w2 ⟨rfl, rfl⟩
              rw [hbp]
              cases hb2 : bitS pk j with
              | false =>
                have HST : Hid (clK pk s X0 j = nodS CK (E)) := Lib.hid (by rw [HSTP.out, hb2]; rfl)
                clear hbp hb2 HSTP HH2
                simp only [Bool.false_eq_true, if_false]
                generalize nodS CK (E) = RR at *
                go_wp2_with fail
                refine (HH1.out _).mono ?_
                rintro e w3 ⟨rfl, hb3⟩
                have k3 := HBR.out.below hb3 HBR.out.lt
                have hB3 := HBB.out.trans (hb3.mono HBB.out.size)
                clear hb3
                go_wp2
                go_roundw
                case rel => exact ⟨j, by omega, by go_num, by rw [HST.out], by rw [HX.out], HQ3.out, k3, hB3⟩
                case measure => simp [intOf]
              | true =>
                have HST : Hid (clK pk s X0 j = nodS (E) CK) := Lib.hid (by rw [HSTP.out, hb2]; rfl)
                clear hbp hb2 HSTP HH1
                simp only [if_true]
                generalize nodS (E) CK = RR at *
                go_wp2_with fail
                refine (HH2.out _).mono ?_
                rintro e w3 ⟨rfl, hb3⟩
                have k3 := HBR.out.below hb3 HBR.out.lt
                have hB3 := HBB.out.trans (hb3.mono HBB.out.size)
                clear hb3
                go_wp2
                go_roundw
                case rel => exact ⟨j, by omega, by go_num, by rw [HST.out], by rw [HX.out], HQ3.out, k3, hB3⟩
                case measure => simp [intOf]
        skip
      · have hXE : ownS k v = X0 := hX0
        rw [hXE] at HOW
        clear hX0 hXE
        generalize emp 256 = E256 at hl0
        go_enter Try.func20, Try.ntmps20
        go_wp2_with (rw [HW0.out])
        refine (HOW.out _).mono ?_
        rintro e w5 ⟨rfl, hb5⟩
        have k5 := HBK.out.below hb5 HBK.out.lt
        have hB5 := HB0.out.trans (hb5.mono HB0.out.size)
        have hlk5 := txt_load (w := w5) (p := ⟨w.heap.size + 1, 0, none⟩) ((HB1.out.below hb5 HB1.out.lt).cell 0)
        clear hb5 hl0 hlk hlp HB1 HB0 HBK
        go_wp2_with fail
        refine (HPA.out _).mono ?_
        rintro e w1 ⟨rfl, hb1⟩
        have k1 := k5.below hb1 k5.lt
        have hB1 := hB5.trans (hb1.mono hB5.size)
        clear hb1 hlk5 HPA a0 k5 hB5
        go_wp2
        go_loopw [11, 13, 14] (fun x lf d wr => ∃ j : Nat, j ≤ 256 ∧ d = .int .i64 ((j : Int) - 1) ∧ x = .string (clK pk s X0 j) ∧ lf = .int .i64 (lfE s j : Nat) ∧ 32 + 32 * (cntS s 256 - cntS s j) ≤ s.size ∧ Blk wr w.heap.size 43 (emC emp) ∧ Below w.heap.size w wr) (fun _ _ d _ => ((intOf d) + 1).toNat)
        case atStart => exact ⟨256, Nat.le_refl _, rfl, by rw [HCT.out], by rw [HL0.out], by omega, k1, hB1⟩
        case round =>
          clear k1 hB1 HL0 HCT
          obtain ⟨j, hj, rfl, rfl, rfl, h64, hbr, hBr⟩ := hrel
          rcases j with _ | j
          · rw [show (((0 : Nat) : Int) - 1) = -1 from rfl]
            by_cases he : lfE s 0 = 32
            · have HE1 := Lib.hid (HEND.out he h64)
              have he' : (((lfE s 0 : Nat) : Int) == 32) = true := by rw [he]; rfl
              have HQ := Lib.hid (beqB5 (clK pk s X0 0) root)
              generalize clK pk s X0 0 = CK at *
              generalize lfE s 0 = lf at *
              clear h64 he
              go_wp2
              go_ret
              refine ⟨boolEq ?_, hBr⟩
              rw [HE1.out]
              exact HQ.out
            · have he' : (((lfE s 0 : Nat) : Int) == 32) = false := by rw [beq_eq_false_iff_ne]; omega
              have HE1 : Hid (VS = false) := Lib.hid (HNO.out (by have := HLD.out 0; have hc0 : cntS s 0 = 0 := rfl; omega))
              generalize clK pk s X0 0 = CK at *
              generalize lfE s 0 = lf at *
              clear h64 he
              go_wp2
              go_ret
              exact ⟨by rw [HE1.out]; rfl, hBr⟩
          · rw [show (((j + 1 : Nat) : Int) - 1) = (j : Int) by omega]
            have hj1 : j < 256 := by omega
            have hcb := txt_load ((hbr.cell (j + 1)).trans (emC_at emp (d := j + 1) (by omega)))
            have hj8 : (j : Int) + 1 < 257 := by omega
            have hes := emp_size (j + 1)
            have HBJ := Lib.hid (HBS.out j hj1)
            have HBPJ := Lib.hid (HBP.out j hj1)
            have hbs := HBQ.out j
            have hbp := HBQ2.out j
            have HSTP := Lib.hid (HCS.out j hj1)
            have HBEJ := Lib.hid (HBE.out j)
            have HLSJ := Lib.hid (HLS.out j hj1 h64)
            have HLEJ := Lib.hid (HLE.out j)
            have hck := HCZ.out (j + 1)
            have HBR := Lib.hid hbr
            have HBB := Lib.hid hBr
            generalize emp (j + 1) = E at *
            obtain ⟨CK, hCK⟩ : ∃ CK, clK pk s X0 (j + 1) = CK := ⟨_, rfl⟩
            rw [hCK] at HSTP hck ⊢
            obtain ⟨lf, hlf⟩ : ∃ lf, lfE s (j + 1) = lf := ⟨_, rfl⟩
            rw [hlf] at HLSJ HBEJ ⊢
            have z78 : (⟨#[78]⟩ : ByteArray).size = 1 := rfl
            clear hbr hBr HCS HCZ HBS HBP HBQ HBQ2 HLS HLE HEND hCK
            go_wp2_with fail
            refine (HBJ.out _).mono ?_
            rintro e w2 ⟨rfl, rfl⟩
            rw [hbs]
            cases hb : bitS s j with
            | true =>
              rw [hb] at HBEJ
              by_cases h3 : lf = 32
              · have HE1 : Hid (VS = false) := Lib.hid (HNO.out (by
                  have h1 := HLD.out (j + 1)
                  have h2 := cntS_succ s j
                  rw [hb] at h2
                  have h4 := HCM.out (j + 1) (by omega)
                  simp at h2
                  omega))
                subst h3
                clear hbs hb
                simp only [if_true]
                go_wp2
                go_ret
                exact ⟨by rw [HE1.out]; rfl, HBB.out⟩
              · obtain ⟨q1, q2, q3, q4⟩ := HLSJ.out hb h3
                have h3' : ((lf : Int) == 32) = false := by rw [beq_eq_false_iff_ne]; omega
                obtain ⟨l2, hl2⟩ : ∃ l2, lf - 32 = l2 := ⟨_, rfl⟩
                have hl2' : (lf : Int) - 32 = (l2 : Int) := by omega
                have hl3 : (l2 : Int) ≤ (lf : Int) := by omega
                have hl4 : (lf : Int) ≤ (s.size : Int) := by omega
                rw [hl2] at HBEJ q2
                have hXz : (s.extract l2 lf).size = 32 := by rw [sext_size _ _ _ q4]; omega
                have hbx : besE s j = s.extract l2 lf := HBEJ.out
                rw [hbx] at HSTP
                have HX := Lib.hid q2
                have HQ3 := Lib.hid q3
                generalize hEX : s.extract l2 lf = XE at *
                clear HBEJ HLSJ HLEJ hb hbs hbx hes q1 q2 q3 hl2
                simp only [if_true]
                have HH1 := Lib.hid (HH.out (⟨#[78]⟩ ++ CK ++ XE) (by simp only [ByteArray.size_append]; omega))
                have HH2 := Lib.hid (HH.out (⟨#[78]⟩ ++ XE ++ CK) (by simp only [ByteArray.size_append]; omega))
                rw [← HND.out] at HH1 HH2
                have a1 : ¬ (⟨#[78]⟩ : ByteArray).size + CK.size > 9223372036854775807 := by omega
                have a2 : ¬ ((⟨#[78]⟩ : ByteArray) ++ CK).size + (XE).size > 9223372036854775807 := by simp only [ByteArray.size_append]; omega
                have a3 : ¬ (⟨#[78]⟩ : ByteArray).size + (XE).size > 9223372036854775807 := by omega
                have a4 : ¬ ((⟨#[78]⟩ : ByteArray) ++ XE).size + CK.size > 9223372036854775807 := by simp only [ByteArray.size_append]; omega
                clear HH HND z78
                go_wp2_with fail
                refine (HBPJ.out _).mono ?_
                rintro e w2 ⟨rfl, rfl⟩
                rw [hbp]
                cases hb2 : bitS pk j with
                | false =>
                  have HST : Hid (clK pk s X0 j = nodS CK (XE)) := Lib.hid (by rw [HSTP.out, hb2]; rfl)
                  clear hbp hb2 HSTP HH2
                  simp only [Bool.false_eq_true, if_false]
                  generalize nodS CK (XE) = RR at *
                  go_wp2_with fail
                  refine (HH1.out _).mono ?_
                  rintro e w3 ⟨rfl, hb3⟩
                  have k3 := HBR.out.below hb3 HBR.out.lt
                  have hB3 := HBB.out.trans (hb3.mono HBB.out.size)
                  clear hb3
                  go_wp2
                  go_roundw
                  case rel => exact ⟨j, by omega, by go_num, by rw [HST.out], by rw [HX.out], HQ3.out, k3, hB3⟩
                  case measure => simp [intOf]
                | true =>
                  have HST : Hid (clK pk s X0 j = nodS (XE) CK) := Lib.hid (by rw [HSTP.out, hb2]; rfl)
                  clear hbp hb2 HSTP HH1
                  simp only [if_true]
                  generalize nodS (XE) CK = RR at *
                  go_wp2_with fail
                  refine (HH2.out _).mono ?_
                  rintro e w3 ⟨rfl, hb3⟩
                  have k3 := HBR.out.below hb3 HBR.out.lt
                  have hB3 := HBB.out.trans (hb3.mono HBB.out.size)
                  clear hb3
                  go_wp2
                  go_roundw
                  case rel => exact ⟨j, by omega, by go_num, by rw [HST.out], by rw [HX.out], HQ3.out, k3, hB3⟩
                  case measure => simp [intOf]
            | false =>
              have HLEQ := Lib.hid (HLEJ.out hb)
              rw [hb] at HBEJ
              have hbx : besE s j = E := HBEJ.out
              rw [hbx] at HSTP
              have HX : Hid (lfE s j = lf) := Lib.hid (by rw [← hlf, HLD.out, HLD.out, HLEQ.out])
              have HQ3 : Hid (32 + 32 * (cntS s 256 - cntS s j) ≤ s.size) := Lib.hid (by rw [HLEQ.out]; exact h64)
              clear HBEJ HLSJ HLEJ hb hbs hbx
              simp only [Bool.false_eq_true, if_false]
              have HH1 := Lib.hid (HH.out (⟨#[78]⟩ ++ CK ++ E) (by simp only [ByteArray.size_append]; omega))
              have HH2 := Lib.hid (HH.out (⟨#[78]⟩ ++ E ++ CK) (by simp only [ByteArray.size_append]; omega))
              rw [← HND.out] at HH1 HH2
              have a1 : ¬ (⟨#[78]⟩ : ByteArray).size + CK.size > 9223372036854775807 := by omega
              have a2 : ¬ ((⟨#[78]⟩ : ByteArray) ++ CK).size + (E).size > 9223372036854775807 := by simp only [ByteArray.size_append]; omega
              have a3 : ¬ (⟨#[78]⟩ : ByteArray).size + (E).size > 9223372036854775807 := by omega
              have a4 : ¬ ((⟨#[78]⟩ : ByteArray) ++ E).size + CK.size > 9223372036854775807 := by simp only [ByteArray.size_append]; omega
              clear HH HND z78
              go_wp2_with fail
              refine (HBPJ.out _).mono ?_
              rintro e w2 ⟨rfl, rfl⟩
              rw [hbp]
              cases hb2 : bitS pk j with
              | false =>
                have HST : Hid (clK pk s X0 j = nodS CK (E)) := Lib.hid (by rw [HSTP.out, hb2]; rfl)
                clear hbp hb2 HSTP HH2
                simp only [Bool.false_eq_true, if_false]
                generalize nodS CK (E) = RR at *
                go_wp2_with fail
                refine (HH1.out _).mono ?_
                rintro e w3 ⟨rfl, hb3⟩
                have k3 := HBR.out.below hb3 HBR.out.lt
                have hB3 := HBB.out.trans (hb3.mono HBB.out.size)
                clear hb3
                go_wp2
                go_roundw
                case rel => exact ⟨j, by omega, by go_num, by rw [HST.out], by rw [HX.out], HQ3.out, k3, hB3⟩
                case measure => simp [intOf]
              | true =>
                have HST : Hid (clK pk s X0 j = nodS (E) CK) := Lib.hid (by rw [HSTP.out, hb2]; rfl)
                clear hbp hb2 HSTP HH1
                simp only [if_true]
                generalize nodS (E) CK = RR at *
                go_wp2_with fail
                refine (HH2.out _).mono ?_
                rintro e w3 ⟨rfl, hb3⟩
                have k3 := HBR.out.below hb3 HBR.out.lt
                have hB3 := HBB.out.trans (hb3.mono HBB.out.size)
                clear hb3
                go_wp2
                go_roundw
                case rel => exact ⟨j, by omega, by go_num, by rw [HST.out], by rw [HX.out], HQ3.out, k3, hB3⟩
                case measure => simp [intOf]
        skip
    · have hm' : (((s.size : Int) % 32) != 0) = true := by simp; omega
      have HR : Hid (verS root k v there s = false) := Lib.hid (ver_no (by omega))
      rw [HR.out]
      generalize emC emp = EE at *
      go_enter Try.func20, Try.ntmps20
      go_wp2_with (rw [HW0.out])
      go_ret
      exact ⟨rfl, hB0⟩
end
end Go.Proofs.Ytedkhcjbppknpaa
