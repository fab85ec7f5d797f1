/-
  Layer 9: the reference's Root, where its loops run.
-/
import Derived.Test.YtjdjndginacdnaaXRef
namespace Go.Proofs.Ytjdjndginacdnaa
open Go.RowKit

set_option maxRecDepth 100000 in
set_option maxHeartbeats 4000000 in
theorem rroot9_in (q : Nat) (hq : q < 256) (k : ByteArray) (th : Bool) (v s : ByteArray) (hk : k.size ≤ 255) (hv : v.size ≤ 255) (hz : th = true ∨ v.size = 0) (hs : 32 ≤ s.size) (hs2 : s.size ≤ 10000) (hm : s.size % 32 = 0) (w : World) :
    Calls Try.prog 9 #[.int .u8 q, .string k, .agg (ansA th v s)] w (RR9 (hF q) k th v s w) := by
  have HRR : Hid (∀ e w', RR9 (hF q) k th v s w e w' = (e = .returned (.tuple #[.string (rt9 (hF q) k th v s), .bool (may9 k th v s)]) ∧ Below w.heap.size w w')) := Lib.hid fun _ _ => rfl
  have HMW : Hid (may9 k th v s = wfS s) := Lib.hid (may9_wf hk hv hz)
  have HRT : Hid (rt9 (hF q) k th v s = if may9 k th v s then hF q (tx9 (hF q) (pa9 (hF q) k) s (ow9 k th v) 256) else ⟨#[]⟩) := Lib.hid rfl
  generalize RR9 (hF q) k th v s w = PO at *
  have h32 := hF_size q
  have HHA := Lib.hid (fun x (hx : x.size ≤ 1000) W => hash_any q hq x W hx)
  have HOW : Hid (ow9 k th v = if th then ⟨#[86]⟩ ++ strN [k.size % 256] ++ k ++ v else ⟨#[69]⟩) := Lib.hid rfl
  generalize hF q = h at *
  have H32 := Lib.hid h32
  have hos : (ow9 k th v).size ≤ 512 := by have := ow9_size k th v; omega
  have HE0 := Lib.hid (fun W => HHA.out ⟨#[69]⟩ (by decide) W)
  change Hid (∀ W, Calls _ _ _ W fun e w' => e = .returned (.string (em9 h 0)) ∧ _) at HE0
  have HP0 := Lib.hid (fun W => HHA.out (⟨#[75]⟩ ++ k) (by rw [pa9_size]; omega) W)
  change Hid (∀ W, Calls _ _ _ W fun e w' => e = .returned (.string (pa9 h k)) ∧ _) at HP0
  have HPS := Lib.hid (show (pa9 h k).size = 32 from h32 _)
  have a0 : ¬ (⟨#[75]⟩ : ByteArray).size + k.size > 9223372036854775807 := by rw [← ByteArray.size_append, pa9_size]; omega
  have HES := Lib.hid (em9_size h h32)
  have HEJ := Lib.hid (fun j W => HHA.out (⟨#[78]⟩ ++ em9 h j ++ em9 h j) (by simp only [ByteArray.size_append, HES.out]; decide) W)
  change Hid (∀ j W, Calls _ _ _ W fun e w' => e = .returned (.string (em9 h (j + 1))) ∧ _) at HEJ
  have hzc : Try.zeroCells55 = emC fun _ => ⟨#[]⟩ := by kernel_rfl
  have HZ := Lib.hid hzc
  clear hzc
  obtain ⟨B, hBB⟩ : ∃ B, w.heap.size = B := ⟨_, rfl⟩
  obtain ⟨w0, hw0⟩ : ∃ w0, w.alloc (.cells (ansA th v s) 23) = w0 := ⟨_, rfl⟩
  have b0 : Blk w0 B 23 (ansA th v s) := by rw [← hw0, ← hBB]; exact Blk.new _ _ _
  have z0 : w0.heap.size = B + 1 := by rw [← hw0]; simp [hBB]
  have hB0 : Below w.heap.size w w0 := by rw [← hw0]; exact (Below.refl _ w).alloc (Nat.le_refl _) _
  have q0 : w0.cell? ⟨B, 0, none⟩ = some (.bool th) := b0.cell 0
  have q1 : w0.cell? ⟨B, 1, none⟩ = some (.string v) := b0.cell 1
  have q2 : w0.cell? ⟨B, 2, none⟩ = some (.string s) := b0.cell 2
  obtain ⟨w1, hw1⟩ : ∃ w1, w0.alloc (.cells (emC fun _ => ⟨#[]⟩) 55) = w1 := ⟨_, rfl⟩
  have kA : Blk w1 B 23 (ansA th v s) := by rw [← hw1]; exact b0.alloc _
  have kE : Blk w1 (B + 1) 55 (emC fun _ => ⟨#[]⟩) := by rw [← hw1]; exact Blk.new_at z0.symm
  have hB1 : Below w.heap.size w w1 := by rw [← hw1]; exact hB0.alloc hB0.size _
  have HW : Hid (w.alloc (.cells #[.bool th, .string v, .string s] 23) = w0) := Lib.hid hw0
  have HW1 := Lib.hid hw1
  have HKA := Lib.hid kA
  have HKE := Lib.hid kE
  have HB1 := Lib.hid hB1
  have f1 : ¬ (255 : Int) < (k.size : Int) := by omega
  have f2 : ¬ (255 : Int) < (v.size : Int) := by omega
  have f4 : ¬ (s.size : Int) < 32 := by omega
  have f5 : (s.size : Int) % 32 = 0 := by omega
  have z1 := em9_size h h32
  show Calls _ _ #[_, _, .agg #[.bool th, .string v, .string s]] _ _
  clear hw0 b0 hB0 hw1 kA kE hB1 h32
  cases th
  · have hv0 : v.size = 0 := by rcases hz with h | h; cases h; exact h
    clear hz
    go_enter Try.func9, Try.ntmps9
    go_wp2_with (rw [HW.out])
    rw [HZ.out, HW1.out]
    clear q0 q1 q2 f1 f2 f4 f5
    refine (HE0.out _).mono ?_
    rintro e w2 ⟨rfl, hb⟩
    have hA2 := HKA.out.below hb HKA.out.lt
    have hE2 := HKE.out.below hb HKE.out.lt
    have hB2 := HB1.out.trans (hb.mono HB1.out.size)
    have hc2 := (hE2.cell 256).trans (emC_at _ (by decide))
    have hf2 := hE2.frozen 256
    have HA2 := Lib.hid hA2
    have HE2 := Lib.hid hE2
    have HB2 := Lib.hid hB2
    obtain ⟨E, hE⟩ : ∃ E, em9 h 0 = E := ⟨_, rfl⟩
    rw [hE]
    have HE := Lib.hid hE
    clear hb hA2 hE2 hB2 HKA HKE HB1 HE0 hE
    go_wp2
    have hE3 := HE2.out.set_ 256 (.string E)
    rw [emC_set (fun _ => ⟨#[]⟩) (emU9 h 256) (d := 256) E (by unfold emU9; rw [if_pos (by decide)]; exact HE.out) (fun i hi hne => by unfold emU9; rw [if_neg (by omega)])] at hE3
    have hA3 := HA2.out.far (p := ⟨B + 1, 256, none⟩) (by show B ≠ B + 1; omega) (.string E)
    have hB3 := HB2.out.setCell (p := ⟨B + 1, 256, none⟩) (by show w.heap.size ≤ B + 1; omega) (.string E)
    generalize w2.setCell ⟨B + 1, 256, none⟩ (.string E) = w3 at *
    clear hc2 hf2 HA2 HE2 HB2 HE
    go_loopw [10] (fun vi wr => ∃ j : Nat, j ≤ 256 ∧ vi = .int .i64 ((j : Int) - 1) ∧ Blk wr B 23 (ansA false v s) ∧ Blk wr (B + 1) 55 (emC (emU9 h j)) ∧ Below w.heap.size w wr) (fun vi _ => ((intOf vi) + 1).toNat)
    case atStart => exact ⟨256, Nat.le_refl _, rfl, hA3, hE3, hB3⟩
    case round =>
      clear hE3 hA3 hB3
      obtain ⟨j, hj, rfl, hAr, hEr, hBr⟩ := hrel
      rcases j with _ | j
      · rw [show (((0 : Nat) : Int) - 1) = -1 from rfl]
        have HEU : emU9 h 0 = fun d => em9 h (256 - d) := by funext d; unfold emU9; rw [if_pos (Nat.zero_le _)]
        rw [HEU] at hEr
        have HKE := Lib.hid hEr
        have HKA := Lib.hid hAr
        have HBR := Lib.hid hBr
        have c256 : wr.cell? ⟨B + 1, 256, none⟩ = some (.string (em9 h 0)) := (hEr.cell 256).trans (emC_at _ (by decide))
        have p0 : wr.cell? ⟨B, 0, none⟩ = some (.bool false) := hAr.cell 0
        have p1 : wr.cell? ⟨B, 1, none⟩ = some (.string v) := hAr.cell 1
        clear hAr hEr hBr HEU HEJ

        obtain ⟨E, hE⟩ : ∃ E, em9 h 0 = E := ⟨_, rfl⟩
        rw [hE] at c256
        have HEE := Lib.hid hE
        clear hE
        go_wp2_with fail
        have hb : Below wr.heap.size wr wr := Below.refl _ _
        have hX0 : Hid (E = h (tx9 h (pa9 h k) s (ow9 k false v) 0)) := Lib.hid (by rw [← HEE.out]; rfl)
        generalize wr = w6 at *
        clear HEE c256 p0 p1

        rw [hX0.out]
        refine (HP0.out _).mono ?_
        rintro e w7 ⟨rfl, hb7⟩
        have hb' := hb.trans (hb7.mono hb.size)
        have hA7 := HKA.out.below hb' HKA.out.lt
        have hE7 := HKE.out.below hb' HKE.out.lt
        have hB7 := HBR.out.trans (hb'.mono HBR.out.size)
        clear hb hb7 hb' HKA HKE HBR hX0 HP0
        generalize ow9 k false v = O at *
        generalize pa9 h k = P at *
        have HX0 : Hid (s.size = s.size - 32 * ct9 s 0) := Lib.hid rfl
        have hX0 : Hid (((s.size : Nat) : Int) = ((s.size - 32 * ct9 s 0 : Nat) : Int)) := Lib.hid rfl
        go_wp2
        rw [hX0.out]
        go_loopw [8, 11, 13] (fun vn vx vi wr => ∃ j : Nat, j ≤ 256 ∧ vi = .int .i64 (255 - (j : Int)) ∧ 32 * (ct9 s j + 1) ≤ s.size ∧ vn = .int .i64 (s.size - 32 * ct9 s j : Nat) ∧ vx = .string (h (tx9 h P s O j)) ∧ Blk wr B 23 (ansA false v s) ∧ Blk wr (B + 1) 55 (emC fun d => em9 h (256 - d)) ∧ Below w.heap.size w wr) (fun _ _ vi _ => (intOf vi + 1).toNat)
        case atStart => exact ⟨0, by omega, rfl, by show 32 * (0 + 1) ≤ s.size; omega, rfl, rfl, hA7, hE7, hB7⟩
        case round =>
          clear hA7 hE7 hB7
          obtain ⟨j, hj, rfl, hcj, rfl, rfl, hA, hE, hB⟩ := hrel
          have hBs := hB.size
          by_cases hlt : j < 256
          · obtain ⟨m, hm⟩ : ∃ m, 255 - j = m := ⟨_, rfl⟩
            have hmi : (255 : Int) - (j : Int) = (m : Int) := by omega
            rw [hmi]
            have hm0 : (0 : Int) ≤ (m : Int) := by omega
            have cE : wr.cell? ⟨B + 1, m + 1, none⟩ = some (.string (em9 h j)) := by
              have := (hE.cell (m + 1)).trans (emC_at _ (by omega))
              rwa [show 256 - (m + 1) = j by omega] at this
            have cS : wr.cell? ⟨B, 2, none⟩ = some (.string s) := hA.cell 2
            have hm7 : (m : Int) + 1 < 257 := by omega
            have hm6 : (0 : Int) ≤ (m : Int) + 1 := by omega
            have HBT := Lib.hid (fun W => rbit_any s m (by omega) hs W)
            have HBP := Lib.hid (fun W => rbit_any P m (by omega) (by rw [HPS.out]; decide) W)
            rw [bitN_eq] at HBT HBP
            have HCT : Hid (ct9 s (j + 1) = ct9 s j + if bitS s m then 1 else 0) := Lib.hid (by rw [← hm]; rfl)
            have HBV : Hid (bs9 h s j = if bitS s m then s.extract (s.size - 32 * (ct9 s j + 1)) (s.size - 32 * ct9 s j) else em9 h j) := Lib.hid (by rw [← hm]; rfl)
            have HTX : Hid (tx9 h P s O (j + 1) = nod9 (bitS P m) (h (tx9 h P s O j)) (bs9 h s j)) := Lib.hid (by rw [← hm]; rfl)
            have HMO : Hid (ct9 s (j + 1) ≤ ct9 s 256) := Lib.hid (ct9_mono s (by omega))
            have hxs : (h (tx9 h P s O j)).size = 32 := H32.out _
            have HA := Lib.hid hA
            have HEB := Lib.hid hE
            have HB := Lib.hid hB
            generalize h (tx9 h P s O j) = X at *
            have hes := HES.out j
            generalize em9 h j = EJ at *
            clear hA hE hB
            obtain ⟨bs, hbs⟩ : ∃ b, bitS s m = b := ⟨_, rfl⟩
            obtain ⟨bp, hbp⟩ : ∃ b, bitS P m = b := ⟨_, rfl⟩
            rw [hbs] at HBT HCT HBV
            rw [hbp] at HBP HTX
            clear hbs hbp
            cases bs
            · have HBT' : Hid (∀ W, Calls Try.prog 24 #[.string s, .int .i64 m] W fun e w' => e = .returned (.int .i64 0) ∧ w' = W) := Lib.hid HBT.out
              have hBV : bs9 h s j = EJ := HBV.out
              have hCT : ct9 s (j + 1) = ct9 s j := HCT.out
              have HNX : Hid (s.size - 32 * ct9 s j = s.size - 32 * ct9 s (j + 1)) := Lib.hid (by rw [hCT])
              have hcj1 : 32 * (ct9 s (j + 1) + 1) ≤ s.size := by rw [hCT]; exact hcj
              rw [hBV] at HTX
              rw [HNX.out]
              obtain ⟨n, hnn⟩ : ∃ n, s.size - 32 * ct9 s (j + 1) = n := ⟨_, rfl⟩
              rw [hnn]
              have HAA := Lib.hid hnn
              clear HBV hBV HCT hCT HBT HMO HNX hcj hnn
              go_wp2_with fail
              refine (HBT'.out _).mono ?_
              rintro e w' ⟨rfl, hw'⟩; rw [hw']; clear hw' w'
              have z0 : (⟨#[78]⟩ : ByteArray).size = 1 := rfl
              cases bp
              · have HBP' : Hid (∀ W, Calls Try.prog 24 #[.string P, .int .i64 m] W fun e w' => e = .returned (.int .i64 0) ∧ w' = W) := Lib.hid HBP.out
                have HTX' : Hid (tx9 h P s O (j + 1) = ⟨#[78]⟩ ++ X ++ EJ) := Lib.hid HTX.out
                have a1 : ¬ (⟨#[78]⟩ : ByteArray).size + X.size > 9223372036854775807 := by omega
                have a2 : ¬ ((⟨#[78]⟩ : ByteArray) ++ X).size + EJ.size > 9223372036854775807 := by simp only [ByteArray.size_append]; omega
                have HHN := Lib.hid (fun W => HHA.out (⟨#[78]⟩ ++ X ++ EJ) (by simp only [ByteArray.size_append]; omega) W)
                clear HBP HTX z0 hxs
                go_wp2_with fail
                refine (HBP'.out _).mono ?_
                rintro e w' ⟨rfl, hw'⟩; rw [hw']; clear hw' w'
                go_wp2_with fail
                refine (HHN.out _).mono ?_
                rintro e w9 ⟨rfl, hb⟩
                have hA9 := HA.out.below hb HA.out.lt
                have hE9 := HEB.out.below hb HEB.out.lt
                have hB9 := HB.out.trans (hb.mono HB.out.size)
                rw [← HTX'.out]
                obtain ⟨HT, hHT⟩ : ∃ HT, h (tx9 h P s O (j + 1)) = HT := ⟨_, rfl⟩
                rw [hHT]
                have HHT := Lib.hid hHT
                clear hb HA HEB HB HHN HBP' HTX' hHT a1 a2
                go_wp2
                go_roundw
                case rel => exact ⟨j + 1, by omega, by congr 1; omega, hcj1, by rw [HAA.out], by rw [HHT.out], hA9, hE9, hB9⟩
                case measure => first | (simp [intOf]; done) | (simp [intOf]; omega)
              · have HBP' : Hid (∀ W, Calls Try.prog 24 #[.string P, .int .i64 m] W fun e w' => e = .returned (.int .i64 1) ∧ w' = W) := Lib.hid HBP.out
                have HTX' : Hid (tx9 h P s O (j + 1) = ⟨#[78]⟩ ++ EJ ++ X) := Lib.hid HTX.out
                have a1 : ¬ (⟨#[78]⟩ : ByteArray).size + EJ.size > 9223372036854775807 := by omega
                have a2 : ¬ ((⟨#[78]⟩ : ByteArray) ++ EJ).size + X.size > 9223372036854775807 := by simp only [ByteArray.size_append]; omega
                have HHN := Lib.hid (fun W => HHA.out (⟨#[78]⟩ ++ EJ ++ X) (by simp only [ByteArray.size_append]; omega) W)
                clear HBP HTX z0 hxs
                go_wp2_with fail
                refine (HBP'.out _).mono ?_
                rintro e w' ⟨rfl, hw'⟩; rw [hw']; clear hw' w'
                go_wp2_with fail
                refine (HHN.out _).mono ?_
                rintro e w9 ⟨rfl, hb⟩
                have hA9 := HA.out.below hb HA.out.lt
                have hE9 := HEB.out.below hb HEB.out.lt
                have hB9 := HB.out.trans (hb.mono HB.out.size)
                rw [← HTX'.out]
                obtain ⟨HT, hHT⟩ : ∃ HT, h (tx9 h P s O (j + 1)) = HT := ⟨_, rfl⟩
                rw [hHT]
                have HHT := Lib.hid hHT
                clear hb HA HEB HB HHN HBP' HTX' hHT a1 a2
                go_wp2
                go_roundw
                case rel => exact ⟨j + 1, by omega, by congr 1; omega, hcj1, by rw [HAA.out], by rw [HHT.out], hA9, hE9, hB9⟩
                case measure => first | (simp [intOf]; done) | (simp [intOf]; omega)
            · have HBT' : Hid (∀ W, Calls Try.prog 24 #[.string s, .int .i64 m] W fun e w' => e = .returned (.int .i64 1) ∧ w' = W) := Lib.hid HBT.out
              have hBV : bs9 h s j = s.extract (s.size - 32 * (ct9 s j + 1)) (s.size - 32 * ct9 s j) := HBV.out
              have hCT : ct9 s (j + 1) = ct9 s j + 1 := HCT.out
              by_cases hn : s.size - 32 * ct9 s j = 32
              · have HN : Hid (may9 k false v s = false) := Lib.hid (HMW.out.trans (wf9_off (by have := HMO.out; omega)))
                have HR : Hid (rt9 h k false v s = ⟨#[]⟩) := Lib.hid (by rw [HRT.out, HN.out]; rfl)
                rw [hn]
                clear HBV hBV HCT hCT HBT HMO hcj hn
                rw [show ((32 : Nat) : Int) = 32 from rfl]
                go_wp2_with fail
                refine (HBT'.out _).mono ?_
                rintro e w' ⟨rfl, hw'⟩; rw [hw']; clear hw' w'
                go_wp2
                rw [HRR.out, HN.out, HR.out]
                exact ⟨rfl, HB.out⟩
              · obtain ⟨a, ha⟩ : ∃ a, s.size - 32 * ct9 s (j + 1) = a := ⟨_, rfl⟩
                obtain ⟨n, hnn⟩ : ∃ n, s.size - 32 * ct9 s j = n := ⟨_, rfl⟩
                have hcj1 : 32 * (ct9 s (j + 1) + 1) ≤ s.size := by omega
                have e1 : (n : Int) - 32 = (a : Int) := by omega
                have e2 : (a : Int) ≤ (n : Int) := by omega
                have e3 : (n : Int) ≤ (s.size : Int) := by omega
                have e4 : ¬ (n : Int) = 32 := by omega
                have e5 : ((n : Int) == 32) = false := by rw [beq_eq_false_iff_ne]; exact e4
                rw [show s.size - 32 * (ct9 s j + 1) = a by omega, hnn] at hBV
                have hses : (s.extract a n).size = 32 := by rw [ByteArray.size_extract, Nat.min_eq_left (by omega)]; omega
                obtain ⟨BS, hBS⟩ : ∃ BS, s.extract a n = BS := ⟨_, rfl⟩
                have HBS := Lib.hid hBS
                rw [hBS] at hBV hses
                rw [hBV] at HTX
                have HAA := Lib.hid ha
                rw [hnn]
                clear HBV hBV HCT hCT HBT HMO hcj hBS ha hnn hn
                go_wp2_with fail
                refine (HBT'.out _).mono ?_
                rintro e w' ⟨rfl, hw'⟩; rw [hw']; clear hw' w'
                have z0 : (⟨#[78]⟩ : ByteArray).size = 1 := rfl
                cases bp
                · have HBP' : Hid (∀ W, Calls Try.prog 24 #[.string P, .int .i64 m] W fun e w' => e = .returned (.int .i64 0) ∧ w' = W) := Lib.hid HBP.out
                  have HTX' : Hid (tx9 h P s O (j + 1) = ⟨#[78]⟩ ++ X ++ BS) := Lib.hid HTX.out
                  have a1 : ¬ (⟨#[78]⟩ : ByteArray).size + X.size > 9223372036854775807 := by omega
                  have a2 : ¬ ((⟨#[78]⟩ : ByteArray) ++ X).size + BS.size > 9223372036854775807 := by simp only [ByteArray.size_append]; omega
                  have HHN := Lib.hid (fun W => HHA.out (⟨#[78]⟩ ++ X ++ BS) (by simp only [ByteArray.size_append]; omega) W)
                  clear HBP HTX z0 hxs
                  go_wp2_with fail
                  try rw [HBS.out]
                  refine (HBP'.out _).mono ?_
                  rintro e w' ⟨rfl, hw'⟩; rw [hw']; clear hw' w'
                  go_wp2_with fail
                  refine (HHN.out _).mono ?_
                  rintro e w9 ⟨rfl, hb⟩
                  have hA9 := HA.out.below hb HA.out.lt
                  have hE9 := HEB.out.below hb HEB.out.lt
                  have hB9 := HB.out.trans (hb.mono HB.out.size)
                  rw [← HTX'.out]
                  obtain ⟨HT, hHT⟩ : ∃ HT, h (tx9 h P s O (j + 1)) = HT := ⟨_, rfl⟩
                  rw [hHT]
                  have HHT := Lib.hid hHT
                  clear hb HA HEB HB HHN HBP' HTX' hHT a1 a2
                  go_wp2
                  go_roundw
                  case rel => exact ⟨j + 1, by omega, by congr 1; omega, hcj1, by rw [HAA.out], by rw [HHT.out], hA9, hE9, hB9⟩
                  case measure => first | (simp [intOf]; done) | (simp [intOf]; omega)
                · have HBP' : Hid (∀ W, Calls Try.prog 24 #[.string P, .int .i64 m] W fun e w' => e = .returned (.int .i64 1) ∧ w' = W) := Lib.hid HBP.out
                  have HTX' : Hid (tx9 h P s O (j + 1) = ⟨#[78]⟩ ++ BS ++ X) := Lib.hid HTX.out
                  have a1 : ¬ (⟨#[78]⟩ : ByteArray).size + BS.size > 9223372036854775807 := by omega
                  have a2 : ¬ ((⟨#[78]⟩ : ByteArray) ++ BS).size + X.size > 9223372036854775807 := by simp only [ByteArray.size_append]; omega
                  have HHN := Lib.hid (fun W => HHA.out (⟨#[78]⟩ ++ BS ++ X) (by simp only [ByteArray.size_append]; omega) W)
                  clear HBP HTX z0 hxs
                  go_wp2_with fail
                  try rw [HBS.out]
                  refine (HBP'.out _).mono ?_
                  rintro e w' ⟨rfl, hw'⟩; rw [hw']; clear hw' w'
                  go_wp2_with fail
                  refine (HHN.out _).mono ?_
                  rintro e w9 ⟨rfl, hb⟩
                  have hA9 := HA.out.below hb HA.out.lt
                  have hE9 := HEB.out.below hb HEB.out.lt
                  have hB9 := HB.out.trans (hb.mono HB.out.size)
                  rw [← HTX'.out]
                  obtain ⟨HT, hHT⟩ : ∃ HT, h (tx9 h P s O (j + 1)) = HT := ⟨_, rfl⟩
                  rw [hHT]
                  have HHT := Lib.hid hHT
                  clear hb HA HEB HB HHN HBP' HTX' hHT a1 a2
                  go_wp2
                  go_roundw
                  case rel => exact ⟨j + 1, by omega, by congr 1; omega, hcj1, by rw [HAA.out], by rw [HHT.out], hA9, hE9, hB9⟩
                  case measure => first | (simp [intOf]; done) | (simp [intOf]; omega)
          · obtain rfl : j = 256 := by omega
            have hmi : (255 : Int) - ((256 : Nat) : Int) = -1 := by omega
            rw [hmi]
            have HB := Lib.hid hB
            clear hA hE hB hlt
            by_cases hn : s.size - 32 * ct9 s 256 = 32
            · have HN : Hid (may9 k false v s = true) := Lib.hid (HMW.out.trans (wf9_on (by omega)))
              have HR : Hid (rt9 h k false v s = h (tx9 h P s O 256)) := Lib.hid (by rw [HRT.out, HN.out]; rfl)
              rw [hn]
              clear hn hcj
              generalize h (tx9 h P s O 256) = X at *
              rw [show ((32 : Nat) : Int) = 32 from rfl]
              go_wp2
              rw [HRR.out, HN.out, HR.out]
              exact ⟨rfl, HB.out⟩
            · have HN : Hid (may9 k false v s = false) := Lib.hid (HMW.out.trans (wf9_off (by omega)))
              have HR : Hid (rt9 h k false v s = ⟨#[]⟩) := Lib.hid (by rw [HRT.out, HN.out]; rfl)
              obtain ⟨n, hnn⟩ : ∃ n, s.size - 32 * ct9 s 256 = n := ⟨_, rfl⟩
              rw [hnn]
              have e1 : (32 : Int) < (n : Int) := by omega
              clear hn hcj hnn
              generalize h (tx9 h P s O 256) = X at *
              go_wp2
              rw [HRR.out, HN.out, HR.out]
              exact ⟨rfl, HB.out⟩
      · rw [show (((j + 1 : Nat) : Int) - 1) = (j : Int) by omega]
        have hcb := (hEr.cell (j + 1)).trans (emC_at _ (by omega))
        have HJ1 := Lib.hid (fun W => HEJ.out (255 - j) W)
        rw [show 255 - j + 1 = 256 - j by omega] at HJ1
        have HX := Lib.hid (show emU9 h (j + 1) (j + 1) = em9 h (255 - j) by unfold emU9; rw [if_pos (Nat.le_refl _), show 256 - (j + 1) = 255 - j by omega])
        rw [HX.out] at hcb
        have hXs := HES.out (255 - j)
        generalize em9 h (255 - j) = X at *
        have hl : (loadVar 9 ⟨B + 1, j + 1, none⟩).run Try.prog wr.drew = .ok (.string X) wr.drew := txt_load hcb
        have z0 : (⟨#[78]⟩ : ByteArray).size = 1 := rfl
        have ad1 := addRun (a := ⟨#[78]⟩) (b := X) (by omega)
        have ad2 := addRun (a := ⟨#[78]⟩ ++ X) (b := X) (by simp only [ByteArray.size_append]; omega)
        have HK := Lib.hid hEr
        have HN := Lib.hid hAr
        have HB := Lib.hid hBr
        have hj7 : (j : Int) < 257 := by omega
        have hj8 : (j : Int) + 1 < 257 := by omega
        have hj6 : (0 : Int) ≤ (j : Int) + 1 := by omega
        have hj9 : IntKind.i64.wrap ((j : Int) + 1) = (j : Int) + 1 := by have := i64_small (n := j + 1) (by omega); simpa using this
        obtain ⟨Y, hY⟩ : ∃ Y, em9 h (256 - j) = Y := ⟨_, rfl⟩
        rw [hY] at HJ1
        have HY := Lib.hid hY
        clear hAr hEr hBr HX hY hXs HEJ z0
        go_wp2
        go_region_law (first
          | (go_simp; go_at_call 23; refine (HJ1.out _).mono ?_; rintro e w4 ⟨rfl, hb2⟩; have hb2' : Below wr.heap.size wr w4 := (Below.refl _ _).drew.trans hb2; have hk2 := HK.out.below hb2' HK.out.lt; have hc2 := (hk2.cell j).trans (emC_at _ (by omega)); have hf2 := hk2.frozen j))
        all_goals
          have hk3 := hk2.set_ j (.string Y)
          rw [emC_set (emU9 h (j + 1)) (emU9 h j) (d := j) Y (by unfold emU9; rw [if_pos (Nat.le_refl _)]; exact HY.out) (fun i hi hne => by unfold emU9; by_cases h : j ≤ i <;> simp [h] <;> omega)] at hk3
          have hn3 := (HN.out.below hb2' HN.out.lt).far (p := ⟨B + 1, j, none⟩) (by show B ≠ B + 1; omega) (.string Y)
          have hB3 := (HB.out.trans (hb2'.mono HB.out.size)).setCell (p := ⟨B + 1, j, none⟩) (by show w.heap.size ≤ B + 1; omega) (.string Y)
          generalize w4.setCell ⟨B + 1, j, none⟩ (.string Y) = w5 at *
          clear hk2 hc2 hf2 hb2 hb2' HB HK HN HY HJ1 hl ad1 ad2 hj9
          go_wp2
          go_roundw
          case rel => exact ⟨j, by omega, by go_num, hn3, hk3, hB3⟩
          case measure => simp [intOf]
  · clear hz
    go_enter Try.func9, Try.ntmps9
    go_wp2_with (rw [HW.out])
    rw [HZ.out, HW1.out]
    clear q0 q1 q2 f1 f2 f4 f5
    refine (HE0.out _).mono ?_
    rintro e w2 ⟨rfl, hb⟩
    have hA2 := HKA.out.below hb HKA.out.lt
    have hE2 := HKE.out.below hb HKE.out.lt
    have hB2 := HB1.out.trans (hb.mono HB1.out.size)
    have hc2 := (hE2.cell 256).trans (emC_at _ (by decide))
    have hf2 := hE2.frozen 256
    have HA2 := Lib.hid hA2
    have HE2 := Lib.hid hE2
    have HB2 := Lib.hid hB2
    obtain ⟨E, hE⟩ : ∃ E, em9 h 0 = E := ⟨_, rfl⟩
    rw [hE]
    have HE := Lib.hid hE
    clear hb hA2 hE2 hB2 HKA HKE HB1 HE0 hE
    go_wp2
    have hE3 := HE2.out.set_ 256 (.string E)
    rw [emC_set (fun _ => ⟨#[]⟩) (emU9 h 256) (d := 256) E (by unfold emU9; rw [if_pos (by decide)]; exact HE.out) (fun i hi hne => by unfold emU9; rw [if_neg (by omega)])] at hE3
    have hA3 := HA2.out.far (p := ⟨B + 1, 256, none⟩) (by show B ≠ B + 1; omega) (.string E)
    have hB3 := HB2.out.setCell (p := ⟨B + 1, 256, none⟩) (by show w.heap.size ≤ B + 1; omega) (.string E)
    generalize w2.setCell ⟨B + 1, 256, none⟩ (.string E) = w3 at *
    clear hc2 hf2 HA2 HE2 HB2 HE
    go_loopw [10] (fun vi wr => ∃ j : Nat, j ≤ 256 ∧ vi = .int .i64 ((j : Int) - 1) ∧ Blk wr B 23 (ansA true v s) ∧ Blk wr (B + 1) 55 (emC (emU9 h j)) ∧ Below w.heap.size w wr) (fun vi _ => ((intOf vi) + 1).toNat)
    case atStart => exact ⟨256, Nat.le_refl _, rfl, hA3, hE3, hB3⟩
    case round =>
      clear hE3 hA3 hB3
      obtain ⟨j, hj, rfl, hAr, hEr, hBr⟩ := hrel
      rcases j with _ | j
      · rw [show (((0 : Nat) : Int) - 1) = -1 from rfl]
        have HEU : emU9 h 0 = fun d => em9 h (256 - d) := by funext d; unfold emU9; rw [if_pos (Nat.zero_le _)]
        rw [HEU] at hEr
        have HKE := Lib.hid hEr
        have HKA := Lib.hid hAr
        have HBR := Lib.hid hBr
        have c256 : wr.cell? ⟨B + 1, 256, none⟩ = some (.string (em9 h 0)) := (hEr.cell 256).trans (emC_at _ (by decide))
        have p0 : wr.cell? ⟨B, 0, none⟩ = some (.bool true) := hAr.cell 0
        have p1 : wr.cell? ⟨B, 1, none⟩ = some (.string v) := hAr.cell 1
        clear hAr hEr hBr HEU HEJ

        have hc := conv_one wr (k.size % 256) (Nat.mod_lt _ (by decide))
        obtain ⟨L, hL⟩ : ∃ L, strN [k.size % 256] = L := ⟨_, rfl⟩
        have zl : L.size = 1 := by rw [← hL, strN_size]; rfl
        have y0 : (⟨#[86]⟩ : ByteArray).size = 1 := rfl
        rw [hL] at hc
        have a1 : ¬ (⟨#[86]⟩ : ByteArray).size + L.size > 9223372036854775807 := by omega
        have a2 : ¬ ((⟨#[86]⟩ : ByteArray) ++ L).size + k.size > 9223372036854775807 := by simp only [ByteArray.size_append]; omega
        have a3 : ¬ ((⟨#[86]⟩ : ByteArray) ++ L ++ k).size + v.size > 9223372036854775807 := by simp only [ByteArray.size_append]; omega
        have hB0 : Below wr.heap.size wr (wr.alloc (.cells #[.int .u8 ((k.size % 256 : Nat) : Int)] 5)) := (Below.refl _ wr).alloc (Nat.le_refl _) _
        have b1 := HKA.out.alloc (.cells #[.int .u8 ((k.size % 256 : Nat) : Int)] 5)
        have p1' : (wr.alloc (.cells #[.int .u8 ((k.size % 256 : Nat) : Int)] 5)).cell? ⟨B, 1, none⟩ = some (.string v) := b1.cell 1
        have hm8 : IntKind.u8.wrap (k.size : Int) = ((k.size % 256 : Nat) : Int) := by rw [IntKind.wrap_u8']; omega
        have HOX : Hid (ow9 k true v = ⟨#[86]⟩ ++ L ++ k ++ v) := Lib.hid (by rw [HOW.out, ← hL]; rfl)
        have HHO := Lib.hid (fun W => HHA.out (ow9 k true v) (by omega) W)
        rw [HOX.out] at HHO
        generalize k.size % 256 = M at *
        clear hL zl y0 b1
        go_wp2_with fail
        refine (HHO.out _).mono ?_
        rintro e w6 ⟨rfl, hb6⟩
        have hb : Below wr.heap.size wr w6 := hB0.trans (hb6.mono hB0.size)
        rw [← HOX.out]
        have hX0 : Hid (h (ow9 k true v) = h (tx9 h (pa9 h k) s (ow9 k true v) 0)) := Lib.hid rfl
        clear hb6 hB0 p0 p1 p1' c256 hc a1 a2 a3 HHO HOX
        go_wp2_with fail

        rw [hX0.out]
        refine (HP0.out _).mono ?_
        rintro e w7 ⟨rfl, hb7⟩
        have hb' := hb.trans (hb7.mono hb.size)
        have hA7 := HKA.out.below hb' HKA.out.lt
        have hE7 := HKE.out.below hb' HKE.out.lt
        have hB7 := HBR.out.trans (hb'.mono HBR.out.size)
        clear hb hb7 hb' HKA HKE HBR hX0 HP0
        generalize ow9 k true v = O at *
        generalize pa9 h k = P at *
        have HX0 : Hid (s.size = s.size - 32 * ct9 s 0) := Lib.hid rfl
        have hX0 : Hid (((s.size : Nat) : Int) = ((s.size - 32 * ct9 s 0 : Nat) : Int)) := Lib.hid rfl
        go_wp2
        rw [hX0.out]
        go_loopw [8, 11, 13] (fun vn vx vi wr => ∃ j : Nat, j ≤ 256 ∧ vi = .int .i64 (255 - (j : Int)) ∧ 32 * (ct9 s j + 1) ≤ s.size ∧ vn = .int .i64 (s.size - 32 * ct9 s j : Nat) ∧ vx = .string (h (tx9 h P s O j)) ∧ Blk wr B 23 (ansA true v s) ∧ Blk wr (B + 1) 55 (emC fun d => em9 h (256 - d)) ∧ Below w.heap.size w wr) (fun _ _ vi _ => (intOf vi + 1).toNat)
        case atStart => exact ⟨0, by omega, rfl, by show 32 * (0 + 1) ≤ s.size; omega, rfl, rfl, hA7, hE7, hB7⟩
        case round =>
          clear hA7 hE7 hB7
          obtain ⟨j, hj, rfl, hcj, rfl, rfl, hA, hE, hB⟩ := hrel
          have hBs := hB.size
          by_cases hlt : j < 256
          · obtain ⟨m, hm⟩ : ∃ m, 255 - j = m := ⟨_, rfl⟩
            have hmi : (255 : Int) - (j : Int) = (m : Int) := by omega
            rw [hmi]
            have hm0 : (0 : Int) ≤ (m : Int) := by omega
            have cE : wr.cell? ⟨B + 1, m + 1, none⟩ = some (.string (em9 h j)) := by
              have := (hE.cell (m + 1)).trans (emC_at _ (by omega))
              rwa [show 256 - (m + 1) = j by omega] at this
            have cS : wr.cell? ⟨B, 2, none⟩ = some (.string s) := hA.cell 2
            have hm7 : (m : Int) + 1 < 257 := by omega
            have hm6 : (0 : Int) ≤ (m : Int) + 1 := by omega
            have HBT := Lib.hid (fun W => rbit_any s m (by omega) hs W)
            have HBP := Lib.hid (fun W => rbit_any P m (by omega) (by rw [HPS.out]; decide) W)
            rw [bitN_eq] at HBT HBP
            have HCT : Hid (ct9 s (j + 1) = ct9 s j + if bitS s m then 1 else 0) := Lib.hid (by rw [← hm]; rfl)
            have HBV : Hid (bs9 h s j = if bitS s m then s.extract (s.size - 32 * (ct9 s j + 1)) (s.size - 32 * ct9 s j) else em9 h j) := Lib.hid (by rw [← hm]; rfl)
            have HTX : Hid (tx9 h P s O (j + 1) = nod9 (bitS P m) (h (tx9 h P s O j)) (bs9 h s j)) := Lib.hid (by rw [← hm]; rfl)
            have HMO : Hid (ct9 s (j + 1) ≤ ct9 s 256) := Lib.hid (ct9_mono s (by omega))
            have hxs : (h (tx9 h P s O j)).size = 32 := H32.out _
            have HA := Lib.hid hA
            have HEB := Lib.hid hE
            have HB := Lib.hid hB
            generalize h (tx9 h P s O j) = X at *
            have hes := HES.out j
            generalize em9 h j = EJ at *
            clear hA hE hB
            obtain ⟨bs, hbs⟩ : ∃ b, bitS s m = b := ⟨_, rfl⟩
            obtain ⟨bp, hbp⟩ : ∃ b, bitS P m = b := ⟨_, rfl⟩
            rw [hbs] at HBT HCT HBV
            rw [hbp] at HBP HTX
            clear hbs hbp
            cases bs
            · have HBT' : Hid (∀ W, Calls Try.prog 24 #[.string s, .int .i64 m] W fun e w' => e = .returned (.int .i64 0) ∧ w' = W) := Lib.hid HBT.out
              have hBV : bs9 h s j = EJ := HBV.out
              have hCT : ct9 s (j + 1) = ct9 s j := HCT.out
              have HNX : Hid (s.size - 32 * ct9 s j = s.size - 32 * ct9 s (j + 1)) := Lib.hid (by rw [hCT])
              have hcj1 : 32 * (ct9 s (j + 1) + 1) ≤ s.size := by rw [hCT]; exact hcj
              rw [hBV] at HTX
              rw [HNX.out]
              obtain ⟨n, hnn⟩ : ∃ n, s.size - 32 * ct9 s (j + 1) = n := ⟨_, rfl⟩
              rw [hnn]
              have HAA := Lib.hid hnn
              clear HBV hBV HCT hCT HBT HMO HNX hcj hnn
              go_wp2_with fail
              refine (HBT'.out _).mono ?_
              rintro e w' ⟨rfl, hw'⟩; rw [hw']; clear hw' w'
              have z0 : (⟨#[78]⟩ : ByteArray).size = 1 := rfl
              cases bp
              · have HBP' : Hid (∀ W, Calls Try.prog 24 #[.string P, .int .i64 m] W fun e w' => e = .returned (.int .i64 0) ∧ w' = W) := Lib.hid HBP.out
                have HTX' : Hid (tx9 h P s O (j + 1) = ⟨#[78]⟩ ++ X ++ EJ) := Lib.hid HTX.out
                have a1 : ¬ (⟨#[78]⟩ : ByteArray).size + X.size > 9223372036854775807 := by omega
                have a2 : ¬ ((⟨#[78]⟩ : ByteArray) ++ X).size + EJ.size > 9223372036854775807 := by simp only [ByteArray.size_append]; omega
                have HHN := Lib.hid (fun W => HHA.out (⟨#[78]⟩ ++ X ++ EJ) (by simp only [ByteArray.size_append]; omega) W)
                clear HBP HTX z0 hxs
                go_wp2_with fail
                refine (HBP'.out _).mono ?_
                rintro e w' ⟨rfl, hw'⟩; rw [hw']; clear hw' w'
                go_wp2_with fail
                refine (HHN.out _).mono ?_
                rintro e w9 ⟨rfl, hb⟩
                have hA9 := HA.out.below hb HA.out.lt
                have hE9 := HEB.out.below hb HEB.out.lt
                have hB9 := HB.out.trans (hb.mono HB.out.size)
                rw [← HTX'.out]
                obtain ⟨HT, hHT⟩ : ∃ HT, h (tx9 h P s O (j + 1)) = HT := ⟨_, rfl⟩
                rw [hHT]
                have HHT := Lib.hid hHT
                clear hb HA HEB HB HHN HBP' HTX' hHT a1 a2
                go_wp2
                go_roundw
                case rel => exact ⟨j + 1, by omega, by congr 1; omega, hcj1, by rw [HAA.out], by rw [HHT.out], hA9, hE9, hB9⟩
                case measure => first | (simp [intOf]; done) | (simp [intOf]; omega)
              · have HBP' : Hid (∀ W, Calls Try.prog 24 #[.string P, .int .i64 m] W fun e w' => e = .returned (.int .i64 1) ∧ w' = W) := Lib.hid HBP.out
                have HTX' : Hid (tx9 h P s O (j + 1) = ⟨#[78]⟩ ++ EJ ++ X) := Lib.hid HTX.out
                have a1 : ¬ (⟨#[78]⟩ : ByteArray).size + EJ.size > 9223372036854775807 := by omega
                have a2 : ¬ ((⟨#[78]⟩ : ByteArray) ++ EJ).size + X.size > 9223372036854775807 := by simp only [ByteArray.size_append]; omega
                have HHN := Lib.hid (fun W => HHA.out (⟨#[78]⟩ ++ EJ ++ X) (by simp only [ByteArray.size_append]; omega) W)
                clear HBP HTX z0 hxs
                go_wp2_with fail
                refine (HBP'.out _).mono ?_
                rintro e w' ⟨rfl, hw'⟩; rw [hw']; clear hw' w'
                go_wp2_with fail
                refine (HHN.out _).mono ?_
                rintro e w9 ⟨rfl, hb⟩
                have hA9 := HA.out.below hb HA.out.lt
                have hE9 := HEB.out.below hb HEB.out.lt
                have hB9 := HB.out.trans (hb.mono HB.out.size)
                rw [← HTX'.out]
                obtain ⟨HT, hHT⟩ : ∃ HT, h (tx9 h P s O (j + 1)) = HT := ⟨_, rfl⟩
                rw [hHT]
                have HHT := Lib.hid hHT
                clear hb HA HEB HB HHN HBP' HTX' hHT a1 a2
                go_wp2
                go_roundw
                case rel => exact ⟨j + 1, by omega, by congr 1; omega, hcj1, by rw [HAA.out], by rw [HHT.out], hA9, hE9, hB9⟩
                case measure => first | (simp [intOf]; done) | (simp [intOf]; omega)
            · have HBT' : Hid (∀ W, Calls Try.prog 24 #[.string s, .int .i64 m] W fun e w' => e = .returned (.int .i64 1) ∧ w' = W) := Lib.hid HBT.out
              have hBV : bs9 h s j = s.extract (s.size - 32 * (ct9 s j + 1)) (s.size - 32 * ct9 s j) := HBV.out
              have hCT : ct9 s (j + 1) = ct9 s j + 1 := HCT.out
              by_cases hn : s.size - 32 * ct9 s j = 32
              · have HN : Hid (may9 k true v s = false) := Lib.hid (HMW.out.trans (wf9_off (by have := HMO.out; omega)))
                have HR : Hid (rt9 h k true v s = ⟨#[]⟩) := Lib.hid (by rw [HRT.out, HN.out]; rfl)
                rw [hn]
                clear HBV hBV HCT hCT HBT HMO hcj hn
                rw [show ((32 : Nat) : Int) = 32 from rfl]
                go_wp2_with fail
                refine (HBT'.out _).mono ?_
                rintro e w' ⟨rfl, hw'⟩; rw [hw']; clear hw' w'
                go_wp2
                rw [HRR.out, HN.out, HR.out]
                exact ⟨rfl, HB.out⟩
              · obtain ⟨a, ha⟩ : ∃ a, s.size - 32 * ct9 s (j + 1) = a := ⟨_, rfl⟩
                obtain ⟨n, hnn⟩ : ∃ n, s.size - 32 * ct9 s j = n := ⟨_, rfl⟩
                have hcj1 : 32 * (ct9 s (j + 1) + 1) ≤ s.size := by omega
                have e1 : (n : Int) - 32 = (a : Int) := by omega
                have e2 : (a : Int) ≤ (n : Int) := by omega
                have e3 : (n : Int) ≤ (s.size : Int) := by omega
                have e4 : ¬ (n : Int) = 32 := by omega
                have e5 : ((n : Int) == 32) = false := by rw [beq_eq_false_iff_ne]; exact e4
                rw [show s.size - 32 * (ct9 s j + 1) = a by omega, hnn] at hBV
                have hses : (s.extract a n).size = 32 := by rw [ByteArray.size_extract, Nat.min_eq_left (by omega)]; omega
                obtain ⟨BS, hBS⟩ : ∃ BS, s.extract a n = BS := ⟨_, rfl⟩
                have HBS := Lib.hid hBS
                rw [hBS] at hBV hses
                rw [hBV] at HTX
                have HAA := Lib.hid ha
                rw [hnn]
                clear HBV hBV HCT hCT HBT HMO hcj hBS ha hnn hn
                go_wp2_with fail
                refine (HBT'.out _).mono ?_
                rintro e w' ⟨rfl, hw'⟩; rw [hw']; clear hw' w'
                have z0 : (⟨#[78]⟩ : ByteArray).size = 1 := rfl
                cases bp
                · have HBP' : Hid (∀ W, Calls Try.prog 24 #[.string P, .int .i64 m] W fun e w' => e = .returned (.int .i64 0) ∧ w' = W) := Lib.hid HBP.out
                  have HTX' : Hid (tx9 h P s O (j + 1) = ⟨#[78]⟩ ++ X ++ BS) := Lib.hid HTX.out
                  have a1 : ¬ (⟨#[78]⟩ : ByteArray).size + X.size > 9223372036854775807 := by omega
                  have a2 : ¬ ((⟨#[78]⟩ : ByteArray) ++ X).size + BS.size > 9223372036854775807 := by simp only [ByteArray.size_append]; omega
                  have HHN := Lib.hid (fun W => HHA.out (⟨#[78]⟩ ++ X ++ BS) (by simp only [ByteArray.size_append]; omega) W)
                  clear HBP HTX z0 hxs
                  go_wp2_with fail
                  try rw [HBS.out]
                  refine (HBP'.out _).mono ?_
                  rintro e w' ⟨rfl, hw'⟩; rw [hw']; clear hw' w'
                  go_wp2_with fail
                  refine (HHN.out _).mono ?_
                  rintro e w9 ⟨rfl, hb⟩
                  have hA9 := HA.out.below hb HA.out.lt
                  have hE9 := HEB.out.below hb HEB.out.lt
                  have hB9 := HB.out.trans (hb.mono HB.out.size)
                  rw [← HTX'.out]
                  obtain ⟨HT, hHT⟩ : ∃ HT, h (tx9 h P s O (j + 1)) = HT := ⟨_, rfl⟩
                  rw [hHT]
                  have HHT := Lib.hid hHT
                  clear hb HA HEB HB HHN HBP' HTX' hHT a1 a2
                  go_wp2
                  go_roundw
                  case rel => exact ⟨j + 1, by omega, by congr 1; omega, hcj1, by rw [HAA.out], by rw [HHT.out], hA9, hE9, hB9⟩
                  case measure => first | (simp [intOf]; done) | (simp [intOf]; omega)
                · have HBP' : Hid (∀ W, Calls Try.prog 24 #[.string P, .int .i64 m] W fun e w' => e = .returned (.int .i64 1) ∧ w' = W) := Lib.hid HBP.out
                  have HTX' : Hid (tx9 h P s O (j + 1) = ⟨#[78]⟩ ++ BS ++ X) := Lib.hid HTX.out
                  have a1 : ¬ (⟨#[78]⟩ : ByteArray).size + BS.size > 9223372036854775807 := by omega
                  have a2 : ¬ ((⟨#[78]⟩ : ByteArray) ++ BS).size + X.size > 9223372036854775807 := by simp only [ByteArray.size_append]; omega
                  have HHN := Lib.hid (fun W => HHA.out (⟨#[78]⟩ ++ BS ++ X) (by simp only [ByteArray.size_append]; omega) W)
                  clear HBP HTX z0 hxs
                  go_wp2_with fail
                  try rw [HBS.out]
                  refine (HBP'.out _).mono ?_
                  rintro e w' ⟨rfl, hw'⟩; rw [hw']; clear hw' w'
                  go_wp2_with fail
                  refine (HHN.out _).mono ?_
                  rintro e w9 ⟨rfl, hb⟩
                  have hA9 := HA.out.below hb HA.out.lt
                  have hE9 := HEB.out.below hb HEB.out.lt
                  have hB9 := HB.out.trans (hb.mono HB.out.size)
                  rw [← HTX'.out]
                  obtain ⟨HT, hHT⟩ : ∃ HT, h (tx9 h P s O (j + 1)) = HT := ⟨_, rfl⟩
                  rw [hHT]
                  have HHT := Lib.hid hHT
                  clear hb HA HEB HB HHN HBP' HTX' hHT a1 a2
                  go_wp2
                  go_roundw
                  case rel => exact ⟨j + 1, by omega, by congr 1; omega, hcj1, by rw [HAA.out], by rw [HHT.out], hA9, hE9, hB9⟩
                  case measure => first | (simp [intOf]; done) | (simp [intOf]; omega)
          · obtain rfl : j = 256 := by omega
            have hmi : (255 : Int) - ((256 : Nat) : Int) = -1 := by omega
            rw [hmi]
            have HB := Lib.hid hB
            clear hA hE hB hlt
            by_cases hn : s.size - 32 * ct9 s 256 = 32
            · have HN : Hid (may9 k true v s = true) := Lib.hid (HMW.out.trans (wf9_on (by omega)))
              have HR : Hid (rt9 h k true v s = h (tx9 h P s O 256)) := Lib.hid (by rw [HRT.out, HN.out]; rfl)
              rw [hn]
              clear hn hcj
              generalize h (tx9 h P s O 256) = X at *
              rw [show ((32 : Nat) : Int) = 32 from rfl]
              go_wp2
              rw [HRR.out, HN.out, HR.out]
              exact ⟨rfl, HB.out⟩
            · have HN : Hid (may9 k true v s = false) := Lib.hid (HMW.out.trans (wf9_off (by omega)))
              have HR : Hid (rt9 h k true v s = ⟨#[]⟩) := Lib.hid (by rw [HRT.out, HN.out]; rfl)
              obtain ⟨n, hnn⟩ : ∃ n, s.size - 32 * ct9 s 256 = n := ⟨_, rfl⟩
              rw [hnn]
              have e1 : (32 : Int) < (n : Int) := by omega
              clear hn hcj hnn
              generalize h (tx9 h P s O 256) = X at *
              go_wp2
              rw [HRR.out, HN.out, HR.out]
              exact ⟨rfl, HB.out⟩
      · rw [show (((j + 1 : Nat) : Int) - 1) = (j : Int) by omega]
        have hcb := (hEr.cell (j + 1)).trans (emC_at _ (by omega))
        have HJ1 := Lib.hid (fun W => HEJ.out (255 - j) W)
        rw [show 255 - j + 1 = 256 - j by omega] at HJ1
        have HX := Lib.hid (show emU9 h (j + 1) (j + 1) = em9 h (255 - j) by unfold emU9; rw [if_pos (Nat.le_refl _), show 256 - (j + 1) = 255 - j by omega])
        rw [HX.out] at hcb
        have hXs := HES.out (255 - j)
        generalize em9 h (255 - j) = X at *
        have hl : (loadVar 9 ⟨B + 1, j + 1, none⟩).run Try.prog wr.drew = .ok (.string X) wr.drew := txt_load hcb
        have z0 : (⟨#[78]⟩ : ByteArray).size = 1 := rfl
        have ad1 := addRun (a := ⟨#[78]⟩) (b := X) (by omega)
        have ad2 := addRun (a := ⟨#[78]⟩ ++ X) (b := X) (by simp only [ByteArray.size_append]; omega)
        have HK := Lib.hid hEr
        have HN := Lib.hid hAr
        have HB := Lib.hid hBr
        have hj7 : (j : Int) < 257 := by omega
        have hj8 : (j : Int) + 1 < 257 := by omega
        have hj6 : (0 : Int) ≤ (j : Int) + 1 := by omega
        have hj9 : IntKind.i64.wrap ((j : Int) + 1) = (j : Int) + 1 := by have := i64_small (n := j + 1) (by omega); simpa using this
        obtain ⟨Y, hY⟩ : ∃ Y, em9 h (256 - j) = Y := ⟨_, rfl⟩
        rw [hY] at HJ1
        have HY := Lib.hid hY
        clear hAr hEr hBr HX hY hXs HEJ z0
        go_wp2
        go_region_law (first
          | (go_simp; go_at_call 23; refine (HJ1.out _).mono ?_; rintro e w4 ⟨rfl, hb2⟩; have hb2' : Below wr.heap.size wr w4 := (Below.refl _ _).drew.trans hb2; have hk2 := HK.out.below hb2' HK.out.lt; have hc2 := (hk2.cell j).trans (emC_at _ (by omega)); have hf2 := hk2.frozen j))
        all_goals
          have hk3 := hk2.set_ j (.string Y)
          rw [emC_set (emU9 h (j + 1)) (emU9 h j) (d := j) Y (by unfold emU9; rw [if_pos (Nat.le_refl _)]; exact HY.out) (fun i hi hne => by unfold emU9; by_cases h : j ≤ i <;> simp [h] <;> omega)] at hk3
          have hn3 := (HN.out.below hb2' HN.out.lt).far (p := ⟨B + 1, j, none⟩) (by show B ≠ B + 1; omega) (.string Y)
          have hB3 := (HB.out.trans (hb2'.mono HB.out.size)).setCell (p := ⟨B + 1, j, none⟩) (by show w.heap.size ≤ B + 1; omega) (.string Y)
          generalize w4.setCell ⟨B + 1, j, none⟩ (.string Y) = w5 at *
          clear hk2 hc2 hf2 hb2 hb2' HB HK HN HY HJ1 hl ad1 ad2 hj9
          go_wp2
          go_roundw
          case rel => exact ⟨j, by omega, by go_num, hn3, hk3, hB3⟩
          case measure => simp [intOf]
end Go.Proofs.Ytjdjndginacdnaa
