/-
  Layer 9: the way of an answer.
-/
import Derived.Test.YtjdjndginacdnaaXMay
namespace Go.Proofs.Ytjdjndginacdnaa
open Go.RowKit

theorem strs_two9 (W : World) (x y : ByteArray) : Strs (W.alloc (.cells #[.string x, .string y] 9)) (some ⟨W.heap.size, 0, none⟩) [x, y] := by
  have hb := Blk.new W 9 #[.string x, .string y]
  intro i hi
  refine ⟨⟨W.heap.size, 0, none⟩, rfl, hb.lt, ?_⟩
  rw [addr_add, Nat.zero_add, hb.cell]
  match i, hi with
  | 0, _ => rfl
  | 1, _ => rfl
  | n + 2, h => exact absurd h (by simp)
theorem strs_one9 (W : World) (x : ByteArray) : Strs (W.alloc (.cells #[.string x] 9)) (some ⟨W.heap.size, 0, none⟩) [x] := by
  have hb := Blk.new W 9 #[.string x]
  intro i hi
  refine ⟨⟨W.heap.size, 0, none⟩, rfl, hb.lt, ?_⟩
  rw [addr_add, Nat.zero_add, hb.cell]
  match i, hi with
  | 0, _ => rfl
  | n + 1, h => exact absurd h (by simp)
theorem are9_two (x y : ByteArray) (hx : x.size = 32) (hy : y.size = 32) (W : World) : Calls Try.prog 50 #[.slice (some ⟨W.heap.size, 0, none⟩) 2 2] (W.alloc (.cells #[.string x, .string y] 9)) fun e w' => e = .returned (.bool true) ∧ w' = W.alloc (.cells #[.string x, .string y] 9) := by
  have := are9_any (some ⟨W.heap.size, 0, none⟩) 2 2 [x, y] rfl (by decide) (by intro s hs; simp at hs; rcases hs with rfl | rfl <;> omega) _ (strs_two9 W x y)
  rwa [allC_true (ss := [x, y]) (by intro i hi; match i, hi with | 0, _ => exact hx | 1, _ => exact hy | n + 2, h => exact absurd h (by simp))] at this
theorem are9_one (x : ByteArray) (hx : x.size = 32) (W : World) : Calls Try.prog 50 #[.slice (some ⟨W.heap.size, 0, none⟩) 1 1] (W.alloc (.cells #[.string x] 9)) fun e w' => e = .returned (.bool true) ∧ w' = W.alloc (.cells #[.string x] 9) := by
  have := are9_any (some ⟨W.heap.size, 0, none⟩) 1 1 [x] rfl (by decide) (by intro s hs; simp at hs; rw [hs]; omega) _ (strs_one9 W x)
  rwa [allC_true (ss := [x]) (by intro i hi; match i, hi with | 0, _ => exact hx | n + 1, h => exact absurd h (by simp))] at this
theorem ext9_ext (t : ByteArray) (i j a b : Nat) (h : i + b ≤ j) : (t.extract i j).extract a b = t.extract (i + a) (i + b) := by
  rw [ByteArray.extract_extract, Nat.min_eq_left h]
theorem ext9_size (t : ByteArray) (i j : Nat) (h : j ≤ t.size) : (t.extract i j).size = j - i := by
  rw [ByteArray.size_extract, Nat.min_eq_left h]
theorem nums_ext9 (s : ByteArray) (i j : Nat) : nums (s.extract i j) = ((nums s).drop i).take (j - i) := by
  unfold nums
  rw [ByteArray.data_extract, Array.toList_extract, List.extract_eq_take_drop, List.map_take, List.map_drop]
theorem bit9_front (s : ByteArray) (i : Nat) (hi : i < 256) : bitS (s.extract 0 32) i = bitS s i := by
  unfold bitS
  rw [nums_ext9]
  congr 3
  rw [List.getD_eq_getElem?_getD, List.getD_eq_getElem?_getD, List.getElem?_take, if_pos (by omega), List.drop_zero]
/-- what climb answers -/
def RC9 (L : List (ByteArray × ByteArray)) (w : World) (e : Ending) (w' : World) : Prop := ∃ vv, e = .returned vv ∧ OwnS w' w.heap.size vv L ∧ Below w.heap.size w w'
set_option maxRecDepth 100000 in
set_option maxHeartbeats 1000000 in
theorem climb9_no {g : Nat} (k : ByteArray) (th : Bool) (v s : ByteArray) (hk : k.size ≤ 300) (hv : v.size ≤ 300) (hs : s.size ≤ 10000) (hm : may9 k th v s = false) (w : World) :
    Calls Try.prog 31 #[.func (.func g) #[] #[], .string k, .agg (ansA th v s)] w (RC9 [] w) := by
  have HM := Lib.hid (fun W => mayHold9_any k th v s (by omega) (by omega) (by omega) W)
  rw [hm] at HM
  obtain ⟨w0, hw0⟩ : ∃ w0, w.alloc (.cells (ansA th v s) 23) = w0 := ⟨_, rfl⟩
  have b0 : Blk w0 w.heap.size 23 (ansA th v s) := by rw [← hw0]; exact Blk.new _ _ _
  have hB0 : Below w.heap.size w w0 := by rw [← hw0]; exact (Below.refl _ w).alloc (Nat.le_refl _) _
  have q0 : w0.cell? ⟨w.heap.size, 0, none⟩ = some (.bool th) := b0.cell 0
  have q1 : w0.cell? ⟨w.heap.size, 1, none⟩ = some (.string v) := b0.cell 1
  have q2 : w0.cell? ⟨w.heap.size, 2, none⟩ = some (.string s) := b0.cell 2
  have HRT := Lib.hid (show ∀ e w', RC9 [] w e w' = ∃ vv, e = .returned vv ∧ OwnS w' w.heap.size vv [] ∧ Below w.heap.size w w' from fun _ _ => rfl)
  generalize RC9 [] w = PO at *
  have HW : Hid (w.alloc (.cells #[.bool th, .string v, .string s] 23) = w0) := Lib.hid hw0
  change Hid (∀ W, Calls _ _ #[_, .agg #[.bool th, .string v, .string s]] W _) at HM
  show Calls _ _ #[_, _, .agg #[.bool th, .string v, .string s]] _ _
  clear hw0 b0
  go_enter Try.func31, Try.ntmps31
  go_wp2_with (rw [HW.out])
  refine (HM.out _).mono ?_
  rintro e w2 ⟨rfl, hb⟩
  have hB2 := hB0.trans (hb.mono hB0.size)
  go_wp2
  rw [HRT.out]
  exact ⟨_, rfl, ownS_nil _ _, hB2⟩
set_option maxRecDepth 100000 in
set_option maxHeartbeats 4000000 in
theorem climb9_yes {g : Nat} {h : ByteArray → ByteArray} (H : Hsh g h) (k : ByteArray) (th : Bool) (v s : ByteArray) (hs : s.size ≤ 10000) (hm : may9 k th v s = true) (w : World) :
    Calls Try.prog 31 #[.func (.func g) #[] #[], .string k, .agg (ansA th v s)] w (RC9 (wy9 h (pa9 h k) s (ow9 k th v) 257) w) := by
  obtain ⟨hk, hv, _, hwf⟩ := may9_parts hm
  have HM := Lib.hid (fun W => mayHold9_any k th v s (by omega) (by omega) (by omega) W)
  rw [hm] at HM
  have h32 := H.size
  have hos : (ow9 k th v).size ≤ 512 := by have := ow9_size k th v; omega
  have HPA := Lib.hid (fun W => path9_any H k (by omega) W)
  have HPS := Lib.hid (show (pa9 h k).size = 32 from h32 _)
  have HOW := Lib.hid (fun W => own9_any k th v s (by omega) (by omega) W)
  generalize pa9 h k = P at *
  generalize ow9 k th v = O at *
  have HAP := Lib.hid (are9_one P HPS.out)
  have HTS := Lib.hid (fun k hk => tx9_size h h32 hwf P hos (k := k) hk)
  have HBS := Lib.hid (fun k hk => bs9_size h h32 hwf (k := k) hk)
  have HES := Lib.hid (em9_size h h32)
  have HAS0 := Lib.hid (fun W => ask9_any H O (by omega) W)
  have HASK := Lib.hid (fun x (hx : x.size ≤ 1000) W => ask9_any H x hx W)
  have HCL := Lib.hid H.call
  have H32 := Lib.hid h32
  have eg := H.enter
  have hsz := wf9_size hwf
  have hs32 : 32 ≤ s.size := by omega
  have HRM := Lib.hid (fun k (hk : k ≤ 256) => wf9_room hwf hk)
  have HRM1 := Lib.hid (fun k (hk : k < 256) hb => wf9_room1 hwf hk hb)
  have HBF := Lib.hid (fun i hi W => bitAt9_any (s.extract 0 32) (by rw [ext9_size _ _ _ hs32]; decide) i hi W)
  have HBE := Lib.hid (fun k (hk : k < 256) => bit9_front s k hk)
  have HBP := Lib.hid (fun i hi W => bitAt9_any P (by rw [HPS.out]; decide) i hi W)
  have HRT := Lib.hid (show ∀ e w', RC9 (wy9 h P s O 257) w e w' = ∃ vv, e = .returned vv ∧ OwnS w' w.heap.size vv (wy9 h P s O 257) ∧ Below w.heap.size w w' from fun _ _ => rfl)
  generalize RC9 (wy9 h P s O 257) w = PO at *
  have HWL := Lib.hid (wy9_len h P s O)
  have HWS := Lib.hid (wy9_succ h P s O)
  have HWG := Lib.hid (fun k (i : Nat) hi => wy9_get h P s O (k := k) (i := i) hi)
  have HC0 : Hid (ct9 s 0 = 0) := Lib.hid rfl
  have HCS : Hid (∀ k, ct9 s (k + 1) = ct9 s k + if bitS s (255 - k) then 1 else 0) := Lib.hid fun _ => rfl
  obtain ⟨fl, hfl⟩ : ∃ fl, s.extract 0 32 = fl := ⟨_, rfl⟩
  rw [hfl] at HBF HBE
  have HFL := Lib.hid hfl
  obtain ⟨w0, hw0⟩ : ∃ w0, w.alloc (.cells (ansA th v s) 23) = w0 := ⟨_, rfl⟩
  have b0 : Blk w0 w.heap.size 23 (ansA th v s) := by rw [← hw0]; exact Blk.new _ _ _
  have hB0 : Below w.heap.size w w0 := by rw [← hw0]; exact (Below.refl _ w).alloc (Nat.le_refl _) _
  have q0 : w0.cell? ⟨w.heap.size, 0, none⟩ = some (.bool th) := b0.cell 0
  have q1 : w0.cell? ⟨w.heap.size, 1, none⟩ = some (.string v) := b0.cell 1
  have q2 : w0.cell? ⟨w.heap.size, 2, none⟩ = some (.string s) := b0.cell 2
  have HB0 := Lib.hid b0
  have HW : Hid (w.alloc (.cells #[.bool th, .string v, .string s] 23) = w0) := Lib.hid hw0
  change Hid (∀ W, Calls _ _ #[_, .agg #[.bool th, .string v, .string s]] W _) at HM
  change Hid (∀ W, Calls _ _ #[_, .agg #[.bool th, .string v, .string s]] W _) at HOW
  show Calls _ _ #[_, _, .agg #[.bool th, .string v, .string s]] _ _
  clear hw0 b0 hfl hos hwf hsz h32
  go_enter Try.func31, Try.ntmps31
  go_wp2_with (rw [HW.out])
  refine (HM.out _).mono ?_
  rintro e w1 ⟨rfl, hb⟩
  have hB1 := hB0.trans (hb.mono hB0.size)
  have hK1 := HB0.out.below hb HB0.out.lt
  clear hB0 hb q0 q1 q2 HB0 HM
  go_wp2_with fail
  refine (HPA.out _).mono ?_
  rintro e w2 ⟨rfl, hb⟩
  have hB2 := hB1.trans (hb.mono hB1.size)
  have hK2 := hK1.below hb hK1.lt
  clear hB1 hb hK1 HPA
  go_wp2_with fail
  refine (HAP.out _).mono ?_
  rintro e w3 ⟨rfl, hw3⟩
  have hb : Below w2.heap.size w2 w3 := by rw [hw3]; exact (Below.refl _ _).alloc (Nat.le_refl _) _
  have hB3 := hB2.trans (hb.mono hB2.size)
  have hK3 := hK2.below hb hK2.lt
  have c2 : w3.cell? ⟨w.heap.size, 2, none⟩ = some (.string s) := hK3.cell 2
  clear hB2 hb hK2 HAP hw3
  have h32' : (32 : Int) ≤ (s.size : Int) := by omega
  go_wp2
  go_quiet (fail)
  rw [HFL.out]
  have hB4 : Below w.heap.size w (w3.drewN nq) := below_drewN hB3 nq
  have hK4 : Blk (w3.drewN nq) w.heap.size 23 (ansA th v s) := hK3
  generalize w3.drewN nq = w4 at *
  have q0 : w4.cell? ⟨w.heap.size, 0, none⟩ = some (.bool th) := hK4.cell 0
  have q1 : w4.cell? ⟨w.heap.size, 1, none⟩ = some (.string v) := hK4.cell 1
  have q2 : w4.cell? ⟨w.heap.size, 2, none⟩ = some (.string s) := hK4.cell 2
  clear hB3 hK3 hK4 c2
  go_wp2_with fail
  refine (HOW.out _).mono ?_
  rintro e w5 ⟨rfl, hb⟩
  have hB5 := hB4.trans (hb.mono hB4.size)
  clear hB4 hb q0 q1 q2 HOW
  go_wp2_with fail
  refine (HAS0.out _).mono ?_
  rintro e w6 ⟨rfl, hb⟩
  have hB6 := hB5.trans (hb.mono hB5.size)
  have hown : OwnS (w6.alloc (.cells #[.string O, .string (h O)] 91)) w.heap.size (.slice (some ⟨w6.heap.size, 0, none⟩) 1 1) [(O, h O)] := (ownS_one w6 (O, h O)).mono hB6.size
  have hB6a := hB6.alloc hB6.size (.cells #[.string O, .string (h O)] 91)
  clear hB5 hb HAS0 hB6
  have HE0 := Lib.hid (fun W => HCL.out ⟨#[69]⟩ W (by decide))
  change Hid (∀ W, Calls _ _ _ W fun e w' => e = .returned (.string (em9 h 0)) ∧ _) at HE0
  have HO1 : Hid ([(O, h O)] = wy9 h P s O 1) := Lib.hid rfl
  rw [HO1.out] at hown
  generalize h O = hO at *
  have HX0 : Hid (s.extract 32 s.size = s.extract 32 (s.size - 32 * ct9 s 0)) := Lib.hid rfl
  go_wp2_with fail
  generalize w6.alloc (.cells #[.string O, .string hO] 91) = w7 at *
  refine (HE0.out _).mono ?_
  rintro e w8 ⟨rfl, hb⟩
  have hB8 := hB6a.trans (hb.mono hB6a.size)
  have hown8 := hown.below hb
  clear hB6a hb HE0 hown
  generalize w6.heap.size = G at *
  go_wp2
  rw [HX0.out]
  go_loopw [9, 10, 11, 12] (fun vr vw ve vi wr => ∃ j : Nat, j ≤ 256 ∧ vi = .int .i64 (255 - (j : Int)) ∧ vr = .string (s.extract 32 (s.size - 32 * ct9 s j)) ∧ OwnS wr w.heap.size vw (wy9 h P s O (j + 1)) ∧ ve = .string (em9 h j) ∧ Below w.heap.size w wr) (fun _ _ _ vi _ => (intOf vi + 1).toNat)
  case atStart => exact ⟨0, by omega, rfl, rfl, hown8, rfl, hB8⟩
  case round =>
    clear hown8 hB8
    obtain ⟨j, hj, rfl, rfl, hown, rfl, hB⟩ := hrel
    obtain ⟨oa, cap, rfl, hcap, hP⟩ := hown.form
    rw [HWL.out] at hown hcap ⊢
    have HTOP : Hid (∀ W, Prs W oa (wy9 h P s O (j + 1)) → Calls Try.prog 32 #[.slice oa (j + 1) cap] W fun e w' => e = .returned (.string (h (tx9 h P s O j))) ∧ w' = W) := Lib.hid fun W hW => by
      have := top9_any oa j cap (by omega) (wy9 h P s O (j + 1)) (by rw [HWL.out]; omega) W hW
      rwa [HWG.out] at this
    obtain ⟨hx, hhx⟩ : ∃ hx, h (tx9 h P s O j) = hx := ⟨_, rfl⟩
    have HHX := Lib.hid hhx
    rw [hhx] at HTOP
    have hxs : hx.size = 32 := by rw [← hhx]; exact H32.out _
    obtain ⟨E, hE⟩ : ∃ E, em9 h j = E := ⟨_, rfl⟩
    have HE := Lib.hid hE
    have hEs : E.size = 32 := by rw [← hE]; exact HES.out _
    rw [hE]
    have HAT := Lib.hid (are9_two hx E hxs hEs)
    by_cases hlt : j < 256
    · obtain ⟨m, hm⟩ : ∃ m, 255 - j = m := ⟨_, rfl⟩
      have hmi : (255 : Int) - (j : Int) = (m : Int) := by omega
      rw [hmi]
      have hm0 : (0 : Int) ≤ (m : Int) := by omega
      have HBS1 := Lib.hid (HBS.out j hlt)
      have HTX1 : Hid (nod9 (bitS P m) hx (bs9 h s j) = tx9 h P s O (j + 1)) := Lib.hid (by rw [← hm, ← HHX.out]; rfl)
      have HBV : Hid (bs9 h s j = if bitS s m then s.extract (s.size - 32 * (ct9 s j + 1)) (s.size - 32 * ct9 s j) else em9 h j) := Lib.hid (by rw [← hm]; rfl)
      have HCT : Hid (ct9 s (j + 1) = ct9 s j + if bitS s m then 1 else 0) := Lib.hid (by rw [← hm]; rfl)
      have HR1 := Lib.hid (fun hb => HRM1.out j hlt hb)
      rw [hm] at HR1
      rw [hE] at HBV
      have HBF1 := Lib.hid (fun W => HBF.out m (by omega) W)
      rw [HBE.out m (by omega)] at HBF1
      clear hhx hE HBF HBE HHX HRM1
      go_wp2_with fail
      refine (HTOP.out _ hP).mono ?_
      rintro e w' ⟨rfl, hw'⟩; rw [hw']; clear hw' w'
      go_wp2_with fail
      refine (HAT.out _).mono ?_
      rintro e w9 ⟨rfl, hw9⟩
      have hb : Below wr.heap.size wr w9 := by rw [hw9]; exact (Below.refl _ _).alloc (Nat.le_refl _) _
      have hown9 := hown.below hb
      have hP9 := hP.below hb
      have hB9 := hB.trans (hb.mono hB.size)
      clear hown hP hB hb hw9 HAT
      go_wp2_with fail
      refine (HBF1.out _).mono ?_
      rintro e w10 ⟨rfl, q1, hw10⟩
      have hb : Below w9.heap.size w9 w10 := by rw [hw10]; exact below_drewN (Below.refl _ _) q1
      have hown10 := hown9.below hb
      have hP10 := hP9.below hb
      have hB10 := hB9.trans (hb.mono hB9.size)
      clear hown9 hP9 hB9 hb hw10 HBF1
      obtain ⟨b, hbs⟩ : ∃ b, bitS s m = b := ⟨_, rfl⟩
      rw [hbs] at HBV HCT HR1 ⊢
      cases b
      · have hBV : bs9 h s j = E := HBV.out
        have hCT : Hid (ct9 s (j + 1) = ct9 s j) := Lib.hid HCT.out
        rw [hBV] at HBS1 HTX1
        have HRR : Hid (s.extract 32 (s.size - 32 * ct9 s j) = s.extract 32 (s.size - 32 * ct9 s (j + 1))) := Lib.hid (by rw [hCT.out])
        rw [HRR.out]
        obtain ⟨RO, hRO⟩ : ∃ RO, s.extract 32 (s.size - 32 * ct9 s (j + 1)) = RO := ⟨_, rfl⟩
        rw [hRO]
        have HRO := Lib.hid hRO
        clear hRO HRR HBV HCT HR1 hbs hBV hCT
        have hbz : E.size = 32 := HBS1.out
        have HND := Lib.hid (fun W => node9_any (bitS P m) hx E (by omega) (by omega) W)
        rw [HTX1.out] at HND
        obtain ⟨TX, hTX⟩ : ∃ TX, tx9 h P s O (j + 1) = TX := ⟨_, rfl⟩
        have HTXS := Lib.hid (HTS.out (j + 1) (by omega))
        have HWS1 := Lib.hid (HWS.out (j + 1))
        unfold stp9 at HWS1
        rw [hTX] at HND HTXS HWS1
        have HASK1 := Lib.hid (fun W => HASK.out TX (by have := HTXS.out; omega) W)
        have HBP1 := Lib.hid (fun W => HBP.out m (by omega) W)
        generalize bitS P m = pb at *
        have HNE := Lib.hid (fun W => node9_any false E E (by omega) (by omega) W)
        have HEN : Hid (em9 h (j + 1) = h (nod9 false E E)) := Lib.hid (by rw [← HE.out]; rfl)
        have HNS : (nod9 false E E).size ≤ 1000 := by rw [nod9_size]; omega
        have HCE := Lib.hid (fun W => HCL.out (nod9 false E E) W HNS)
        rw [← HEN.out] at HCE
        obtain ⟨E1, hE1⟩ : ∃ E1, em9 h (j + 1) = E1 := ⟨_, rfl⟩
        rw [hE1] at HCE
        have HE1 := Lib.hid hE1
        generalize nod9 false E E = NE at *
        generalize h TX = hT at *
        clear hE1 hTX HTX1 HEN HTXS HBS1 hbz HNS
        go_wp2_with fail
        refine (HBP1.out _).mono ?_
        rintro e w11 ⟨rfl, q2, hw11⟩
        have hb : Below w10.heap.size w10 w11 := by rw [hw11]; exact below_drewN (Below.refl _ _) q2
        have hown11 := hown10.below hb
        have hP11 := hP10.below hb
        have hB11 := hB10.trans (hb.mono hB10.size)
        clear hown10 hP10 hB10 hb hw11 HBP1
        go_wp2_with fail
        refine (HTOP.out _ hP11).mono ?_
        rintro e w' ⟨rfl, hw'⟩; rw [hw']; clear hw' w'
        go_wp2_with fail
        refine (HND.out _).mono ?_
        rintro e w' ⟨rfl, hw'⟩; rw [hw']; clear hw' w'
        go_wp2_with fail
        refine (HASK1.out _).mono ?_
        rintro e w12 ⟨rfl, hb⟩
        have hown12 := hown11.below hb
        have hB12 := hB11.trans (hb.mono hB11.size)
        clear hown11 hP11 hB11 hb HND HASK1 HTOP
        go_wp2_with (at_builtin; refine wpList_append_step rfl _ _ rfl w.heap.size (.slice oa (j + 1) cap) (wy9 h P s O (j + 1)) rfl hown12 (TX, hT) rfl (by rw [HWL.out]; omega) hB12.size ?_)
        intro g13 c13 w13 hown13 hg13 _
        have hB13 := hB12.grown hg13 hB12.size (fun z hz => (World.ownsRow.lt hown12 z hz).1)
        rw [HWL.out, ← HWS1.out] at hown13
        rw [HWL.out]
        clear hown12 hB12 hg13 HWS1
        go_wp2_with fail
        refine (HNE.out _).mono ?_
        rintro e w' ⟨rfl, hw'⟩; rw [hw']; clear hw' w'
        go_wp2_with fail
        refine (HCE.out _).mono ?_
        rintro e w14 ⟨rfl, hb⟩
        have hown14 := hown13.below hb
        have hB14 := hB13.trans (hb.mono hB13.size)
        clear hown13 hB13 hb HNE HCE
        go_wp2
        go_roundw
        case rel => exact ⟨j + 1, by omega, by congr 1; omega, by rw [HRO.out], hown14, by rw [HE1.out], hB14⟩
        case measure => first | (simp [intOf]; done) | (simp [intOf]; omega)
      · have hBV : bs9 h s j = s.extract (s.size - 32 * (ct9 s j + 1)) (s.size - 32 * ct9 s j) := HBV.out
        have hCT : Hid (ct9 s (j + 1) = ct9 s j + 1) := Lib.hid HCT.out
        have hr1 := HR1.out rfl
        obtain ⟨a, ha⟩ : ∃ a, s.size - 32 * ct9 s j - 64 = a := ⟨_, rfl⟩
        have hXs : (s.extract 32 (s.size - 32 * ct9 s j)).size = a + 32 := by rw [ext9_size _ _ _ (by omega)]; omega
        have HX1 : Hid ((s.extract 32 (s.size - 32 * ct9 s j)).extract 0 a = s.extract 32 (s.size - 32 * ct9 s (j + 1))) := Lib.hid (by
          rw [ext9_ext _ _ _ _ _ (by omega), hCT.out]
          congr 1; omega)
        have HX2 : Hid ((s.extract 32 (s.size - 32 * ct9 s j)).extract a (a + 32) = bs9 h s j) := Lib.hid (by
          rw [ext9_ext _ _ _ _ _ (by omega), hBV]
          congr 1 <;> omega)
        obtain ⟨X, hX⟩ : ∃ X, s.extract 32 (s.size - 32 * ct9 s j) = X := ⟨_, rfl⟩
        rw [hX] at hXs HX1 HX2 ⊢
        obtain ⟨BS, hBS⟩ : ∃ BS, bs9 h s j = BS := ⟨_, rfl⟩
        rw [hBS] at HBS1 HTX1 HX2
        obtain ⟨RO, hRO⟩ : ∃ RO, s.extract 32 (s.size - 32 * ct9 s (j + 1)) = RO := ⟨_, rfl⟩
        rw [hRO] at HX1
        have HRO := Lib.hid hRO
        rw [← hXs] at HX2
        have e1 : (X.size : Int) - 32 = (a : Int) := by omega
        have e2 : (a : Int) ≤ (X.size : Int) := by omega
        have e3 : a ≤ X.size := by omega
        have e4 : X.size ≤ 1000000 := by omega
        clear hRO HBV HCT HR1 hbs hBV hCT hr1 hBS hX ha hXs
        go_wp2
        go_quiet (fail)
        rw [HX1.out, HX2.out]
        have hB10q := below_drewN hB10 nq
        have hown10q : OwnS (w10.drewN nq) w.heap.size (.slice oa (j + 1) cap) (wy9 h P s O (j + 1)) := hown10.below (below_drewN (Below.refl _ _) nq)
        have hP10q : Prs (w10.drewN nq) oa (wy9 h P s O (j + 1)) := hP10.below (below_drewN (Below.refl _ _) nq)
        clear hB10 hown10 hP10 e1 e2 e3 e4 HX1 HX2
        generalize w10.drewN nq = w10q at *
        have hbz : BS.size = 32 := HBS1.out
        have HND := Lib.hid (fun W => node9_any (bitS P m) hx BS (by omega) (by omega) W)
        rw [HTX1.out] at HND
        obtain ⟨TX, hTX⟩ : ∃ TX, tx9 h P s O (j + 1) = TX := ⟨_, rfl⟩
        have HTXS := Lib.hid (HTS.out (j + 1) (by omega))
        have HWS1 := Lib.hid (HWS.out (j + 1))
        unfold stp9 at HWS1
        rw [hTX] at HND HTXS HWS1
        have HASK1 := Lib.hid (fun W => HASK.out TX (by have := HTXS.out; omega) W)
        have HBP1 := Lib.hid (fun W => HBP.out m (by omega) W)
        generalize bitS P m = pb at *
        have HNE := Lib.hid (fun W => node9_any false E E (by omega) (by omega) W)
        have HEN : Hid (em9 h (j + 1) = h (nod9 false E E)) := Lib.hid (by rw [← HE.out]; rfl)
        have HNS : (nod9 false E E).size ≤ 1000 := by rw [nod9_size]; omega
        have HCE := Lib.hid (fun W => HCL.out (nod9 false E E) W HNS)
        rw [← HEN.out] at HCE
        obtain ⟨E1, hE1⟩ : ∃ E1, em9 h (j + 1) = E1 := ⟨_, rfl⟩
        rw [hE1] at HCE
        have HE1 := Lib.hid hE1
        generalize nod9 false E E = NE at *
        generalize h TX = hT at *
        clear hE1 hTX HTX1 HEN HTXS HBS1 hbz HNS
        go_wp2_with fail
        refine (HBP1.out _).mono ?_
        rintro e w11 ⟨rfl, q2, hw11⟩
        have hb : Below w10q.heap.size w10q w11 := by rw [hw11]; exact below_drewN (Below.refl _ _) q2
        have hown11 := hown10q.below hb
        have hP11 := hP10q.below hb
        have hB11 := hB10q.trans (hb.mono hB10q.size)
        clear hown10q hP10q hB10q hb hw11 HBP1
        go_wp2_with fail
        refine (HTOP.out _ hP11).mono ?_
        rintro e w' ⟨rfl, hw'⟩; rw [hw']; clear hw' w'
        go_wp2_with fail
        refine (HND.out _).mono ?_
        rintro e w' ⟨rfl, hw'⟩; rw [hw']; clear hw' w'
        go_wp2_with fail
        refine (HASK1.out _).mono ?_
        rintro e w12 ⟨rfl, hb⟩
        have hown12 := hown11.below hb
        have hB12 := hB11.trans (hb.mono hB11.size)
        clear hown11 hP11 hB11 hb HND HASK1 HTOP
        go_wp2_with (at_builtin; refine wpList_append_step rfl _ _ rfl w.heap.size (.slice oa (j + 1) cap) (wy9 h P s O (j + 1)) rfl hown12 (TX, hT) rfl (by rw [HWL.out]; omega) hB12.size ?_)
        intro g13 c13 w13 hown13 hg13 _
        have hB13 := hB12.grown hg13 hB12.size (fun z hz => (World.ownsRow.lt hown12 z hz).1)
        rw [HWL.out, ← HWS1.out] at hown13
        rw [HWL.out]
        clear hown12 hB12 hg13 HWS1
        go_wp2_with fail
        refine (HNE.out _).mono ?_
        rintro e w' ⟨rfl, hw'⟩; rw [hw']; clear hw' w'
        go_wp2_with fail
        refine (HCE.out _).mono ?_
        rintro e w14 ⟨rfl, hb⟩
        have hown14 := hown13.below hb
        have hB14 := hB13.trans (hb.mono hB13.size)
        clear hown13 hB13 hb HNE HCE
        go_wp2
        go_roundw
        case rel => exact ⟨j + 1, by omega, by congr 1; omega, by rw [HRO.out], hown14, by rw [HE1.out], hB14⟩
        case measure => first | (simp [intOf]; done) | (simp [intOf]; omega)
    · obtain rfl : j = 256 := by omega
      have hmi : (255 : Int) - ((256 : Nat) : Int) = -1 := by omega
      rw [hmi]
      clear hlt hhx hE HBF HBE HHX HRM1
      go_wp2_with fail
      refine (HTOP.out _ hP).mono ?_
      rintro e w' ⟨rfl, hw'⟩; rw [hw']; clear hw' w'
      go_wp2_with fail
      refine (HAT.out _).mono ?_
      rintro e w9 ⟨rfl, hw9⟩
      have hb : Below wr.heap.size wr w9 := by rw [hw9]; exact (Below.refl _ _).alloc (Nat.le_refl _) _
      have hown9 := hown.below hb
      have hB9 := hB.trans (hb.mono hB.size)
      clear hown hP hB hb hw9 HAT
      go_wp2
      rw [HRT.out]
      exact ⟨_, rfl, hown9, hB9⟩
end Go.Proofs.Ytjdjndginacdnaa
