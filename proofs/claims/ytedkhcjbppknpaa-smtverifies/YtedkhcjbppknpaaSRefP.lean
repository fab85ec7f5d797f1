/-
  The reference's Prove: 32 bytes and roots.
-/
import Derived.Test.YtedkhcjbppknpaaSRefR
import Derived.Test.YtedkhcjbppknpaaLoadsSProve
namespace Go.Proofs.Ytedkhcjbppknpaa
open Go.RowKit

/-- 32 bytes and more -/
def RPf (w : World) (e : Ending) (w' : World) : Prop := (∃ r : ByteArray, e = .returned (.string r) ∧ 32 ≤ r.size ∧ r.size ≤ 32 + 32 * 256) ∧ Below w.heap.size w w'
theorem make32 (W : World) : (Instr.makeSlice 53 (.int .i64 32) (.int .i64 32)).run Try.prog W = .ok (.slice (some ⟨W.heap.size, 0, none⟩) 32 32) (W.alloc (.cells (flA fun _ => 0) 5)) := by
  obtain ⟨i0, hi, hz0, hz1, hz2⟩ := info_parts bextra.infoByte
  have := run_makeSlice (P := Try.prog) W 53 5 i0 _ Try.underlying53 hi hz0 .i64 .i64 32 32 (by decide) (by decide) (by rw [hz1]; decide) (by rw [hz2]; decide) (by decide)
  have e : madeCells (Value.int IntKind.u8 0).cells (Int.toNat 32 * 1) = flA fun _ => 0 := by kernel_rfl
  rw [this, hz1, e]
  rfl
section
attribute [-go_sem] loadVar
set_option maxRecDepth 100000 in
set_option maxHeartbeats 4000000 in
theorem rprove_any (oa : Option Addr) (n cap : Nat) (ps : List (ByteArray × ByteArray)) (hn : ps.length = n) (hsz : n ≤ 1000) (hF : FitP ps) (key : ByteArray) (hkey : key.size ≤ 60) (w : World) (hP : Prs w oa ps) :
    Calls Try.prog 19 #[.agg (emC emp), .slice oa n cap, .string key] w (RPf w) := by
  have b0 : Blk (w.alloc (.cells (emC emp) 43)) w.heap.size 43 (emC emp) := Blk.new _ _ _
  have hB0 := (Below.refl _ w).alloc (Nat.le_refl _) (.cells (emC emp) 43)
  have HPF : Hid (∀ e w', RPf w e w' = ((∃ r : ByteArray, e = .returned (.string r) ∧ 32 ≤ r.size ∧ r.size ≤ 32 + 32 * 256) ∧ Below w.heap.size w w')) := Lib.hid fun _ _ => rfl
  generalize RPf w = PO at *
  have HH := Lib.hid (fun (b : ByteArray) (hb : b.size ≤ 1000) W => rh5_any b (by omega) W)
  have HHS := Lib.hid hB_size
  have hP0 := hP.below hB0
  obtain ⟨w0, hw0⟩ : ∃ w0, w.alloc (.cells (emC emp) 43) = w0 := ⟨_, rfl⟩
  have HW0 := Lib.hid hw0
  rw [hw0] at b0 hB0 hP0
  clear hw0 hP
  have HPA := Lib.hid (fun W hP => paths_any oa n cap ps hn hsz hF W hP)
  unfold RT at HPA
  have HFL := Lib.hid (fstN_length (fun i => pathS (keyP ps i)) n)
  have HFS : Hid (∀ s ∈ fstN (fun i => pathS (keyP ps i)) n, s.size = 32) := Lib.hid fun s hs => by
    obtain ⟨i, _, rfl⟩ := List.mem_map.1 hs
    exact pathS_size _
  have HRR := Lib.hid (fun d (hd : d < 256) => rroot_any (255 - d) (d + 1) (by omega))
  unfold R32 at HRR
  generalize fstN (fun i => pathS (keyP ps i)) n = FF at *
  have z0 : (⟨#[75]⟩ : ByteArray).size = 1 := rfl
  have a1 : ¬ (⟨#[75]⟩ : ByteArray).size + key.size > 9223372036854775807 := by omega
  have HBK := Lib.hid b0
  have HB0 := Lib.hid hB0
  have HP0 := Lib.hid hP0
  have hk2 : ((⟨#[75]⟩ : ByteArray) ++ key).size ≤ 1000 := by simp only [ByteArray.size_append]; omega
  have HEI := Lib.hid (show (Try.prog.info? 43).map (·.size) = some (emC emp).size by rw [emC_size]; exact infoEm)
  generalize emC emp = EE at *
  clear b0 hB0 hP0 z0
  go_enter Try.func19, Try.ntmps19
  go_wp2_with (rw [HW0.out])
  refine (HH.out _ hk2 _).mono ?_
  rintro e w1 ⟨rfl, hB1⟩
  have hps := HHS.out (⟨#[75]⟩ ++ key)
  generalize hB (⟨#[75]⟩ ++ key) = pk at *
  have hBK1 := HBK.out.below hB1 HBK.out.lt
  have hP1 := HP0.out.below hB1
  have hB1' := HB0.out.trans (hB1.mono HB0.out.size)
  clear hB1 a1 hk2 HB0 HP0 HBK
  go_wp2_with fail
  refine (HPA.out _ hP1).mono ?_
  rintro e w2 ⟨v2, rfl, hown2, hB2⟩
  obtain ⟨ob, cb, hv2, hst2⟩ := hown2.form
  rw [HFL.out] at hv2
  subst hv2
  have hBK2 := hBK1.below hB2 hBK1.lt
  have hP2 := hP1.below hB2
  have hB2' := hB1'.trans (hB2.mono hB1'.size)
  clear hB2 hown2 hBK1 hP1 hB1' HPA HW0
  have HMK := Lib.hid (make32 w2)
  have hBK3 := hBK2.alloc (.cells (flA fun _ => 0) 5)
  have hG3 : Blk (w2.alloc (.cells (flA fun _ => 0) 5)) w2.heap.size 5 (flA fun _ => 0) := Blk.new _ _ _
  have hB23 : Below w2.heap.size w2 (w2.alloc (.cells (flA fun _ => 0) 5)) := (Below.refl _ w2).alloc (Nat.le_refl _) _
  have hP3 := hP2.below hB23
  have hS3 := hst2.below hB23
  have hB3' := hB2'.trans (hB23.mono hB2'.size)
  have hgb : w.heap.size < w2.heap.size := hBK2.lt
  clear hBK2 hP2 hst2 hB2' hB23
  go_wp2_with fail
  rw [HMK.out]
  simp only [Result.andThen]
  rw [Oper.upon_value]
  generalize w2.heap.size = gb at *
  generalize w2.alloc (.cells (flA fun _ => 0) 5) = w3 at *
  clear HMK
  go_wp2
  go_loopw [1, 8, 10, 11] (fun l pp r i wr => ∃ (k m : Nat) (L : List (ByteArray × ByteArray)) (PT : List ByteArray) (R : ByteArray) (o1 o2 : Option Addr) (c1 c2 : Nat) (F : Nat → Nat), k ≤ 256 ∧ i = .int .i64 k ∧ l = .slice o1 m c1 ∧ pp = .slice o2 m c2 ∧ L.length = m ∧ PT.length = m ∧ m ≤ 1000 ∧ FitP L ∧ (∀ s ∈ PT, s.size = 32) ∧ Prs wr o1 L ∧ Strs wr o2 PT ∧ r = .string R ∧ R.size ≤ 32 * k ∧ Blk wr gb 5 (flA F) ∧ Blk wr w.heap.size 43 EE ∧ (∀ j, F j < 256) ∧ Below w.heap.size w wr) (fun _ _ _ i _ => 256 - (intOf i).toNat)
  case atStart => exact ⟨0, n, ps, FF, ⟨#[]⟩, oa, ob, cap, cb, fun _ => 0, by omega, rfl, rfl, rfl, hn, HFL.out, hsz, hF, HFS.out, hP3, hS3, rfl, by decide, hG3, hBK3, fun _ => (by show 0 < 256; decide), hB3'⟩
  case round =>
    clear hP3 hS3 hG3 hBK3 hB3' hn hF HFL HFS
    obtain ⟨k, m, L, PT, R, o1, o2, c1, c2, F, hk, rfl, rfl, rfl, hL, hPT, hm, hF, hS, hPr, hSr, rfl, hR, hG, hE, hFb, hBw⟩ := hrel
    by_cases hlt : k < 256
    · have hlt' : (k : Int) < 256 := by omega
      have HAT : Hid (∀ j, j < m → ∃ g o a X Y s, o1 = some ⟨g, o, none⟩ ∧ g < wr.heap.size ∧ o2 = some a ∧ a.block < wr.heap.size ∧ wr.cell? ⟨g, o + j * 2, none⟩ = some (.string X) ∧ wr.cell? ⟨g, o + j * 2 + 1, none⟩ = some (.string Y) ∧ wr.cell? (a.add j) = some (.string s) ∧ X.size ≤ 60 ∧ Y.size ≤ 60 ∧ s.size = 32) := Lib.hid fun j hj => by
        obtain ⟨g, o, h1, h2, h3, h4⟩ := hPr.at (i := j) (by omega)
        obtain ⟨a, h5, h6, h7⟩ := hSr j (by omega)
        have := hF.get (i := j) (by omega)
        refine ⟨g, o, a, _, _, _, h1, h2, h5, h6, h3, h4, h7, this.1, this.2, hS _ ?_⟩
        rw [List.getD_eq_getElem?_getD, List.getElem?_eq_getElem (by omega)]
        exact List.getElem_mem _
      have HBP := Lib.hid (fun W => rbit_any pk k hlt (by omega) W)
      have hbp : bitN pk k = 0 ∨ bitN pk k = 1 := by rw [bitN_eq]; split <;> simp
      generalize bitN pk k = bp at *
      have HR1 := Lib.hid (HRR.out k hlt)
      have e1 : ((k + 1 : Nat) : Int) = (k : Int) + 1 := by omega
      rw [e1] at HR1
      have HG := Lib.hid hG
      have HE := Lib.hid hE
      have HBW := Lib.hid hBw
      have HFB := Lib.hid hFb
      clear hPr hSr hF hS hL hPT hG hE hBw hFb HRR e1
      generalize wr = wo at *
      go_wp2
      go_loopw [12, 13, 14, 15, 16] (fun va vb vp vq i wr => ∃ (j : Nat) (A Bs : List (ByteArray × ByteArray)) (P Q : List ByteArray), j ≤ m ∧ i = .int .i64 j ∧ TwoS wr wo.heap.size va vp A P ∧ TwoS wr wo.heap.size vb vq Bs Q ∧ Apt4 va vb vp vq ∧ A.length ≤ j ∧ Bs.length ≤ j ∧ Below wo.heap.size wo wr) (fun _ _ _ _ i _ => m - (intOf i).toNat)
      case atStart => exact ⟨0, [], [], [], [], by omega, rfl, twoS_nil _ _, twoS_nil _ _, apt4_nil, Nat.le_refl _, Nat.le_refl _, Below.refl _ _⟩
      case round =>
        obtain ⟨j, A, Bs, P, Q, hj, rfl, hA, hB, hapt, hla, hlb, hBr⟩ := hrel
        by_cases hlt2 : j < m
        · have hlt2' : (j : Int) < (m : Int) := by omega
          obtain ⟨g, o, a, X, Y, s, rfl, hg, rfl, hab, d1, d2, hcp, hx, hy, hss⟩ := HAT.out j hlt2
          have hfit : (X, Y).1.size ≤ 60 ∧ (X, Y).2.size ≤ 60 := ⟨hx, hy⟩
          have hl1 := pair_load ((hBr.cell (p := ⟨g, o + j * 2, none⟩) hg).trans d1) ((hBr.cell (p := ⟨g, o + j * 2 + 1, none⟩) hg).trans d2)
          replace hab : (a.add j).block < wo.heap.size := by rw [add_block]; exact hab
          have hl2 := txt_load ((hBr.cell hab).trans hcp)
          have hcp0 := hcp
          have HBI := Lib.hid (fun W => rbit_any s k hlt (by omega) W)
          have hb2 : bitN s k = 0 ∨ bitN s k = 1 := by rw [bitN_eq]; split <;> simp
          clear d1 d2 hcp HAT HR1 HG HE HBW HFB
          go_wp2_with fail
          refine (HBI.out _).mono ?_
          rintro e w2 ⟨rfl, rfl⟩
          go_wp2_with fail
          refine (HBP.out _).mono ?_
          rintro e w2 ⟨rfl, rfl⟩
          by_cases hbb : bitN s k = bp
          · rw [hbb]
            go_wp2_with (at_builtin; refine wpList_append_pair rfl _ _ rfl wo.heap.size u12 A rfl hA.own (X, Y) rfl (by omega) hBr.size ?_)
            intro g5 c5 w5 hown5 hg5 hat5
            have hB5' := hBr.grown hg5 hBr.size (fun z hz => (World.ownsRow.lt hA.own z hz).1)
            have hp5 := hA.ownp.grown2 hg5 (hapt).ap.kept
            have hk5 := hB.kept hg5 (hapt).ab.kept (hapt).aq.kept
            have hapt5 := apt4_a (l := A.length + 1) (c := c5) (hapt) hA hB hA.ownp hat5
            have hld5 := txt_load ((hB5'.cell hab).trans hcp0)
            clear hg5 hat5
            go_wp2_with (at_builtin; refine wpList_append_txt2 rfl _ _ rfl wo.heap.size u14 P rfl hp5 s rfl (by have := hA.len; omega) hB5'.size ?_)
            intro g6 c6 w6 hown6 hg6 hat6
            have hB6' := hB5'.grown hg6 hB5'.size (fun z hz => (World.ownsRow.lt hp5 z hz).1)
            have hA6 := hown5.grown hg6 hapt5.ap.symm.kept
            have hB6 := hk5.kept hg6 hapt5.bp.symm.kept hapt5.pq.kept
            have hapt6 := apt4_p (l := P.length + 1) (c := c6) hapt5 hown5 hk5 hat6
            clear hg6 hat6 hld5
            go_wp2
            go_roundw
            case rel => exact ⟨j + 1, A ++ [(X, Y)], Bs, P ++ [s], Q, by omega, by go_num, ⟨hA6, hown6, by simp [hA.len], hA.fit.snoc hfit, sz_snoc hA.sz hss⟩, hB6, hapt6, by simp; omega, by omega, hB6'⟩
            case measure => simp [intOf]; omega
          · have hbb' : (((bitN s k : Nat) : Int) == ((bp : Nat) : Int)) = false := by rw [beq_eq_false_iff_ne]; omega
            generalize bitN s k = bs at *
            go_wp2_with (at_builtin; refine wpList_append_pair rfl _ _ rfl wo.heap.size u13 Bs rfl hB.own (X, Y) rfl (by omega) hBr.size ?_)
            intro g5 c5 w5 hown5 hg5 hat5
            have hB5' := hBr.grown hg5 hBr.size (fun z hz => (World.ownsRow.lt hB.own z hz).1)
            have hp5 := hB.ownp.grown2 hg5 (hapt.swap).ap.kept
            have hk5 := hA.kept hg5 (hapt.swap).ab.kept (hapt.swap).aq.kept
            have hapt5 := apt4_a (l := Bs.length + 1) (c := c5) (hapt.swap) hB hA hB.ownp hat5
            have hld5 := txt_load ((hB5'.cell hab).trans hcp0)
            clear hg5 hat5
            go_wp2_with (at_builtin; refine wpList_append_txt2 rfl _ _ rfl wo.heap.size u15 Q rfl hp5 s rfl (by have := hB.len; omega) hB5'.size ?_)
            intro g6 c6 w6 hown6 hg6 hat6
            have hB6' := hB5'.grown hg6 hB5'.size (fun z hz => (World.ownsRow.lt hp5 z hz).1)
            have hA6 := hown5.grown hg6 hapt5.ap.symm.kept
            have hB6 := hk5.kept hg6 hapt5.bp.symm.kept hapt5.pq.kept
            have hapt6 := apt4_p (l := Q.length + 1) (c := c6) hapt5 hown5 hk5 hat6
            clear hg6 hat6 hld5
            go_wp2
            go_roundw
            case rel => exact ⟨j + 1, A, Bs ++ [(X, Y)], P, Q ++ [s], by omega, by go_num, hB6, ⟨hA6, hown6, by simp [hB.len], hB.fit.snoc hfit, sz_snoc hB.sz hss⟩, hapt6.swap, by omega, by simp; omega, hB6'⟩
            case measure => simp [intOf]; omega
        · obtain rfl : j = m := by omega
          have hlt2' : ¬ (j : Int) < (j : Int) := by omega
          obtain ⟨o3, c3, hv1, hc1, hp1⟩ := hA.own.form
          obtain ⟨o4, c4, hv2, hp2⟩ := hA.ownp.form
          obtain ⟨o5, c5, hv3, hc3, hp3⟩ := hB.own.form
          obtain ⟨o6, c6, hv4, hp4⟩ := hB.ownp.form
          have HA := Lib.hid hA
          have HBQ := Lib.hid hB
          rw [← hA.len] at hv2
          rw [← hB.len] at hv4
          subst hv1 hv2 hv3 hv4
          have hG2 := HG.out.below hBr HG.out.lt
          have hE2 := HE.out.below hBr HE.out.lt
          have hBw2 := HBW.out.trans (hBr.mono HBW.out.size)
          have HGO := Lib.hid HG.out.lt
          clear hlt2 HAT HG HE HBW hapt hA hB
          by_cases hm2 : Bs.length = 0
          · have hm2' : ¬ (0 : Int) < (Bs.length : Int) := by omega
            have HM := Lib.hid (show A.length = A.length ∧ P.length = A.length from ⟨rfl, HA.out.len.symm⟩)
            generalize hml : Bs.length = m2 at *
            generalize hmA : A.length = m1 at *
            go_wp2
            go_roundw
            case rel => exact ⟨k + 1, m1, A, P, R, o3, o4, c3, c4, F, by omega, by go_num, rfl, rfl, hmA, by rw [← hmA]; exact HA.out.len.symm, by omega, HA.out.fit, HA.out.sz, hp1, hp2, rfl, by omega, hG2, hE2, HFB.out, hBw2⟩
            case measure => simp [intOf]; omega
          · have hm2' : (0 : Int) < (Bs.length : Int) := by omega
            obtain ⟨q, hq⟩ : ∃ q, k / 8 = q := ⟨_, rfl⟩
            obtain ⟨t, ht⟩ : ∃ t, k % 8 = t := ⟨_, rfl⟩
            have hq1 : (k : Int) / 8 = (q : Int) := by omega
            have hq2 : IntKind.i64.wrap (q : Int) = q := i64_small (by omega)
            have hq3 : (q : Int) < 32 := by omega
            have ht1 : (k : Int).tmod 8 = (t : Int) := by rw [Int.tmod_eq_emod_of_nonneg (by omega)]; omega
            have ht2 : IntKind.i64.wrap (t : Int) = t := i64_small (by omega)
            have hcj := (hG2.cell q).trans (flA_at F (by omega))
            change wr.cell? _ = some (.int .u8 (F q : Nat)) at hcj
            have hlj : (loadVar 5 ⟨gb, q, none⟩).run Try.prog wr.drew = .ok (.int .u8 (F q : Nat)) wr.drew := byte_load hcj
            have hfj : wr.frozen? ⟨gb, q, none⟩ = false := hG2.frozen q
            have hFq := HFB.out q
            have HSET := Lib.hid (fun x => flA_set F q x)
            generalize hfq : F q = fq at *
            have HG2 := Lib.hid hG2
            have HE2 := Lib.hid hE2
            have HBW2 := Lib.hid hBw2
            obtain ⟨p2, hp2a, hp2b⟩ : ∃ p2 : Int, IntKind.u8.wrap ((2 : Int) ^ min t 8) = p2 ∧ ¬ p2 = 0 := by
              refine ⟨_, rfl, ?_⟩
              have : ∀ t : Fin 8, ¬ IntKind.u8.wrap ((2 : Int) ^ min t.val 8) = 0 := by decide +kernel
              exact this ⟨t, by omega⟩
            obtain ⟨v2, hv2a⟩ : ∃ v2 : Int, IntKind.u8.wrap (Int.tdiv 128 p2) = v2 := ⟨_, rfl⟩
            obtain ⟨x2, hx2a, hx2b⟩ : ∃ x2 : Nat, IntKind.u8.wrap ((fq : Int) + v2) = (x2 : Int) ∧ x2 < 256 := by
              refine ⟨(IntKind.u8.wrap ((fq : Int) + v2)).toNat, ?_, ?_⟩ <;> rw [IntKind.wrap_u8'] <;> omega
            have HX2 := Lib.hid hx2b
            clear hq ht hG2 hE2 hBw2 hx2b
            go_wp2
            go_region_law fail
            have hg5 : wr.grownBy (wr.setCell ⟨gb, q, none⟩ (.int .u8 (x2 : Int))).drew (some gb) := only_drew (grown_setCell wr ⟨gb, q, none⟩ _)
            have hG5 : Blk (wr.setCell ⟨gb, q, none⟩ (.int .u8 (x2 : Int))).drew gb 5 (flA fun i => if i = q then x2 else F i) := HSET.out x2 ▸ HG2.out.set_ q (U8 x2)
            have hE5 := HE2.out.grown hg5 (by intro e; injection e; omega)
            have hB5 := HBW2.out.grown hg5 HBW2.out.size (fun i hi => by injection hi; omega)
            have hA5 := HA.out.kept hg5 (.inr fun e => by have := (World.ownsRow.lt HA.out.own gb e).1; have := HGO.out; omega) (.inr fun e => by have := (World.ownsRow.lt HA.out.ownp gb e).1; have := HGO.out; omega)
            have hQ5 := HBQ.out.kept hg5 (.inr fun e => by have := (World.ownsRow.lt HBQ.out.own gb e).1; have := HGO.out; omega) (.inr fun e => by have := (World.ownsRow.lt HBQ.out.ownp gb e).1; have := HGO.out; omega)
            generalize (wr.setCell ⟨gb, q, none⟩ (.int .u8 (x2 : Int))).drew = w5 at *
            obtain ⟨o7, c7, hv7, _, hp7⟩ := hQ5.own.form
            obtain ⟨o8, c8, hv8, hp8⟩ := hQ5.ownp.form
            rw [← hQ5.len] at hv8
            injection hv7 with hv7a hv7b hv7c
            injection hv8 with hv8a hv8b hv8c
            subst hv7a hv8a
            have hlE : (loadVar 43 ⟨w.heap.size, 0, none⟩).run Try.prog w5 = .ok (.agg EE) w5 := run_loadVar_row w5 w.heap.size 43 43 EE (0, 0) _ hE5 Try.underlying43 rfl HEI.out
            have HR2 := Lib.hid (HR1.out o5 o6 Bs.length c5 c6 Bs Q rfl hQ5.len.symm (by omega) hQ5.fit hQ5.sz w5 hp7 hp8)
            clear hcj hlj hfj hg5 HG2 HE2 HBW2 HA HBQ hx2a hv2a hp2a hp2b hq1 hq2 hq3 ht1 ht2 HR1 hp7 hp8 hp3 hp4 hv7c hv8c hv7b hv8b hp1 hp2
            have HA5 := Lib.hid hA5
            have HG5 := Lib.hid hG5
            have HE5 := Lib.hid hE5
            have HB5 := Lib.hid hB5
            clear hA5 hQ5 hG5 hE5 hB5
            go_wp2_with fail
            refine HR2.out.mono ?_
            rintro e w6 ⟨⟨r, rfl, hr⟩, hb6⟩
            have hA6 := HA5.out.below hb6
            have hG6 := HG5.out.below hb6 HG5.out.lt
            have hE6 := HE5.out.below hb6 HE5.out.lt
            have hB6 := HB5.out.trans (hb6.mono HB5.out.size)
            obtain ⟨o9, c9, hv9, _, hp9⟩ := hA6.own.form
            obtain ⟨oA, cA, hvA, hpA⟩ := hA6.ownp.form
            injection hv9 with hv9a hv9b hv9c
            injection hvA with hvAa hvAb hvAc
            subst hv9a hvAa
            have HA6 := Lib.hid hA6
            have hadd : ¬ R.size + r.size > 9223372036854775807 := by omega
            have hRr : (R ++ r).size ≤ 32 * (k + 1) := by rw [ByteArray.size_append]; omega
            clear hb6 HR2 hlE hA6 HA5 HG5 HE5 HB5 hv9c hvAc hv9b hvAb
            go_wp2
            go_roundw
            case rel => exact ⟨k + 1, A.length, A, P, R ++ r, o3, o4, c3, c4, (fun i => if i = q then x2 else F i), by omega, by go_num, rfl, rfl, rfl, HA6.out.len.symm, by omega, HA6.out.fit, HA6.out.sz, hp9, hpA, rfl, hRr, hG6, hE6, fun i => (by show (if i = q then x2 else F i) < 256; split; exact HX2.out; exact HFB.out i), hB6⟩
            case measure => simp [intOf]; omega
    · obtain rfl : k = 256 := by omega
      rw [show ((256 : Nat) : Int) = 256 from rfl]
      have hcv : (convert 53 9 (.slice (some ⟨gb, 0, none⟩) 32 32)).run Try.prog wr = .ok (.string (flB F)) wr := by
        have := conv_cells wr 53 5 9 Try.underlying53 Try.underlying5 Try.underlying9 gb 32 ((List.range 32).map F) (fun i hi => by
          have hi2 : i < 32 := by simpa using hi
          rw [hG.cell, flA_at F hi2]
          simp [List.getD_eq_getElem?_getD, hi2])
        unfold flB
        simpa using this
      have hfs := flB_size F
      generalize flB F = FB at *
      have hadd : ¬ FB.size + R.size > 9223372036854775807 := by omega
      have hfin : (FB ++ R).size = 32 + R.size := by rw [ByteArray.size_append, hfs]
      have HFIN := Lib.hid (show 32 ≤ (FB ++ R).size ∧ (FB ++ R).size ≤ 32 + 32 * 256 from ⟨by omega, by omega⟩)
      clear hlt hk hG hE hPr hSr hF hS hfin
      go_wp2
      rw [HPF.out]
      exact ⟨⟨_, rfl, HFIN.out⟩, hBw⟩
end
end Go.Proofs.Ytedkhcjbppknpaa
