/-
  Layer 8: the first two texts that are not the same.
-/
import Derived.Test.YtfhfmfcmkiobdaaCRoot
import Derived.Test.YtfhfmfcmkiobdaaCDesc
import Derived.Test.YtfhfmfcmkiobdaaCTail
import Derived.WalkMore
import Derived.BigQuiet
namespace Go.Proofs.Ytfhfmfcmkiobdaa
open Go.RowKit

/-- a collision -/
def RU (h : ByteArray → ByteArray) (w : World) (e : Ending) (w' : World) : Prop := ∃ A B : ByteArray, e = .returned (.agg #[.string A, .string B]) ∧ A ≠ B ∧ h A = h B ∧ A.size ≤ 1000 ∧ B.size ≤ 1000 ∧ Below w.heap.size w w'
theorem infoPair : (Try.prog.info? 31).map (·.size) = some 2 := by kernel_rfl
abbrev zpair : Array Value := #[.string ⟨#[]⟩, .string ⟨#[]⟩]
theorem beqT {a b : ByteArray} (e : a = b) : (a.toList == b.toList) = true ∧ (a.toList != b.toList) = false := by subst e; simp
theorem beqF {a b : ByteArray} (e : a ≠ b) : (a.toList == b.toList) = false ∧ (a.toList != b.toList) = true := by
  have : a.toList ≠ b.toList := fun k => e (ByteArray.ext (Array.toList_inj.1 (by rw [← ByteArray.toList_eq, ← ByteArray.toList_eq]; exact k)))
  constructor
  · rw [beq_eq_false_iff_ne]; exact this
  · rw [bne_iff_ne]; exact this
theorem strs_at0 {w : World} {oa : Option Addr} {x : ByteArray} {N : List ByteArray} (h : Strs w oa (x :: N)) : ∃ a, oa = some a ∧ a.block < w.heap.size ∧ w.cell? a = some (.string x) := by
  obtain ⟨a, e, hb, hc⟩ := h 0 (by simp)
  refine ⟨a, e, hb, ?_⟩
  have : a.add 0 = a := by simp [Addr.add]
  rw [this] at hc
  exact hc
theorem nod_small {b : Bool} {m q : ByteArray} (hm : m.size = 32) (hq : q.size = 32) : (nodC b m q).size ≤ 1000 := Nat.le_trans (nodC_size (by omega) (by omega)) (by decide)
theorem cl_small {h : ByteArray → ByteArray} (h32 : ∀ s, (h s).size = 32) {la : ByteArray} (hl : la.size ≤ 201) {i n : Nat} {x : ByteArray} {X : List ByteArray} (c : Cl h la i n (x :: X)) : x.size ≤ 1000 := by
  generalize hX : x :: X = L at c
  cases c with
  | leaf => cases hX; omega
  | left _ _ hq _ => cases hX; exact nod_small (h32 _) hq
  | right _ _ hq _ => cases hX; exact nod_small (h32 _) hq
theorem cl_len {h : ByteArray → ByteArray} {la : ByteArray} {i n : Nat} {N : List ByteArray} (c : Cl h la i n N) : N.length ≤ n := by
  induction c with
  | leaf => simp
  | left h2 _ _ _ ih => have := kC_lt h2; simp at ih ⊢; omega
  | @right i n q x N h2 _ _ _ ih => have := kC_lt h2; have := kC_pos n; simp at ih ⊢; omega
theorem late_small {h : ByteArray → ByteArray} (h32 : ∀ s, (h s).size = 32) {m n : Nat} {a b z : ByteArray} {E L : List ByteArray} (g : Gr h m n a b E (z :: L)) : z.size ≤ 1000 := by
  generalize hX : z :: L = L' at g
  cases g with
  | stay _ => cases hX
  | left _ _ hq g' => cases hX; exact nod_small (gr_size h h32 g').2 hq
  | right _ _ hq g' => cases hX; exact nod_small (gr_size h h32 g').2 hq
theorem early_small {h : ByteArray → ByteArray} (h32 : ∀ s, (h s).size = 32) {m n : Nat} {a b u : ByteArray} {E L : List ByteArray} (g : Gr h m n a b (u :: E) L) : u.size ≤ 1000 := by
  generalize hX : u :: E = E' at g
  induction g with
  | stay _ => cases hX
  | left _ _ _ _ ih => exact ih hX
  | right _ _ hq g' _ => cases hX; exact nod_small (gr_size h h32 g').1 hq
set_option maxRecDepth 100000 in
set_option maxHeartbeats 16000000 in
theorem unlike_any {g : Nat} {h : ByteArray → ByteArray} (H : Hsh g h) (a b : Clm) (hlf : a.lfn ≠ b.lfn) (x : ByteArray) (X : List ByteArray) (y : ByteArray) (Y : List ByteArray) (hxa : opC h a = x :: X) (hyb : opC h b = y :: Y) (hI : a.I = b.I) (E L : List ByteArray) (hG : Gr h a.N.toNat b.N.toNat (h x) (h y) E L) (hle : a.N ≤ b.N)
    (s1 s2 : ByteArray) (oe ol : Option Addr) (ce cl : Nat) (hce : E.length ≤ ce) (hcl : L.length ≤ cl) (w : World) (hoa : a.ok w) (hob : b.ok w) (hSe : Strs w oe E) (hSl : Strs w ol L) :
    Calls Try.prog 34 #[.func (.func g) #[] #[], a.val, b.val, .agg #[.string s1, .string s2, .slice oe E.length ce, .slice ol L.length cl]] w (RU h w) := by
  have HOa := Lib.hid (fun W hW => openClaim_any H a W hW)
  have HOb := Lib.hid (fun W hW => openClaim_any H b W hW)
  rw [hxa] at HOa
  rw [hyb] at HOb
  have fa : a.fits := by
    by_cases k : a.fits
    · exact k
    · unfold opC at hxa; rw [if_neg k] at hxa; cases hxa
  have fb : b.fits := by
    by_cases k : b.fits
    · exact k
    · unfold opC at hyb; rw [if_neg k] at hyb; cases hyb
  have ca : Cl h a.lfn a.I.toNat a.N.toNat (x :: X) := by
    unfold opC at hxa
    rw [if_pos fa] at hxa
    exact cl_of h a.lfn a.ss.reverse _ _ x X (by have := fa.1; have := fa.2.1; omega) (fun q hq => allC_at fa.2.2.2 (List.mem_reverse.1 hq)) hxa
  have cb : Cl h b.lfn b.I.toNat b.N.toNat (y :: Y) := by
    unfold opC at hyb
    rw [if_pos fb] at hyb
    exact cl_of h b.lfn b.ss.reverse _ _ y Y (by have := fb.1; have := fb.2.1; omega) (fun q hq => allC_at fb.2.2.2 (List.mem_reverse.1 hq)) hyb
  obtain ⟨n1, n2, n3, _⟩ := fa
  obtain ⟨m1, m2, m3, _⟩ := fb
  have H32 := Lib.hid H.size
  have HLA : Hid (a.lfn.size ≤ 201) := Lib.hid (by unfold Clm.lfn; rw [ByteArray.size_append]; have := hoa.lfs; have : (⟨#[0]⟩ : ByteArray).size = 1 := rfl; omega)
  have HLB : Hid (b.lfn.size ≤ 201) := Lib.hid (by unfold Clm.lfn; rw [ByteArray.size_append]; have := hob.lfs; have : (⟨#[0]⟩ : ByteArray).size = 1 := rfl; omega)
  generalize a.lfn = la at *
  generalize b.lfn = lb at *
  have HNE := Lib.hid hlf
  have HKa := Lib.hid hoa
  have HKb := Lib.hid hob
  obtain ⟨lf, I, N, oa, len, cap, ss⟩ := a
  obtain ⟨lf', I', N', oa', len', cap', ss'⟩ := b
  change 0 ≤ I at n1
  change I < N at n2
  change N ≤ 1048576 at n3
  change I = I' at hI
  change I' < N' at m2
  change N' ≤ 1048576 at m3
  change N ≤ N' at hle
  subst hI
  obtain ⟨i, rfl⟩ := Int.eq_ofNat_of_zero_le n1
  obtain ⟨m, rfl⟩ := Int.eq_ofNat_of_zero_le (a := N) (by omega)
  obtain ⟨n, rfl⟩ := Int.eq_ofNat_of_zero_le (a := N') (by omega)
  change Cl h la i m (x :: X) at ca
  change Cl h lb i n (y :: Y) at cb
  change Gr h m n (h x) (h y) E L at hG
  change Hid (∀ W, _ → Calls _ _ #[_, .agg #[.string lf, .int .i64 (i : Int), .int .i64 (m : Int), .slice oa len cap]] W _) at HOa
  change Hid (∀ W, _ → Calls _ _ #[_, .agg #[.string lf', .int .i64 (i : Int), .int .i64 (n : Int), .slice oa' len' cap']] W _) at HOb
  show Calls _ _ #[_, .agg #[.string lf, .int .i64 (i : Int), .int .i64 (m : Int), .slice oa len cap], .agg #[.string lf', .int .i64 (i : Int), .int .i64 (n : Int), .slice oa' len' cap'], _] _ _
  have HCA := Lib.hid ca
  have HCB := Lib.hid cb
  have HGR := Lib.hid hG
  have HSe := Lib.hid hSe
  have HSl := Lib.hid hSl
  obtain ⟨ne, hne⟩ : ∃ k, E.length = k := ⟨_, rfl⟩
  obtain ⟨nl, hnl⟩ : ∃ k, L.length = k := ⟨_, rfl⟩
  rw [hne, hnl]
  rw [hne] at hce
  rw [hnl] at hcl
  have HNEl := Lib.hid hne
  have HNLl := Lib.hid hnl
  obtain ⟨B, hB⟩ : ∃ B, w.heap.size = B := ⟨_, rfl⟩
  obtain ⟨w0, hw0⟩ : ∃ w0, w.alloc (.cells #[.string lf, .int .i64 (i : Int), .int .i64 (m : Int), .slice oa len cap] 24) = w0 := ⟨_, rfl⟩
  obtain ⟨w1, hw1⟩ : ∃ w1, w0.alloc (.cells #[.string lf', .int .i64 (i : Int), .int .i64 (n : Int), .slice oa' len' cap'] 24) = w1 := ⟨_, rfl⟩
  obtain ⟨w2, hw2⟩ : ∃ w2, w1.alloc (.cells #[.string s1, .string s2, .slice oe ne ce, .slice ol nl cl] 55) = w2 := ⟨_, rfl⟩
  obtain ⟨w3, hw3⟩ : ∃ w3, w2.alloc (.cells zpair 31) = w3 := ⟨_, rfl⟩
  have z0 : w0.heap.size = B + 1 := by rw [← hw0]; simp [hB]
  have z1 : w1.heap.size = B + 1 + 1 := by rw [← hw1]; simp [z0]
  have z2 : w2.heap.size = B + 1 + 1 + 1 := by rw [← hw2]; simp [z1]
  have kA : Blk w3 B 24 #[.string lf, .int .i64 (i : Int), .int .i64 (m : Int), .slice oa len cap] := by rw [← hw3, ← hw2, ← hw1, ← hw0, ← hB]; exact (((Blk.new _ _ _).alloc _).alloc _).alloc _
  have kB : Blk w3 (B + 1) 24 #[.string lf', .int .i64 (i : Int), .int .i64 (n : Int), .slice oa' len' cap'] := by rw [← hw3, ← hw2, ← hw1]; exact ((Blk.new_at z0.symm).alloc _).alloc _
  have kG : Blk w3 (B + 1 + 1) 55 #[.string s1, .string s2, .slice oe ne ce, .slice ol nl cl] := by rw [← hw3, ← hw2]; exact (Blk.new_at z1.symm).alloc _
  have kP : Blk w3 (B + 1 + 1 + 1) 31 zpair := by rw [← hw3]; exact Blk.new_at z2.symm
  have hB3 : Below w.heap.size w w3 := by rw [← hw3, ← hw2, ← hw1, ← hw0]; exact ((((Below.refl _ w).alloc (Nat.le_refl _) _).alloc (by simp) _).alloc (by simp; omega) _).alloc (by simp; omega) _
  have HKP : Hid (∀ W, Below w3.heap.size w3 W → ((W.cell? ⟨B, 0, none⟩ = some (.string lf) ∧ W.cell? ⟨B, 1, none⟩ = some (.int .i64 (i : Int)) ∧ W.cell? ⟨B, 2, none⟩ = some (.int .i64 (m : Int)) ∧ W.cell? ⟨B, 3, none⟩ = some (.slice oa len cap)) ∧ (W.cell? ⟨B + 1, 0, none⟩ = some (.string lf') ∧ W.cell? ⟨B + 1, 1, none⟩ = some (.int .i64 (i : Int)) ∧ W.cell? ⟨B + 1, 2, none⟩ = some (.int .i64 (n : Int)) ∧ W.cell? ⟨B + 1, 3, none⟩ = some (.slice oa' len' cap')) ∧ W.cell? ⟨B + 1 + 1, 2, none⟩ = some (.slice oe ne ce) ∧ W.cell? ⟨B + 1 + 1, 3, none⟩ = some (.slice ol nl cl)) ∧ Below w3.heap.size w3 W) :=
    Lib.hid fun W hW => ⟨⟨⟨(kA.below hW kA.lt).cell 0, (kA.below hW kA.lt).cell 1, (kA.below hW kA.lt).cell 2, (kA.below hW kA.lt).cell 3⟩, ⟨(kB.below hW kB.lt).cell 0, (kB.below hW kB.lt).cell 1, (kB.below hW kB.lt).cell 2, (kB.below hW kB.lt).cell 3⟩, (kG.below hW kG.lt).cell 2, (kG.below hW kG.lt).cell 3⟩, hW⟩
  have HP3 := Lib.hid kP
  have HB3 := Lib.hid hB3
  have HW0 := Lib.hid hw0
  have HW1 := Lib.hid hw1
  have HW2 := Lib.hid hw2
  have HW3 := Lib.hid hw3
  clear hw0 hw1 hw2 hw3 kA kB kG kP hB3 ca cb hG hSe hSl hoa hob hlf hne hnl hxa hyb
  go_enter Try.func34, Try.ntmps34
  go_wp2_with (first | rw [HW0.out] | rw [HW1.out] | rw [HW2.out] | rw [HW3.out])
  go_step3
  go_wp2_with fail
  go_region_held3 (fun W => ((W.cell? ⟨B, 0, none⟩ = some (.string lf) ∧ W.cell? ⟨B, 1, none⟩ = some (.int .i64 (i : Int)) ∧ W.cell? ⟨B, 2, none⟩ = some (.int .i64 (m : Int)) ∧ W.cell? ⟨B, 3, none⟩ = some (.slice oa len cap)) ∧ (W.cell? ⟨B + 1, 0, none⟩ = some (.string lf') ∧ W.cell? ⟨B + 1, 1, none⟩ = some (.int .i64 (i : Int)) ∧ W.cell? ⟨B + 1, 2, none⟩ = some (.int .i64 (n : Int)) ∧ W.cell? ⟨B + 1, 3, none⟩ = some (.slice oa' len' cap')) ∧ W.cell? ⟨B + 1 + 1, 2, none⟩ = some (.slice oe ne ce) ∧ W.cell? ⟨B + 1 + 1, 3, none⟩ = some (.slice ol nl cl)) ∧ Below w3.heap.size w3 W)
    ((refine HKP.out _ ?_; first | exact hB2' | exact hB1' | exact (Below.refl _ _).drew | exact Below.refl _ _))
    (first
      | (have := hB1'; go_at_call 30; refine (HOb.out _ (HKb.out.below (HB3.out.trans (hB1'.mono HB3.out.size)))).mono ?_; rintro e w5 ⟨vb, rfl, hownB, hb5⟩; have hB2' : Below w3.heap.size w3 w5 := hB1'.trans (hb5.mono hB1'.size))
      | (go_at_call 30; refine (HOa.out _ (HKa.out.below (HB3.out.trans ((Below.refl _ _).drew.mono HB3.out.size)))).mono ?_; rintro e w4 ⟨va, rfl, hownA, hb4⟩; have hB1' : Below w3.heap.size w3 w4 := (Below.refl _ _).drew.trans hb4))
  have hKK := HKP.out _ hB2'
  obtain ⟨⟨⟨_, d1, d2, _⟩, ⟨_, _, d3, _⟩, _, _⟩, _⟩ := hKK
  have hP5 := HP3.out.below hB2' HP3.out.lt
  have hB5 := HB3.out.trans (hB2'.mono HB3.out.size)
  have hSA := (hownA.below hb5).formL
  have hSB := hownB.formL
  obtain ⟨o1, c1, rfl, hS1, hc1⟩ := hSA
  obtain ⟨o2, c2, rfl, hS2, hc2⟩ := hSB
  have hS3 := HSe.out.below hB5
  have hS4 := HSl.out.below hB5
  have HP5 := Lib.hid hP5
  have HB5 := Lib.hid hB5
  have HS1 := Lib.hid hS1
  have HS2 := Lib.hid hS2
  have HS3 := Lib.hid hS3
  have HS4 := Lib.hid hS4
  rw [List.length_cons] at hc1 hc2
  rw [List.length_cons, List.length_cons]
  clear hownA hownB hb4 hb5 hB1' hB2' HKP HOa HOb HKa HKb hP5 hB5 hS1 hS2 hS3 hS4
  rename_i hHeld
  clear hHeld
  go_wp2_with fail
  go_quiet (fail)
  go_wp2
  go_step3
  go_wp2
  go_loopw [9, 10, 11, 12, 13, 14, 15] (fun v9 v10 v11 v12 v13 v14 v15 wr => ∃ (i m n : Nat) (x : ByteArray) (X : List ByteArray) (y : ByteArray) (Y E L : List ByteArray) (o1 o2 o3 o4 : Option Addr) (k1 k2 k3 k4 c1 c2 c3 c4 : Nat), v9 = .slice o1 (k1 + 1) c1 ∧ v10 = .slice o2 (k2 + 1) c2 ∧ v11 = .slice o3 k3 c3 ∧ v12 = .slice o4 k4 c4 ∧ v13 = .int .i64 i ∧ v14 = .int .i64 m ∧ v15 = .int .i64 n ∧
      i < m ∧ m ≤ n ∧ n ≤ 1048576 ∧ k1 + 1 ≤ c1 ∧ k2 + 1 ≤ c2 ∧ k3 ≤ c3 ∧ k4 ≤ c4 ∧ Hid (X.length = k1) ∧ Hid (Y.length = k2) ∧ Hid (E.length = k3) ∧ Hid (L.length = k4) ∧ Hid (Cl h la i m (x :: X)) ∧ Hid (Cl h lb i n (y :: Y)) ∧ Hid (Gr h m n (h x) (h y) E L) ∧ Hid (Strs wr o1 (x :: X)) ∧ Hid (Strs wr o2 (y :: Y)) ∧ Hid (Strs wr o3 E) ∧ Hid (Strs wr o4 L) ∧ Hid (Blk wr (B + 1 + 1 + 1) 31 zpair) ∧ Hid (Below w.heap.size w wr))
    (fun _ _ _ _ _ _ v15 _ => (intOf v15).toNat)
  case atStart => exact ⟨i, m, n, x, X, y, Y, E, L, o1, o2, oe, ol, _, _, ne, nl, c1, c2, ce, cl, rfl, rfl, rfl, rfl, rfl, rfl, rfl, by omega, by omega, by omega, hc1, hc2, hce, hcl, Lib.hid rfl, Lib.hid rfl, HNEl, HNLl, HCA, HCB, HGR, Lib.hid (HS1.out.below (below_drewN (Below.refl _ _) _)), Lib.hid (HS2.out.below (below_drewN (Below.refl _ _) _)), Lib.hid (HS3.out.below (below_drewN (Below.refl _ _) _)), Lib.hid (HS4.out.below (below_drewN (Below.refl _ _) _)), Lib.hid HP5.out, Lib.hid (below_drewN HB5.out _)⟩
  case round =>
    clear HCA HCB HGR HS1 HS2 HS3 HS4 HP5 HB5 HSe HSl HP3 HB3 HNEl HNLl d1 d2 d3 HW0 HW1 HW2 HW3 hc1 hc2 hce hcl hle m2 m3 n2 n3 m1 n1 z0 z1 z2
    obtain ⟨i, m, n, x, X, y, Y, E, L, o1, o2, o3, o4, k1, k2, k3, k4, c1, c2, c3, c4, rfl, rfl, rfl, rfl, rfl, rfl, rfl, him, hmn, hnn, hc1, hc2, hc3, hc4, HX, HY, HE, HL, HCA, HCB, HGR, HS1, HS2, HS3, HS4, HP, HBr⟩ := hrel
    by_cases hlt : m < n
    · have hlt' : (m : Int) < (n : Int) := by omega
      have HK := Lib.hid (fun W => cparting_any n (by omega) hnn W)
      have hkp := kC_pos n
      have hkn := kC_lt (n := n) (by omega)
      obtain ⟨z, L', eL, ez⟩ := gr_late hlt HGR.out
      rw [eL] at HL HGR HS4
      have hk4 : 1 ≤ k4 := by have := HL.out; simp at this; omega
      clear eL
      obtain ⟨a2, e2, hb2, q2⟩ := strs_at0 HS2.out
      obtain ⟨a4, e4, hb4, q4⟩ := strs_at0 HS4.out
      subst e2
      subst e4
      have i2 : (0 : Int) < ((k2 + 1 : Nat) : Int) := by omega
      have i4 : (0 : Int) < (k4 : Int) := by omega
      have hsl2 := slice_one (some a2) (k2 + 1) c2 (by omega) hc2
      have hsl4 := slice_one (some a4) k4 c4 hk4 hc4
      rw [Nat.add_sub_cancel] at hsl2
      by_cases hyz : y = z
      · obtain ⟨bt1, bt2⟩ := beqT hyz
        have HYZ := Lib.hid hyz
        clear ez hyz
        by_cases hmk : m ≤ kC n
        · have hmk' : (m : Int) ≤ (kC n : Int) := by omega
          obtain ⟨y', Y', eY, cb', g'⟩ := gr_left H32.out hlt him hmk (by rw [← HYZ.out] at HGR; exact HGR.out) HCB.out
          rw [eY] at HY HS2
          have hk2 : 1 ≤ k2 := by have := HY.out; simp at this; omega
          have HCB' := Lib.hid cb'
          have HGR' := Lib.hid g'
          have HS2' := Lib.hid (strs_tail HS2.out (cap := c2) (by have := HY.out; omega))
          have HS4' := Lib.hid (strs_tail HS4.out (cap := c4) (by have := HL.out; simp at this; omega))
          have HY' := Lib.hid (show Y'.length = k2 - 1 by have := HY.out; simp at this; omega)
          have HL' := Lib.hid (show L'.length = k4 - 1 by have := HL.out; simp at this; omega)
          generalize tailA (some a2) c2 = t2 at *
          generalize tailA (some a4) c4 = t4 at *
          generalize kC n = k at *
          have ek2 : k2 - 1 + 1 = k2 := by omega
          clear eY cb' g' HCB HGR HY HL hb2 hb4 HYZ
          go_wp2_with (first | (go_at_call 46; refine (HK.out _).mono ?_; rintro e w' ⟨rfl, hw'⟩; rw [hw']; clear hw' w') | fail)
          go_quiet (fail)
          go_wp2_with fail
          go_quiet (fail)
          go_wp2
          go_roundw
          case rel => exact ⟨i, m, k, x, X, y', Y', E, L', o1, t2, o3, t4, k1, k2 - 1, k3, k4 - 1, c1, c2 - 1, c3, c4 - 1, rfl, by rw [ek2], rfl, rfl, rfl, rfl, rfl, him, hmk, by omega, hc1, by omega, hc3, by omega, HX, HY', HE, HL', HCA, HCB', HGR', Lib.hid (HS1.out.below (by repeat (first | exact Below.refl _ _ | refine below_drewN ?_ _))), Lib.hid (HS2'.out.below (by repeat (first | exact Below.refl _ _ | refine below_drewN ?_ _))), Lib.hid (HS3.out.below (by repeat (first | exact Below.refl _ _ | refine below_drewN ?_ _))), Lib.hid (HS4'.out.below (by repeat (first | exact Below.refl _ _ | refine below_drewN ?_ _))), Lib.hid HP.out, Lib.hid (by repeat (first | exact HBr.out | refine below_drewN ?_ _))⟩
          case measure => simp [intOf]; omega
        · have hmk' : ¬ (m : Int) ≤ (kC n : Int) := by omega
          obtain ⟨u, E', eE, eu⟩ := gr_early hlt hmk HGR.out
          rw [eE] at HE HGR HS3
          have hk3 : 1 ≤ k3 := by have := HE.out; simp at this; omega
          obtain ⟨a1, e1, hb1, q1⟩ := strs_at0 HS1.out
          obtain ⟨a3, e3, hb3, q3⟩ := strs_at0 HS3.out
          subst e1
          subst e3
          have i1 : (0 : Int) < ((k1 + 1 : Nat) : Int) := by omega
          have i3 : (0 : Int) < (k3 : Int) := by omega
          have hsl1 := slice_one (some a1) (k1 + 1) c1 (by omega) hc1
          have hsl3 := slice_one (some a3) k3 c3 hk3 hc3
          rw [Nat.add_sub_cancel] at hsl1
          clear eE
          by_cases hxu : x = u
          · obtain ⟨bu1, bu2⟩ := beqT hxu
            have HXU := Lib.hid hxu
            clear eu hxu
            by_cases hik : i < kC n
            · have hik' : (i : Int) < (kC n : Int) := by omega
              obtain ⟨x', X', y', Y', eX, eY, hh, ca', cb'⟩ := gr_cross H32.out hlt hmk hik HGR.out (by rw [← HXU.out]; exact HCA.out) (by rw [← HYZ.out]; exact HCB.out)
              rw [eX] at HX HS1
              rw [eY] at HY HS2
              have hk1 : 1 ≤ k1 := by have := HX.out; simp at this; omega
              have hk2 : 1 ≤ k2 := by have := HY.out; simp at this; omega
              have HCA' := Lib.hid ca'
              have HCB' := Lib.hid cb'
              have HHH := Lib.hid hh
              have HS1' := Lib.hid (strs_tail HS1.out (cap := c1) (by have := HX.out; omega))
              have HS2' := Lib.hid (strs_tail HS2.out (cap := c2) (by have := HY.out; omega))
              have HX' := Lib.hid (show X'.length = k1 - 1 by have := HX.out; simp at this; omega)
              have HY' := Lib.hid (show Y'.length = k2 - 1 by have := HY.out; simp at this; omega)
              generalize tailA (some a1) c1 = t1 at *
              generalize tailA (some a2) c2 = t2 at *
              generalize hkk : kC n = k at *
              clear eX eY hh ca' cb' HCA HCB HGR HX HY HE HL hb1 hb2 hb3 hb4 HS3 HS4 HYZ HXU hkk
              obtain ⟨d1, rfl⟩ : ∃ d, k1 = d + 1 := ⟨k1 - 1, by omega⟩
              obtain ⟨d2, rfl⟩ : ∃ d, k2 = d + 1 := ⟨k2 - 1, by omega⟩
              rw [Nat.add_sub_cancel] at HX' HY'
              go_wp2_with (first | (go_at_call 46; refine (HK.out _).mono ?_; rintro e w' ⟨rfl, hw'⟩; rw [hw']; clear hw' w') | fail)
              go_quiet (fail)
              go_wp2_with fail
              go_quiet (fail)
              go_wp2_with fail
              go_quiet (fail)
              go_wp2
              have HA0 := Lib.hid (show (x' :: X').length = d1 + 1 by rw [List.length_cons, HX'.out])
              have HB0 := Lib.hid (show (y' :: Y').length = d2 + 1 by rw [List.length_cons, HY'.out])
              have hd1b : d1 ≤ 1048576 := by have := cl_len HCA'.out; have := HA0.out; omega
              obtain ⟨A, hA⟩ : ∃ A, x' :: X' = A := ⟨_, rfl⟩
              obtain ⟨Bl, hBl⟩ : ∃ Bl, y' :: Y' = Bl := ⟨_, rfl⟩
              have HAA := Lib.hid hA
              have HBB := Lib.hid hBl
              rw [hA] at HA0 HS1'
              rw [hBl] at HB0 HS2'
              clear hA hBl
              generalize wr = wo at *
              go_loopw [17] (fun v17 wr => ∃ (j : Nat) (x y : ByteArray) (X Y P1 P2 : List ByteArray) (i n : Nat), v17 = .int .i64 j ∧ j ≤ d1 ∧ j ≤ d2 ∧ Hid (A = P1 ++ x :: X) ∧ Hid (Bl = P2 ++ y :: Y) ∧ Hid (P1.length = j) ∧ Hid (P2.length = j) ∧ Hid (h x = h y) ∧ Hid (Cl h la i n (x :: X)) ∧ Hid (Cl h lb i n (y :: Y)) ∧ Hid (Below wo.heap.size wo wr)) (fun v17 _ => d1 + 1 - (intOf v17).toNat)
              case atStart => exact ⟨0, x', y', X', Y', [], [], i, k, rfl, by omega, by omega, Lib.hid HAA.out.symm, Lib.hid HBB.out.symm, Lib.hid rfl, Lib.hid rfl, HHH, HCA', HCB', Lib.hid (by repeat (first | exact Below.refl _ _ | refine below_drewN ?_ _ | refine Below.drew ?_))⟩
              case round =>
                clear HAA HBB HHH HCA' HCB'
                obtain ⟨j, x, y, X, Y, P1, P2, i, n, rfl, hj1, hj2, HA, HBl, HP1, HP2, HHH, HCA, HCB, HBo⟩ := hrel
                obtain ⟨a1, e1, hb1, q1'⟩ := HS1'.out j (by rw [HA0.out]; omega)
                obtain ⟨a2, e2, hb2, q2'⟩ := HS2'.out j (by rw [HB0.out]; omega)
                subst e1
                subst e2
                rw [show A.getD j ByteArray.empty = x by rw [HA.out]; exact getD_mid _ _ _ _ HP1.out] at q1'
                rw [show Bl.getD j ByteArray.empty = y by rw [HBl.out]; exact getD_mid _ _ _ _ HP2.out] at q2'
                have q1 : wr.cell? (a1.add j) = some (.string x) := (HBo.out.cell (by rw [add_block]; exact hb1)).trans q1'
                have q2 : wr.cell? (a2.add j) = some (.string y) := (HBo.out.cell (by rw [add_block]; exact hb2)).trans q2'
                have v1 : j < d1 + 1 := by omega
                have v2 : j < d2 + 1 := by omega
                have v1' : (j : Int) < ((d1 + 1 : Nat) : Int) := by omega
                have v2' : (j : Int) < ((d2 + 1 : Nat) : Int) := by omega
                have v0 : (0 : Int) ≤ (j : Int) := by omega
                clear q1' q2' hb1 hb2
                by_cases hxy : x = y
                · obtain ⟨bt1, bt2⟩ := beqT hxy
                  have HNX := Lib.hid (cl_next h H32.out HNE.out HCA.out (by rw [hxy]; exact HCB.out))
                  have hX1 : 0 < X.length ∧ 0 < Y.length := by
                    obtain ⟨y', A', z', B', i', n', eX, eY, _⟩ := HNX.out
                    rw [eX, eY]; simp
                  have hjd1 : j + 1 ≤ d1 := by have := congrArg List.length HA.out; rw [HA0.out, List.length_append, HP1.out, List.length_cons] at this; omega
                  have hjd2 : j + 1 ≤ d2 := by have := congrArg List.length HBl.out; rw [HB0.out, List.length_append, HP2.out, List.length_cons] at this; omega
                  clear hX1 hxy
                  go_wp2_with fail
                  go_quiet (fail)
                  go_wp2
                  go_roundw
                  case rel =>
                    obtain ⟨y', A', z', B', i', n', eX, eY, hh, c1', c2'⟩ := HNX.out
                    exact ⟨j + 1, y', z', A', B', P1 ++ [x], P2 ++ [y], i', n', by go_num, hjd1, hjd2, Lib.hid (by rw [HA.out, eX]; simp), Lib.hid (by rw [HBl.out, eY]; simp), Lib.hid (by rw [List.length_append, HP1.out]; rfl), Lib.hid (by rw [List.length_append, HP2.out]; rfl), Lib.hid hh, Lib.hid c1', Lib.hid c2', Lib.hid (by repeat (first | exact HBo.out | refine below_drewN ?_ _ | refine Below.drew ?_))⟩
                  case measure => simp [intOf]; omega
                · obtain ⟨bt1, bt2⟩ := beqF hxy
                  have HFI : Hid (∀ W, Below w.heap.size w W → RU h w (.returned (.agg #[.string x, .string y])) W) := Lib.hid (fun W hW => ⟨x, y, rfl, hxy, HHH.out, cl_small H32.out HLA.out HCA.out, cl_small H32.out HLB.out HCB.out, hW⟩)
                  have HPo := HP
                  have HBro := HBr
                  have HBr : Hid (Below w.heap.size w wr) := Lib.hid (HBro.out.trans (HBo.out.mono HBro.out.size))
                  have HP : Hid (Blk wr (B + 1 + 1 + 1) 31 zpair) := Lib.hid (HPo.out.below HBo.out HPo.out.lt)
                  clear HPo HBro hxy HA HBl HP1 HP2 HHH HCA HCB HBo
                  go_wp2_with fail
                  go_quiet (fail)
                  have p0 : wr.cell? ⟨B + 1 + 1 + 1, 0, none⟩ = some (.string ⟨#[]⟩) := HP.out.cell 0
                  have p1 : wr.cell? ⟨B + 1 + 1 + 1, 1, none⟩ = some (.string ⟨#[]⟩) := HP.out.cell 1
                  have t0 := HP.out.frozen 0
                  have t1 := HP.out.frozen 1
                  have HRES := Lib.hid ((HP.out.set_ 0 (.string x)).set_ 1 (.string y))
                  have HBF := Lib.hid ((HBr.out.setCell (p := ⟨B + 1 + 1 + 1, 0, none⟩) (by show w.heap.size ≤ B + 1 + 1 + 1; omega) (.string x)).setCell (p := ⟨B + 1 + 1 + 1, 1, none⟩) (by show w.heap.size ≤ B + 1 + 1 + 1; omega) (.string y))
                  go_wp2_with fail
                  go_region
                  go_wp2
                  try rw [Exit.noGoto_ret]
                  refine bodyPost_ret (results_cell_row rfl _ _ (B + 1 + 1 + 1) 31 #[.string x, .string y] (0, 0) _ rfl HRES.out Try.underlying31 rfl infoPair) rfl ?_
                  exact HFI.out _ ⟨HBF.out.os, HBF.out.tape, HBF.out.output, HBF.out.size, HBF.out.block⟩
            · have hik' : ¬ (i : Int) < (kC n : Int) := by omega
              obtain ⟨x', X', y', Y', eX, eY, ca', cb', g'⟩ := gr_right H32.out hlt hmk hik HGR.out (by rw [← HXU.out]; exact HCA.out) (by rw [← HYZ.out]; exact HCB.out)
              rw [eX] at HX HS1
              rw [eY] at HY HS2
              have hk1 : 1 ≤ k1 := by have := HX.out; simp at this; omega
              have hk2 : 1 ≤ k2 := by have := HY.out; simp at this; omega
              have HCA' := Lib.hid ca'
              have HCB' := Lib.hid cb'
              have HGR' := Lib.hid g'
              have HS1' := Lib.hid (strs_tail HS1.out (cap := c1) (by have := HX.out; omega))
              have HS2' := Lib.hid (strs_tail HS2.out (cap := c2) (by have := HY.out; omega))
              have HS3' := Lib.hid (strs_tail HS3.out (cap := c3) (by have := HE.out; simp at this; omega))
              have HS4' := Lib.hid (strs_tail HS4.out (cap := c4) (by have := HL.out; simp at this; omega))
              have HX' := Lib.hid (show X'.length = k1 - 1 by have := HX.out; simp at this; omega)
              have HY' := Lib.hid (show Y'.length = k2 - 1 by have := HY.out; simp at this; omega)
              have HE' := Lib.hid (show E'.length = k3 - 1 by have := HE.out; simp at this; omega)
              have HL' := Lib.hid (show L'.length = k4 - 1 by have := HL.out; simp at this; omega)
              generalize tailA (some a1) c1 = t1 at *
              generalize tailA (some a2) c2 = t2 at *
              generalize tailA (some a3) c3 = t3 at *
              generalize tailA (some a4) c4 = t4 at *
              generalize hkk : kC n = k at *
              have ek1 : k1 - 1 + 1 = k1 := by omega
              have ek2 : k2 - 1 + 1 = k2 := by omega
              have E1 := Lib.hid ek1
              have E2 := Lib.hid ek2
              clear eX eY ca' cb' g' HCA HCB HGR HX HY HE HL hb1 hb2 hb3 hb4 HYZ HXU ek1 ek2 hkk
              go_wp2_with (first | (go_at_call 46; refine (HK.out _).mono ?_; rintro e w' ⟨rfl, hw'⟩; rw [hw']; clear hw' w') | fail)
              go_quiet (fail)
              go_wp2_with fail
              go_quiet (fail)
              go_wp2_with fail
              go_quiet (fail)
              go_wp2
              go_roundw
              case rel => exact ⟨i - k, m - k, n - k, x', X', y', Y', E', L', t1, t2, t3, t4, k1 - 1, k2 - 1, k3 - 1, k4 - 1, c1 - 1, c2 - 1, c3 - 1, c4 - 1, by rw [E1.out], by rw [E2.out], rfl, rfl, by rw [show ((i - k : Nat) : Int) = (i : Int) - k by omega], by rw [show ((m - k : Nat) : Int) = (m : Int) - k by omega], by rw [show ((n - k : Nat) : Int) = (n : Int) - k by omega], by omega, by omega, by omega, by omega, by omega, by omega, by omega, HX', HY', HE', HL', HCA', HCB', HGR', Lib.hid (HS1'.out.below (by repeat (first | exact Below.refl _ _ | refine below_drewN ?_ _))), Lib.hid (HS2'.out.below (by repeat (first | exact Below.refl _ _ | refine below_drewN ?_ _))), Lib.hid (HS3'.out.below (by repeat (first | exact Below.refl _ _ | refine below_drewN ?_ _))), Lib.hid (HS4'.out.below (by repeat (first | exact Below.refl _ _ | refine below_drewN ?_ _))), Lib.hid HP.out, Lib.hid (by repeat (first | exact HBr.out | refine below_drewN ?_ _))⟩
              case measure => simp [intOf]; omega
          · obtain ⟨bu1, bu2⟩ := beqF hxu
            have HFI : Hid (∀ W, Below w.heap.size w W → RU h w (.returned (.agg #[.string x, .string u])) W) := Lib.hid (fun W hW => ⟨x, u, rfl, hxu, eu, cl_small H32.out HLA.out HCA.out, early_small H32.out HGR.out, hW⟩)
            generalize hkk : kC n = k at *
            clear hxu eu HCA HCB HGR HX HY HE HL hb1 hb2 hb3 hb4 HS1 HS2 HS3 HS4 HYZ hkk
            go_wp2_with (first | (go_at_call 46; refine (HK.out _).mono ?_; rintro e w' ⟨rfl, hw'⟩; rw [hw']; clear hw' w') | fail)
            go_quiet (fail)
            go_wp2_with fail
            go_quiet (fail)
            have p0 : wr.cell? ⟨B + 1 + 1 + 1, 0, none⟩ = some (.string ⟨#[]⟩) := HP.out.cell 0
            have p1 : wr.cell? ⟨B + 1 + 1 + 1, 1, none⟩ = some (.string ⟨#[]⟩) := HP.out.cell 1
            have t0 := HP.out.frozen 0
            have t1 := HP.out.frozen 1
            have HRES := Lib.hid ((HP.out.set_ 0 (.string x)).set_ 1 (.string u))
            have HBF := Lib.hid ((HBr.out.setCell (p := ⟨B + 1 + 1 + 1, 0, none⟩) (by show w.heap.size ≤ B + 1 + 1 + 1; omega) (.string x)).setCell (p := ⟨B + 1 + 1 + 1, 1, none⟩) (by show w.heap.size ≤ B + 1 + 1 + 1; omega) (.string u))
            go_wp2_with fail
            go_region
            go_wp2
            try rw [Exit.noGoto_ret]
            refine bodyPost_ret (results_cell_row rfl _ _ (B + 1 + 1 + 1) 31 #[.string x, .string u] (0, 0) _ rfl HRES.out Try.underlying31 rfl infoPair) rfl ?_
            exact HFI.out _ ⟨HBF.out.os, HBF.out.tape, HBF.out.output, HBF.out.size, HBF.out.block⟩
      · obtain ⟨bt1, bt2⟩ := beqF hyz
        have HFI : Hid (∀ W, Below w.heap.size w W → RU h w (.returned (.agg #[.string z, .string y])) W) := Lib.hid (fun W hW => ⟨z, y, rfl, fun e => hyz e.symm, ez.symm, late_small H32.out HGR.out, cl_small H32.out HLB.out HCB.out, hW⟩)
        generalize hkk : kC n = k at *
        clear hyz ez HCA HCB HGR HX HY HE HL hb2 hb4 HS1 HS2 HS3 HS4 hkk
        go_wp2_with (first | (go_at_call 46; refine (HK.out _).mono ?_; rintro e w' ⟨rfl, hw'⟩; rw [hw']; clear hw' w') | fail)
        go_quiet (fail)
        have p0 : wr.cell? ⟨B + 1 + 1 + 1, 0, none⟩ = some (.string ⟨#[]⟩) := HP.out.cell 0
        have p1 : wr.cell? ⟨B + 1 + 1 + 1, 1, none⟩ = some (.string ⟨#[]⟩) := HP.out.cell 1
        have t0 := HP.out.frozen 0
        have t1 := HP.out.frozen 1
        have HRES := Lib.hid ((HP.out.set_ 0 (.string z)).set_ 1 (.string y))
        have HBF := Lib.hid ((HBr.out.setCell (p := ⟨B + 1 + 1 + 1, 0, none⟩) (by show w.heap.size ≤ B + 1 + 1 + 1; omega) (.string z)).setCell (p := ⟨B + 1 + 1 + 1, 1, none⟩) (by show w.heap.size ≤ B + 1 + 1 + 1; omega) (.string y))
        go_wp2_with fail
        go_region
        go_wp2
        try rw [Exit.noGoto_ret]
        refine bodyPost_ret (results_cell_row rfl _ _ (B + 1 + 1 + 1) 31 #[.string z, .string y] (0, 0) _ rfl HRES.out Try.underlying31 rfl infoPair) rfl ?_
        exact HFI.out _ ⟨HBF.out.os, HBF.out.tape, HBF.out.output, HBF.out.size, HBF.out.block⟩
    · have hlt' : ¬ (m : Int) < (n : Int) := by omega
      obtain rfl : m = n := by omega
      have HHH := Lib.hid (gr_end HGR.out)
      clear HGR HE HL HS3 HS4 hlt
      go_wp2
      have HA0 := Lib.hid (show (x :: X).length = k1 + 1 by rw [List.length_cons, HX.out])
      have HB0 := Lib.hid (show (y :: Y).length = k2 + 1 by rw [List.length_cons, HY.out])
      have hd1b : k1 ≤ 1048576 := by have := cl_len HCA.out; have := HA0.out; omega
      obtain ⟨A, hA⟩ : ∃ A, x :: X = A := ⟨_, rfl⟩
      obtain ⟨Bl, hBl⟩ : ∃ Bl, y :: Y = Bl := ⟨_, rfl⟩
      have HAA := Lib.hid hA
      have HBB := Lib.hid hBl
      rw [hA] at HA0 HS1
      rw [hBl] at HB0 HS2
      clear hA hBl
      generalize wr = wo at *
      go_loopw [17] (fun v17 wr => ∃ (j : Nat) (x y : ByteArray) (X Y P1 P2 : List ByteArray) (i n : Nat), v17 = .int .i64 j ∧ j ≤ k1 ∧ j ≤ k2 ∧ Hid (A = P1 ++ x :: X) ∧ Hid (Bl = P2 ++ y :: Y) ∧ Hid (P1.length = j) ∧ Hid (P2.length = j) ∧ Hid (h x = h y) ∧ Hid (Cl h la i n (x :: X)) ∧ Hid (Cl h lb i n (y :: Y)) ∧ Hid (Below wo.heap.size wo wr)) (fun v17 _ => k1 + 1 - (intOf v17).toNat)
      case atStart => exact ⟨0, x, y, X, Y, [], [], i, m, rfl, by omega, by omega, Lib.hid HAA.out.symm, Lib.hid HBB.out.symm, Lib.hid rfl, Lib.hid rfl, HHH, HCA, HCB, Lib.hid (by repeat (first | exact Below.refl _ _ | refine below_drewN ?_ _ | refine Below.drew ?_))⟩
      case round =>
        clear HAA HBB HHH HCA HCB
        obtain ⟨j, x, y, X, Y, P1, P2, i, n, rfl, hj1, hj2, HA, HBl, HP1, HP2, HHH, HCA, HCB, HBo⟩ := hrel
        obtain ⟨a1, e1, hb1, q1'⟩ := HS1.out j (by rw [HA0.out]; omega)
        obtain ⟨a2, e2, hb2, q2'⟩ := HS2.out j (by rw [HB0.out]; omega)
        subst e1
        subst e2
        rw [show A.getD j ByteArray.empty = x by rw [HA.out]; exact getD_mid _ _ _ _ HP1.out] at q1'
        rw [show Bl.getD j ByteArray.empty = y by rw [HBl.out]; exact getD_mid _ _ _ _ HP2.out] at q2'
        have q1 : wr.cell? (a1.add j) = some (.string x) := (HBo.out.cell (by rw [add_block]; exact hb1)).trans q1'
        have q2 : wr.cell? (a2.add j) = some (.string y) := (HBo.out.cell (by rw [add_block]; exact hb2)).trans q2'
        have v1 : j < k1 + 1 := by omega
        have v2 : j < k2 + 1 := by omega
        have v1' : (j : Int) < ((k1 + 1 : Nat) : Int) := by omega
        have v2' : (j : Int) < ((k2 + 1 : Nat) : Int) := by omega
        have v0 : (0 : Int) ≤ (j : Int) := by omega
        clear q1' q2' hb1 hb2
        by_cases hxy : x = y
        · obtain ⟨bt1, bt2⟩ := beqT hxy
          have HNX := Lib.hid (cl_next h H32.out HNE.out HCA.out (by rw [hxy]; exact HCB.out))
          have hX1 : 0 < X.length ∧ 0 < Y.length := by
            obtain ⟨y', A', z', B', i', n', eX, eY, _⟩ := HNX.out
            rw [eX, eY]; simp
          have hjd1 : j + 1 ≤ k1 := by have := congrArg List.length HA.out; rw [HA0.out, List.length_append, HP1.out, List.length_cons] at this; omega
          have hjd2 : j + 1 ≤ k2 := by have := congrArg List.length HBl.out; rw [HB0.out, List.length_append, HP2.out, List.length_cons] at this; omega
          clear hX1 hxy
          go_wp2_with fail
          go_quiet (fail)
          go_wp2
          go_roundw
          case rel =>
            obtain ⟨y', A', z', B', i', n', eX, eY, hh, c1', c2'⟩ := HNX.out
            exact ⟨j + 1, y', z', A', B', P1 ++ [x], P2 ++ [y], i', n', by go_num, hjd1, hjd2, Lib.hid (by rw [HA.out, eX]; simp), Lib.hid (by rw [HBl.out, eY]; simp), Lib.hid (by rw [List.length_append, HP1.out]; rfl), Lib.hid (by rw [List.length_append, HP2.out]; rfl), Lib.hid hh, Lib.hid c1', Lib.hid c2', Lib.hid (by repeat (first | exact HBo.out | refine below_drewN ?_ _ | refine Below.drew ?_))⟩
          case measure => simp [intOf]; omega
        · obtain ⟨bt1, bt2⟩ := beqF hxy
          have HFI : Hid (∀ W, Below w.heap.size w W → RU h w (.returned (.agg #[.string x, .string y])) W) := Lib.hid (fun W hW => ⟨x, y, rfl, hxy, HHH.out, cl_small H32.out HLA.out HCA.out, cl_small H32.out HLB.out HCB.out, hW⟩)
          have HPo := HP
          have HBro := HBr
          have HBr : Hid (Below w.heap.size w wr) := Lib.hid (HBro.out.trans (HBo.out.mono HBro.out.size))
          have HP : Hid (Blk wr (B + 1 + 1 + 1) 31 zpair) := Lib.hid (HPo.out.below HBo.out HPo.out.lt)
          clear HPo HBro hxy HA HBl HP1 HP2 HHH HCA HCB HBo
          go_wp2_with fail
          go_quiet (fail)
          have p0 : wr.cell? ⟨B + 1 + 1 + 1, 0, none⟩ = some (.string ⟨#[]⟩) := HP.out.cell 0
          have p1 : wr.cell? ⟨B + 1 + 1 + 1, 1, none⟩ = some (.string ⟨#[]⟩) := HP.out.cell 1
          have t0 := HP.out.frozen 0
          have t1 := HP.out.frozen 1
          have HRES := Lib.hid ((HP.out.set_ 0 (.string x)).set_ 1 (.string y))
          have HBF := Lib.hid ((HBr.out.setCell (p := ⟨B + 1 + 1 + 1, 0, none⟩) (by show w.heap.size ≤ B + 1 + 1 + 1; omega) (.string x)).setCell (p := ⟨B + 1 + 1 + 1, 1, none⟩) (by show w.heap.size ≤ B + 1 + 1 + 1; omega) (.string y))
          go_wp2_with fail
          go_region
          go_wp2
          try rw [Exit.noGoto_ret]
          refine bodyPost_ret (results_cell_row rfl _ _ (B + 1 + 1 + 1) 31 #[.string x, .string y] (0, 0) _ rfl HRES.out Try.underlying31 rfl infoPair) rfl ?_
          exact HFI.out _ ⟨HBF.out.os, HBF.out.tape, HBF.out.output, HBF.out.size, HBF.out.block⟩
end Go.Proofs.Ytfhfmfcmkiobdaa
