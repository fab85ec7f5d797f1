/-
  The reference's Ask and Cut, as the laws of layer 11 want them. slices.Clone of requests, and of heads. A state's copy: slices of its own. The root of the map of pairs is that of the pairs of which each key's last one counts.
-/
import Derived.Test.YtakgolbgeeoioaaGreatSvMathYStateMLeaf
import Derived.Test.YtakgolbgeeoioaaGreatYCut
import Derived.Test.YtakgolbgeeoioaaGreatYAsk
import Derived.Test.YtakgolbgeeoioaaGreatYSlYStYFirst
import Derived.Test.YtakgolbgeeoioaaGreatSMadeMSEntMSRootLSRefV1
import Derived.Test.YtakgolbgeeoioaaGreatSRefV2
import Derived.Test.YtakgolbgeeoioaaGreatYLeavesSEntSSrt
namespace Go.Proofs.YtakgolbgeeoioaaGreat
open Go.RowKit

theorem raskC : RAskC := by
 intro P cs W r w hB hi hs h
 obtain ⟨a, b, c, rfl, ⟨oa, ca, rfl, hA, hca, hoa, ga⟩, ⟨ob, cb, rfl, hR, hcb, hob, gb⟩, ⟨oc, cc, rfl, hC, hcc, hoc, gc⟩⟩ := h
 have hm := hi.most
 have hh := hi.heads
 have key := raskW_any oa ob oc ca W.tk.length cb W.hd.length cc W.tk W.rp r.c r.q r.l r.k r.v rfl hi.len (by omega) (by omega) hca (by rw [← hi.len]; exact hcb) hoa hob hs w hA hR
 rw [hi.len]
 refine key.mono ?_
 rintro e w' ⟨va, vb, rfl, h1, h2, hb⟩
 exact ⟨_, rfl, ⟨va, vb, _, rfl, h1.slP ga hB, h2.slP gb hB, SlP.below ⟨oc, cc, rfl, hC, hcc, hoc, gc⟩ hb⟩, hb⟩
theorem rcutC : RCutC := by
 intro P cs W now w hB hi h
 obtain ⟨a, b, c, rfl, ⟨oa, ca, rfl, hA, hca, hoa, ga⟩, ⟨ob, cb, rfl, hR, hcb, hob, gb⟩, ⟨oc, cc, rfl, hC, hcc, hoc, gc⟩⟩ := h
 have hm := hi.most
 have hh := hi.heads
 have key := rcutW_any oa ob oc W.tk.length ca W.rp.length cb W.hd.length cc W.tk W.hd now rfl hm rfl (by omega) hcc hoc hi.szq w hA hC
 refine key.mono ?_
 rintro e w' ⟨vc, rfl, h1, hb⟩
 exact ⟨_, rfl, ⟨_, _, vc, rfl, SlP.below ⟨oa, ca, rfl, hA, hca, hoa, ga⟩ hb, SlP.below ⟨ob, cb, rfl, hR, hcb, hob, gb⟩ hb, h1.slP gc hB⟩, hb⟩
end Go.Proofs.YtakgolbgeeoioaaGreat
namespace Go.Proofs.YtakgolbgeeoioaaGreat
open Go.RowKit

set_option maxRecDepth 100000 in
set_option maxHeartbeats 1000000 in
theorem clone_reqs (oa : Option Addr) (n c : Nat) (ts : List Req) (hn : ts.length = n) (hlen : n ≤ 1048576) (hle : n ≤ c) (hna : oa = none → c = 0) (w : World) (ha : RowG reqK w oa ts) :
 Calls Tryz.prog 71 #[.slice oa n c] w (RG reqK ts w) := by
 have q : ∀ (W : World) (a : Option Addr) (n c n' c' : Nat), (binOp .eql 31 (.slice a n c) (.slice none n' c')).run Tryz.prog W = .ok (.bool a.isNone) W := fun W a n c n' c' => Lib.run_eql_slice_nil W _ _ a n c n' c' Tryz.underlying31
 have HRT := Lib.hid (show ∀ e w', RG reqK ts w e w' = ∃ v, e = .returned v ∧ OwnG reqK w' w.heap.size v ts ∧ Below w.heap.size w w' from fun _ _ => rfl)
 cases oa with
 | none =>
  obtain rfl : c = 0 := hna rfl
  obtain rfl : n = 0 := by omega
  obtain rfl : ts = [] := List.length_eq_zero_iff.1 hn
  generalize RG reqK [] w = PO at *
  go_enter Tryz.func71, Tryz.ntmps71
  go_wp2
  rw [HRT.out]
  exact ⟨_, rfl, ownG_nil _ _, Below.refl _ _⟩
 | some a =>
  have hm0 : OwnG reqK (w.alloc (.cells #[] 61)) w.heap.size (.slice (some ⟨w.heap.size, 0, none⟩) 0 0) [] := ownG_lit reqOk w w.heap.size (Nat.le_refl _)
  have hB0 := (Below.refl _ w).alloc (Nat.le_refl _) (.cells #[] 61)
  obtain ⟨v', w', hr, hown', hg'⟩ := append_g reqOk hm0 (some a) n c hn (ha.below hB0) (fun _ h => by cases h) (by simp; omega) (by simp)
  have hr : (Builtin.append_ #[31, 31] 31 #[.slice (some ⟨w.heap.size, 0, none⟩) 0 0, .slice (some a) n c]).run Tryz.prog (w.alloc (.cells #[] 61)) = .ok v' w' := hr
  have hB' := ownG_below hB0 hm0 (Nat.le_refl _) hg'
  have HO := Lib.hid hown'
  generalize RG reqK ts w = PO at *
  clear hown' hg' hm0
  go_enter Tryz.func71, Tryz.ntmps71
  go_wp2_with (at_builtin; refine Lib.wpList_append_run _ rfl _ _ 31 31 rfl _ _ rfl rfl _ _ hr ?_)
  go_wp2
  rw [HRT.out]
  exact ⟨_, rfl, by simpa using HO.out, hB'⟩
set_option maxRecDepth 100000 in
set_option maxHeartbeats 1000000 in
theorem clone_heads (oa : Option Addr) (n c : Nat) (ts : List Hd) (hn : ts.length = n) (hlen : n ≤ 1048576) (hle : n ≤ c) (hna : oa = none → c = 0) (w : World) (ha : RowG hdK w oa ts) :
 Calls Tryz.prog 72 #[.slice oa n c] w (RG hdK ts w) := by
 have q : ∀ (W : World) (a : Option Addr) (n c n' c' : Nat), (binOp .eql 38 (.slice a n c) (.slice none n' c')).run Tryz.prog W = .ok (.bool a.isNone) W := fun W a n c n' c' => Lib.run_eql_slice_nil W _ _ a n c n' c' Tryz.underlying38
 have HRT := Lib.hid (show ∀ e w', RG hdK ts w e w' = ∃ v, e = .returned v ∧ OwnG hdK w' w.heap.size v ts ∧ Below w.heap.size w w' from fun _ _ => rfl)
 cases oa with
 | none =>
  obtain rfl : c = 0 := hna rfl
  obtain rfl : n = 0 := by omega
  obtain rfl : ts = [] := List.length_eq_zero_iff.1 hn
  generalize RG hdK [] w = PO at *
  go_enter Tryz.func72, Tryz.ntmps72
  go_wp2
  rw [HRT.out]
  exact ⟨_, rfl, ownG_nil _ _, Below.refl _ _⟩
 | some a =>
  have hm0 : OwnG hdK (w.alloc (.cells #[] 51)) w.heap.size (.slice (some ⟨w.heap.size, 0, none⟩) 0 0) [] := ownG_lit hdOk w w.heap.size (Nat.le_refl _)
  have hB0 := (Below.refl _ w).alloc (Nat.le_refl _) (.cells #[] 51)
  obtain ⟨v', w', hr, hown', hg'⟩ := append_g hdOk hm0 (some a) n c hn (ha.below hB0) (fun _ h => by cases h) (by simp; omega) (by simp)
  have hr : (Builtin.append_ #[38, 38] 38 #[.slice (some ⟨w.heap.size, 0, none⟩) 0 0, .slice (some a) n c]).run Tryz.prog (w.alloc (.cells #[] 51)) = .ok v' w' := hr
  have hB' := ownG_below hB0 hm0 (Nat.le_refl _) hg'
  have HO := Lib.hid hown'
  generalize RG hdK ts w = PO at *
  clear hown' hg' hm0
  go_enter Tryz.func72, Tryz.ntmps72
  go_wp2_with (at_builtin; refine Lib.wpList_append_run _ rfl _ _ 38 38 rfl _ _ rfl rfl _ _ hr ?_)
  go_wp2
  rw [HRT.out]
  exact ⟨_, rfl, by simpa using HO.out, hB'⟩
end Go.Proofs.YtakgolbgeeoioaaGreat
namespace Go.Proofs.YtakgolbgeeoioaaGreat
open Go.RowKit

/-- what a copy is: slices that the call made, the heads' behind the requests' -/
def RCopy (x y z u : Lst) (tk : List Req) (hd : List Hd) (w : World) (e : Ending) (w' : World) : Prop := ∃ a b B, e = .returned (.agg (cellsS a x y z u b)) ∧ OwnG reqK w' w.heap.size a tk ∧ OwnG hdK w' B b hd ∧ w.heap.size ≤ B ∧ (∀ g, a.ownBlock = some g → g < B) ∧ B ≤ w'.heap.size ∧ Below w.heap.size w w'
section
attribute [-go_sem] loadVar
set_option maxRecDepth 100000 in
set_option maxHeartbeats 1000000 in
theorem copied_any (B0 : Nat) (va vb : Value) (x y z u : Lst) (tk : List Req) (hd : List Hd) (htk : tk.length ≤ 1000) (hhd : hd.length ≤ 1000) (w : World) (hA : SlB reqK w B0 va tk) (hD : SlB hdK w B0 vb hd) :
 Calls Tryz.prog 45 #[.agg (cellsS va x y z u vb)] w (RCopy x y z u tk hd w) := by
 have HRC := Lib.hid (show ∀ e w', RCopy x y z u tk hd w e w' = ∃ a b B, e = .returned (.agg (cellsS a x y z u b)) ∧ OwnG reqK w' w.heap.size a tk ∧ OwnG hdK w' B b hd ∧ w.heap.size ≤ B ∧ (∀ g, a.ownBlock = some g → g < B) ∧ B ≤ w'.heap.size ∧ Below w.heap.size w w' from fun _ _ => rfl)
 obtain ⟨oa, ca, rfl, hA1, hA2, hA3, _⟩ := hA
 obtain ⟨ob, cb, rfl, hD1, hD2, hD3, _⟩ := hD
 obtain ⟨n, hn⟩ : ∃ n, tk.length = n := ⟨_, rfl⟩
 obtain ⟨m, hm⟩ : ∃ m, hd.length = m := ⟨_, rfl⟩
 rw [hn] at hA2 htk ⊢
 rw [hm] at hD2 hhd ⊢
 have HC1 : Hid (∀ W, Below w.heap.size w W → Calls Tryz.prog 71 #[.slice oa n ca] W fun e w' => ∃ o c, e = .returned (.slice o n c) ∧ OwnG reqK w' W.heap.size (.slice o n c) tk ∧ Below W.heap.size W w') := Lib.hid fun W hW => by
  refine (clone_reqs oa n ca tk hn (by omega) hA2 hA3 W (hA1.below hW)).mono ?_
  rintro e w' ⟨v, rfl, hv, hb⟩
  obtain ⟨o, c, rfl, _⟩ := hv.form reqOk
  rw [hn] at hv ⊢
  exact ⟨o, c, rfl, hv, hb⟩
 have HC2 : Hid (∀ W, Below w.heap.size w W → Calls Tryz.prog 72 #[.slice ob m cb] W fun e w' => ∃ o c, e = .returned (.slice o m c) ∧ OwnG hdK w' W.heap.size (.slice o m c) hd ∧ Below W.heap.size W w') := Lib.hid fun W hW => by
  refine (clone_heads ob m cb hd hm (by omega) hD2 hD3 W (hD1.below hW)).mono ?_
  rintro e w' ⟨v, rfl, hv, hb⟩
  obtain ⟨o, c, rfl, _⟩ := hv.form hdOk
  rw [hm] at hv ⊢
  exact ⟨o, c, rfl, hv, hb⟩
 have hz := zeroS
 obtain ⟨w0, hw0⟩ : ∃ w0, (w.alloc (.cells (cellsS (.slice oa n ca) x y z u (.slice ob m cb)) 40)).alloc (.cells zeroSt 40) = w0 := ⟨_, rfl⟩
 have hb0 : Below w.heap.size w w0 := by rw [← hw0]; exact ((Below.refl _ w).alloc (Nat.le_refl _) _).alloc (by simp) _
 have k0 : Blk w0 w.heap.size 40 (cellsS (.slice oa n ca) x y z u (.slice ob m cb)) := by rw [← hw0]; exact (Blk.new _ _ _).alloc _
 have k1 : Blk w0 (w.heap.size + 1) 40 zeroSt := by rw [← hw0]; exact Blk.new_at (by simp)
 have HW0 := Lib.hid hw0
 clear hw0 hA1 hA2 hA3 hD1 hD2 hD3 hn hm htk hhd
 generalize RCopy x y z u tk hd w = PO at *
 have HC := Lib.hid (fun a b v => (show (cellsS a x y z u b).setIfInBounds 0 v = cellsS v x y z u b from rfl))
 have HD := Lib.hid (fun a b v => (show (cellsS a x y z u b).setIfInBounds 21 v = cellsS a x y z u v from rfl))
 have l0 := sl_req (w := w0) (p := ⟨w.heap.size, 0, none⟩) (k0.cell 0)
 change (loadVar 31 _).run Tryz.prog w0 = .ok (.slice oa n ca) w0 at l0
 have K0 := Lib.hid k0
 have K1 := Lib.hid k1
 have B0' := Lib.hid hb0
 clear k0 k1 hb0
 go_enter Tryz.func45, Tryz.ntmps45
 go_wp2_with (rw [HW0.out])
 refine (HC1.out w0 B0'.out).mono ?_
 rintro e w1 ⟨o1, c1, rfl, hv1, hb1⟩
 have q1 := (K0.out.below hb1 K0.out.lt).cell 0
 change w1.cell? _ = some (.slice oa n ca) at q1
 have f1 := (K0.out.below hb1 K0.out.lt).frozen 0
 obtain ⟨w2, hw2⟩ : ∃ w2, w1.setCell ⟨w.heap.size, 0, none⟩ (.slice o1 n c1) = w2 := ⟨_, rfl⟩
 have k2 : Blk w2 w.heap.size 40 (cellsS (.slice o1 n c1) x y z u (.slice ob m cb)) := by
  rw [← hw2, ← HC.out (.slice oa n ca) (.slice ob m cb)]
  exact (K0.out.below hb1 K0.out.lt).set_ 0 _
 have k3 : Blk w2 (w.heap.size + 1) 40 zeroSt := by
  rw [← hw2]
  exact (K1.out.below hb1 K1.out.lt).far (p := ⟨w.heap.size, 0, none⟩) (by show w.heap.size + 1 ≠ w.heap.size; omega) _
 have hg2 : w1.grownBy w2 (some w.heap.size) := by rw [← hw2]; exact grownG_setCell w1 ⟨w.heap.size, 0, none⟩ _
 have hv2 : OwnG reqK w2 w0.heap.size (.slice o1 n c1) tk := hv1.grown hg2 (by
  cases ho : (Value.slice o1 n c1).ownBlock with
  | none => exact .inl rfl
  | some q => refine .inr (fun e => ?_); have h1 := (World.ownsRow.lt hv1 q ho).1; have h2 := K0.out.lt; injection e with e; omega)
 have hb2 : Below w.heap.size w w2 := by rw [← hw2]; exact (B0'.out.trans (hb1.mono B0'.out.size)).setCell (p := ⟨w.heap.size, 0, none⟩) (Nat.le_refl _) _
 have HW2 := Lib.hid hw2
 have K2 := Lib.hid k2
 have K3 := Lib.hid k3
 have HV2 := Lib.hid hv2
 have HB2 := Lib.hid hb2
 have HB12 : w1.heap.size = w2.heap.size := by rw [← hw2]; simp [World.setCell]
 have l2 := sl_hd (w := w2) (p := ⟨w.heap.size, 21, none⟩) (K2.out.cell 21)
 change (loadVar 38 _).run Tryz.prog w2 = .ok (.slice ob m cb) w2 at l2
 clear hw2 k2 k3 hv1 hv2 hb2 hg2 l0
 go_wp2_with (rw [HW2.out])
 refine (HC2.out w2 HB2.out).mono ?_
 rintro e w3 ⟨o3, c3, rfl, hv3, hb3⟩
 clear q1 f1
 have q3 := (K2.out.below hb3 K2.out.lt).cell 21
 change w3.cell? _ = some (.slice ob m cb) at q3
 have f3 := (K2.out.below hb3 K2.out.lt).frozen 21
 obtain ⟨w4, hw4⟩ : ∃ w4, w3.setCell ⟨w.heap.size, 21, none⟩ (.slice o3 m c3) = w4 := ⟨_, rfl⟩
 have k4 : Blk w4 w.heap.size 40 (cellsS (.slice o1 n c1) x y z u (.slice o3 m c3)) := by
  rw [← hw4, ← HD.out (.slice o1 n c1) (.slice ob m cb)]
  exact (K2.out.below hb3 K2.out.lt).set_ 21 _
 have k5 : Blk w4 (w.heap.size + 1) 40 zeroSt := by
  rw [← hw4]
  exact (K3.out.below hb3 K3.out.lt).far (p := ⟨w.heap.size, 21, none⟩) (by show w.heap.size + 1 ≠ w.heap.size; omega) _
 have hg4 : w3.grownBy w4 (some w.heap.size) := by rw [← hw4]; exact grownG_setCell w3 ⟨w.heap.size, 21, none⟩ _
 have hlt := K0.out.lt
 have hs12 := hb1.size
 have hv4 : OwnG reqK w4 w0.heap.size (.slice o1 n c1) tk := (HV2.out.below hb3).grown hg4 (by
  cases ho : (Value.slice o1 n c1).ownBlock with
  | none => exact .inl rfl
  | some q => refine .inr (fun e => ?_); have h1 := (World.ownsRow.lt HV2.out q ho).1; injection e with e; omega)
 have hv5 : OwnG hdK w4 w2.heap.size (.slice o3 m c3) hd := hv3.grown hg4 (by
  cases ho : (Value.slice o3 m c3).ownBlock with
  | none => exact .inl rfl
  | some q => refine .inr (fun e => ?_); have h1 := (World.ownsRow.lt hv3 q ho).1; injection e with e; omega)
 have hb4 : Below w.heap.size w w4 := by rw [← hw4]; exact (HB2.out.trans (hb3.mono HB2.out.size)).setCell (p := ⟨w.heap.size, 21, none⟩) (Nat.le_refl _) _
 have hs34 : w3.heap.size = w4.heap.size := by rw [← hw4]; simp [World.setCell]
 have hs23 := hb3.size
 have HW4 := Lib.hid hw4
 have l4 := st_load (cellsS_size _ _ _ _ _ _) k4
 have HK4 := Lib.hid k4
 have HK5 := Lib.hid k5
 have HL : Hid (∀ q, (Value.slice o1 n c1).ownBlock = some q → q < w2.heap.size) := Lib.hid fun q ho => (World.ownsRow.lt HV2.out q ho).2
 have HV4 := Lib.hid hv4
 have HV5 := Lib.hid hv5
 have HB4 := Lib.hid hb4
 clear hw4 k4 k5 hv3 hv4 hv5 hg4 hb4 l2
 have HI := Lib.hid (show (Tryz.prog.info? 40).map (·.size) = some (cellsS (.slice o1 n c1) x y z u (.slice o3 m c3)).size from infoS)
 have HZ := Lib.hid (show zeroSt.size = (cellsS (.slice o1 n c1) x y z u (.slice o3 m c3)).size from rfl)
 have HO1 := Lib.hid (cellsS_one o1 o3 n m c1 c3 x y z u)
 have HFIN : Hid (∀ W, OwnG reqK W w0.heap.size (.slice o1 n c1) tk → OwnG hdK W w2.heap.size (.slice o3 m c3) hd → w2.heap.size ≤ W.heap.size → Below w.heap.size w W → PO (.returned (.agg (cellsS (.slice o1 n c1) x y z u (.slice o3 m c3)))) W) := Lib.hid fun W h1 h2 h3 h4 => by
  rw [HRC.out]
  exact ⟨_, _, w2.heap.size, rfl, h1.mono (by omega), h2, by omega, HL.out, h3, h4⟩
 clear HRC
 generalize cellsS (.slice o1 n c1) x y z u (.slice o3 m c3) = C4 at *
 go_wp2_with (first
  | rw [HW4.out]
  | (refine wpList_store_row rfl 40 _ _ rfl (w.heap.size + 1) C4 rfl rfl 40 zeroSt HK5.out HI.out HZ.out HO1.out ?_))
 have k6 : Blk (w4.setRow (w.heap.size + 1) C4) (w.heap.size + 1) 40 C4 := setRow_heap w4 (w.heap.size + 1) zeroSt C4 40 (0, 0) HK5.out
 have hg6 : w4.grownBy (w4.setRow (w.heap.size + 1) C4) (some (w.heap.size + 1)) := only_setRow (grown_refl _ _) _
 refine bodyPost_ret (results_cell_row rfl _ _ (w.heap.size + 1) 40 C4 (0, 0) _ rfl k6 Tryz.underlying40 rfl HI.out) rfl ?_
 have hlt1 := K1.out.lt
 have hs6 : (w4.setRow (w.heap.size + 1) C4).heap.size = w4.heap.size := by simp
 refine HFIN.out _ (HV4.out.grown hg6 ?_) (HV5.out.grown hg6 ?_) (by omega) ((HB4.out.grown hg6 HB4.out.size (fun k hk => by injection hk; omega)))
 · cases ho : (Value.slice o1 n c1).ownBlock with
   | none => exact .inl rfl
   | some q => refine .inr (fun e => ?_); have h1 := (World.ownsRow.lt HV4.out q ho).1; injection e with e; omega
 · cases ho : (Value.slice o3 m c3).ownBlock with
   | none => exact .inl rfl
   | some q => refine .inr (fun e => ?_); have h1 := (World.ownsRow.lt HV5.out q ho).1; injection e with e; omega
end
end Go.Proofs.YtakgolbgeeoioaaGreat
namespace Go.Proofs.YtakgolbgeeoioaaGreat
open Go.RowKit Go.Sort Go.Maps

theorem last_lookP (ps : List (ByteArray × ByteArray)) (x : ByteArray) : lookP (lastK ps ps.length) x = lookP ps x := by
 have h1 := last_look ps ps.length (Nat.le_refl _) x (fun j h1 h2 => absurd h2 (by omega))
 rwa [List.take_length] at h1
theorem toArr_data (x : List UInt8) : (⟨x.toArray⟩ : ByteArray).data.toList = x := by simp
theorem last_keys {w : World} {b : Nat} {ps : List (ByteArray × ByteArray)} (h : MapAt w b ps) : ((lastK ps ps.length).map (·.1)).Perm (keysD (madeL ps)) := by
 have hap := last_apart ps ps.length (Nat.le_refl _)
 obtain ⟨es, hD, hpw, _⟩ := World.ownsMap.entries h keyed
 obtain ⟨es', hD', hko⟩ := World.ownsMap.keysOf h
 obtain rfl : es = es' := by rw [hD] at hD'; simpa using hD'
 have hp := perm_strKeys (es := es) hpw (fun p hp => by obtain ⟨v, hv⟩ := hko p hp; obtain ⟨x, _, hx, _⟩ := Maps.keyOf_str Tryz.underlying9 hv; exact ⟨x, hx⟩) (ss := (lastK ps ps.length).map fun p => p.1.data.toList)
  (List.pairwise_map.2 (hap.imp fun {a c} hne e => hne (ByteArray.ext (Array.toList_inj.1 e)))) (fun x => by
   rw [← hD]
   have hx := made_has ps ⟨x.toArray⟩
   rw [show litK (⟨x.toArray⟩ : ByteArray) = .string x by simp [litK]] at hx
   rw [hx, ← last_lookP, Option.isSome_iff_exists, List.mem_map]
   constructor
   · rintro ⟨p, hp, rfl⟩
     refine ⟨p.2, (look_mem hap _ _).2 ?_⟩
     rw [show (⟨p.1.data.toList.toArray⟩ : ByteArray) = p.1 from of_toList p.1]
     exact hp
   · rintro ⟨v, hv⟩
     exact ⟨(⟨x.toArray⟩, v), (look_mem hap _ _).1 hv, toArr_data x⟩)
 rw [← hD] at hp
 have h2 := hp.map fun l : List UInt8 => (⟨l.toArray⟩ : ByteArray)
 rw [List.map_map] at h2
 have e : (lastK ps ps.length).map ((fun l : List UInt8 => (⟨l.toArray⟩ : ByteArray)) ∘ fun p => p.1.data.toList) = (lastK ps ps.length).map (·.1) := List.map_congr_left fun p _ => of_toList p.1
 rw [e] at h2
 exact h2
theorem last_val {ps : List (ByteArray × ByteArray)} {p : ByteArray × ByteArray} (hp : p ∈ lastK ps ps.length) : valD (madeL ps) p.1 = p.2 := by
 refine valD_of fun zd => ?_
 rw [made_at]
 have h1 := (look_mem (last_apart ps ps.length (Nat.le_refl _)) p.1 p.2).2 hp
 rw [last_lookP] at h1
 rw [h1]
theorem ents_last {w : World} {b : Nat} {ps : List (ByteArray × ByteArray)} (h : MapAt w b ps) : (entsD (madeL ps)).Perm ((lastK ps ps.length).map entP) := by
 have h1 : (srt (keysD (madeL ps))).Perm ((lastK ps ps.length).map (·.1)) := (List.mergeSort_perm (keysD (madeL ps)) _).trans (last_keys h).symm
 have h2 := h1.map (entK (valD (madeL ps)))
 rw [List.map_map] at h2
 have e : (lastK ps ps.length).map (entK (valD (madeL ps)) ∘ fun p => p.1) = (lastK ps ps.length).map entP := List.map_congr_left fun p hp => by
  show entK (valD (madeL ps)) p.1 = entP p
  unfold entK entP
  rw [last_val hp]
 rw [e] at h2
 exact h2
theorem last_apart1 (ps : List (ByteArray × ByteArray)) : Apart1 ((lastK ps ps.length).map entP) := List.pairwise_map.2 ((last_apart ps ps.length (Nat.le_refl _)).imp fun h => h)
/-- the two roots are one -/
theorem root_last {w : World} {b : Nat} {ps : List (ByteArray × ByteArray)} (h : MapAt w b ps) : rootL 256 ((lastK ps ps.length).map entP) = rootK 256 (entsD (madeL ps)) := by
 rw [← rootL_rootK 256 0 (entsD (madeL ps)) rfl (ents_good _) (ents_byKey _)]
 exact rootL_perm 256 (ents_last h).symm (last_apart1 ps)
end Go.Proofs.YtakgolbgeeoioaaGreat
