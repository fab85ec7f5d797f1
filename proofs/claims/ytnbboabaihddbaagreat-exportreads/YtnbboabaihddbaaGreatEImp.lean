/-
 Import: the state of bytes.
-/
import Derived.Test.YtnbboabaihddbaaGreatERead
import Derived.Test.YtnbboabaihddbaaGreatEPre
namespace Go.Proofs.YtnbboabaihddbaaGreat
open Go.RowKit

/-- what Import answers -/
def RImp (b : ByteArray) (w : World) (e : Ending) (w' : World) : Prop :=
 ((e = .returned (.tuple #[.agg zeroSt, .int .i64 2]) ∧ ∀ V, OwnW V → expB V ≠ b) ∨
  (∃ W cs, e = .returned (.tuple #[.agg cs, .int .i64 0]) ∧ StC w' (geP w.heap.size) cs W ∧ InvW W ∧ expB W = b ∧ ∀ V, OwnW V → expB V = b → V = W)) ∧ Below w.heap.size w w'
theorem imp_own {b : ByteArray} {hs : List Hd} (hh : HdsOf (lsT (b2E b)) hs) {V : Wd} (hV : OwnW V) (e : expB V = b) : mkE ((lsT (b1E b)).map rqE) hs = some V := by
 obtain ⟨_, a1, a2⟩ := exp_read hV.1 hV.2.1
 rw [e] at a1 a2
 rw [a2] at hh
 rw [a1, hds_read hV.1 hV.2.1 hh.1 hh.2, mkE_bar]
 exact hV.mk
section
attribute [-go_sem] loadVar
set_option maxRecDepth 100000 in
set_option maxHeartbeats 2000000 in
theorem import_any (b : ByteArray) (hb : b.size ≤ 268435456) (w : World) : Calls Tryz.prog 15 #[.agg tabV, .string b] w (RImp b w) := by
 have HRI := Lib.hid (show ∀ e w', RImp b w e w' = (((e = .returned (.tuple #[.agg zeroSt, .int .i64 2]) ∧ ∀ V, OwnW V → expB V ≠ b) ∨
  (∃ W cs, e = .returned (.tuple #[.agg cs, .int .i64 0]) ∧ StC w' (geP w.heap.size) cs W ∧ InvW W ∧ expB W = b ∧ ∀ V, OwnW V → expB V = b → V = W)) ∧ Below w.heap.size w w') from fun _ _ => rfl)
 have HRD := Lib.hid (fun X => eread_any b hb X)
 have HRE := Lib.hid (show ∀ X e w', RdE b X e w' = (((okE b = false ∧ e = .returned (.tuple #[.slice none 0 0, .slice none 0 0, .bool false])) ∨
  (okE b = true ∧ ∃ v1 v2 hs, e = .returned (.tuple #[v1, v2, .bool true]) ∧ OwnG reqK w' X.heap.size v1 ((lsT (b1E b)).map rqE) ∧ OwnG hdK w' X.heap.size v2 hs ∧ HdsOf (lsT (b2E b)) hs)) ∧ Below X.heap.size X w') from fun _ _ _ => rfl)
 have HN : Hid (okE b = true → (lsT (b1E b)).length ≤ 1000 ∧ (lsT (b2E b)).length ≤ 1000 ∧ ∀ r ∈ (lsT (b1E b)).map rqE, smallB r = true) := Lib.hid fun h => by
  unfold okE at h
  rw [Bool.and_eq_true, Bool.and_eq_true] at h
  obtain ⟨h1, h2, h3⟩ := h
  have key : ∀ x, okList x = true → (lsT x).length ≤ 1000 := fun x hx => by
   unfold okList at hx
   rw [Bool.and_eq_true, decide_eq_true_iff] at hx
   unfold lsT
   rw [rdT_length]
   exact hx.1
  refine ⟨key _ h1, key _ h2, fun r hr => ?_⟩
  obtain ⟨s, hs, rfl⟩ := List.mem_map.1 hr
  exact okReq_small (List.all_eq_true.1 h3 s hs)
 have HNO : Hid (okE b = false → ∀ V, OwnW V → expB V ≠ b) := Lib.hid fun h V hV e => by
  have := (exp_read hV.1 hV.2.1).1
  rw [e, h] at this
  cases this
 have HOW : Hid (∀ hs, HdsOf (lsT (b2E b)) hs → ∀ V, OwnW V → expB V = b → mkE ((lsT (b1E b)).map rqE) hs = some V) := Lib.hid fun hs hh V hV e => imp_own hh hV e
 have HEX := Lib.hid export_any
 have HZ := Lib.hid zeroS
 have z1 := HZ.out
 obtain ⟨w0, hw0⟩ : ∃ w0, (w.alloc (.cells tabV 30)).alloc (.cells zeroSt 41) = w0 := ⟨_, rfl⟩
 have hsz0 : w0.heap.size = w.heap.size + 2 := by rw [← hw0]; simp
 have kT : Blk w0 w.heap.size 30 tabV := by rw [← hw0]; exact (Blk.new _ _ _).alloc _
 have k4 : Blk w0 (w.heap.size + 1) 41 zeroSt := by rw [← hw0]; exact Blk.new_at (by simp)
 have hb0 : Below w.heap.size w w0 := by rw [← hw0]; exact ((Below.refl _ w).alloc (Nat.le_refl _) _).alloc (by simp) _
 have HW0 := Lib.hid hw0
 clear hw0
 generalize hTA : (lsT (b1E b)).map rqE = TL at *
 have HTA : Hid (TL.length = (lsT (b1E b)).length) := Lib.hid (by rw [← hTA, List.length_map])
 generalize (lsT (b1E b)).length = NL at *
 generalize lsT (b2E b) = TB at *
 generalize okE b = OK at *
 generalize RdE b = RD at *
 generalize RImp b w = PO at *
 clear hTA
 go_enter Tryz.func15, Tryz.ntmps15
 go_wp2_with (rw [HW0.out])
 refine (HRD.out _).mono ?_
 rintro e w1 he
 rw [HRE.out] at he
 obtain ⟨he, hb1⟩ := he
 have hB1 := hb0.trans (hb1.mono hb0.size)
 replace kT := kT.below hb1 kT.lt
 replace k4 := k4.below hb1 k4.lt
 have hsz1 : w.heap.size + 2 ≤ w1.heap.size := by have := hb1.size; omega
 clear hb0 hb1 HRD HRE HW0
 rcases he with ⟨hok, rfl⟩ | ⟨hok, v1, v2, hs, rfl, hv1, hv2, hh⟩
 · have HV := Lib.hid (HNO.out hok)
   clear hok
   go_wp2_with (refine wpList_store_row rfl 41 _ _ rfl (w.heap.size + 1) zeroSt rfl rfl 41 zeroSt k4 infoS rfl zeroSt_one ?_)
   refine bodyPost_ret (results_row_tmp rfl _ _ (w.heap.size + 1) 41 zeroSt _ rfl (blk_setRow k4 _) Tryz.underlying41 rfl infoS) rfl ?_
   rw [HRI.out]
   exact ⟨.inl ⟨rfl, HV.out⟩, below_setRow hB1 (by omega) _⟩
 · obtain ⟨hn1, hn2, hsm⟩ := HN.out hok
   obtain ⟨oa, ca, rfl, hA, _, _, _⟩ := hv1.form reqOk
   obtain ⟨ob, cb, rfl, hB, hcb, _, _⟩ := hv2.form hdOk
   have HOV := Lib.hid (HOW.out hs hh)
   have HPR := Lib.hid (fun X hX hY => prefix_any oa ob TL.length ca hs.length cb TL hs rfl rfl (by rw [HTA.out]; omega) (by rw [hh.1]; omega) hcb hsm X hX hY)
   have HRP := Lib.hid (show ∀ X e w', RPre TL hs X e w' = (((mkE TL hs = none ∧ e = .returned (.tuple #[.agg zeroSt, .int .i64 2])) ∨
    (∃ W cs, mkE TL hs = some W ∧ InvW W ∧ e = .returned (.tuple #[.agg cs, .int .i64 0]) ∧ StC w' (geP X.heap.size) cs W)) ∧ Below X.heap.size X w') from fun _ _ _ => rfl)
   have HHA := Lib.hid (And.intro hA hB)
   generalize RPre TL hs = RP at *
   generalize TL.length = nl at *
   generalize hs.length = nh at *
   have lT := tab_run kT
   clear hok hv1 hv2 hh hn1 hn2 hsm hA hB hcb HN HNO HOW HTA kT
   go_wp2_with fail
   refine (HPR.out w1 HHA.out.1 HHA.out.2).mono ?_
   rintro e w2 he
   rw [HRP.out] at he
   obtain ⟨he, hb2⟩ := he
   have hB2 := hB1.trans (hb2.mono hB1.size)
   have hsz2 : w.heap.size + 2 ≤ w2.heap.size := by have := hb2.size; omega
   replace k4 := k4.below hb2 k4.lt
   clear hB1 hb2 HPR HRP HHA lT
   rcases he with ⟨hmk, rfl⟩ | ⟨W, cs, hmk, hi, rfl, hS⟩
   · have HV : Hid (∀ V, OwnW V → expB V ≠ b) := Lib.hid fun V hV e => by
      have := HOV.out V hV e
      rw [hmk] at this
      cases this
     clear hmk
     have hB3 := hB2.alloc hB2.size (.cells zeroSt 41)
     have k43 : Blk (w2.alloc (.cells zeroSt 41)) (w.heap.size + 1) 41 zeroSt := k4.alloc _
     have HK4 := Lib.hid k43
     go_wp2_with (first
      | (refine wpList_store_row rfl 41 _ _ rfl w2.heap.size zeroSt rfl rfl 41 zeroSt (Blk.new _ _ _) infoS rfl zeroSt_one ?_; rw [World.setRow_alloc_new])
      | (refine wpList_store_row rfl 41 _ _ rfl (w.heap.size + 1) zeroSt rfl rfl 41 zeroSt HK4.out infoS rfl zeroSt_one ?_))
     refine bodyPost_ret (results_row_tmp rfl _ _ (w.heap.size + 1) 41 zeroSt _ rfl (blk_setRow HK4.out _) Tryz.underlying41 rfl infoS) rfl ?_
     rw [HRI.out]
     exact ⟨.inl ⟨rfl, HV.out⟩, below_setRow hB3 (by omega) _⟩
   · have HVW : Hid (∀ V, OwnW V → expB V = b → V = W) := Lib.hid fun V hV e => by
      have := HOV.out V hV e
      rw [hmk] at this
      injection this with this
      exact this.symm
     have HIN := Lib.hid hi
     have hsz : cs.size = 22 := hS.size
     have HIS : Hid ((Tryz.prog.info? 41).map (·.size) = some (cs : Array Value).size) := Lib.hid (by rw [hsz]; exact infoS)
     have HOS := Lib.hid hS.one
     have HCS : Hid ((zeroSt : Array Value).size = cs.size) := Lib.hid (by rw [hsz]; rfl)
     obtain ⟨w3, hw3⟩ : ∃ w3, w2.alloc (.cells cs 41) = w3 := ⟨_, rfl⟩
     have hb3 : Below w2.heap.size w2 w3 := by rw [← hw3]; exact (Below.refl _ w2).alloc (Nat.le_refl _) _
     have k9 : Blk w3 w2.heap.size 41 cs := by rw [← hw3]; exact Blk.new _ _ _
     have hB3 := hB2.trans (hb3.mono hB2.size)
     have hS3 := hS.below hb3
     have k43 := k4.below hb3 k4.lt
     have HEX3 := Lib.hid (HEX.out _ cs W HIN.out w3 hS3)
     have HW3 := Lib.hid hw3
     have d9 := st_load hsz k9
     have HS3 := Lib.hid hS3
     clear hw3 hb3 hB2 hS k4 hmk hi hS3 HEX HOV
     obtain ⟨EX, hEX⟩ : ∃ EX, expB W = EX := ⟨_, rfl⟩
     rw [hEX] at HEX3
     have HEE := Lib.hid hEX
     clear hEX
     by_cases he : EX = b
     · subst he
       go_wp2_with (first
        | (refine wpList_store_row rfl 41 _ _ rfl w2.heap.size cs rfl rfl 41 zeroSt (Blk.new _ _ _) HIS.out HCS.out HOS.out ?_; rw [World.setRow_alloc_new, HW3.out]))
       refine HEX3.out.mono ?_
       rintro e w4 ⟨rfl, hb4⟩
       have k44 := k43.below hb4 k43.lt
       have k94 := k9.below hb4 k9.lt
       have d94 := st_load hsz k94
       have hB4 := hB3.trans (hb4.mono hB3.size)
       have HS4 := Lib.hid (HS3.out.below hb4)
       have HSZ := Lib.hid hsz
       clear d9 hB3 hb4 k43 k9 hsz k94
       go_wp2_with (refine wpList_store_row rfl 41 _ _ rfl (w.heap.size + 1) cs rfl rfl 41 zeroSt k44 HIS.out HCS.out HOS.out ?_)
       refine bodyPost_ret (results_row_tmp rfl _ _ (w.heap.size + 1) 41 cs _ rfl (setRow_heap w4 _ zeroSt cs 41 (0, 0) k44) Tryz.underlying41 rfl HIS.out) rfl ?_
       rw [HRI.out]
       exact ⟨.inr ⟨W, cs, rfl, (HS4.out.same (by simp) (fun q _ hq => setRow_other _ _ _ _ (by unfold geP at hq; omega))).imp (fun q _ hq => by unfold geP at hq ⊢; omega), HIN.out, HEE.out, HVW.out⟩, below_setRow hB4 (by omega) _⟩
     · have hne : (EX.toList == b.toList) = false := by
        rw [beq_eq_false_iff_ne, ByteArray.toList_eq, ByteArray.toList_eq]
        intro e
        exact he (by cases EX; cases b; simp_all)
       have HV : Hid (∀ V, OwnW V → expB V ≠ b) := Lib.hid fun V hV e => by
        have := HVW.out V hV e
        rw [this, HEE.out] at e
        exact he e
       clear he
       go_wp2_with (first
        | (refine wpList_store_row rfl 41 _ _ rfl w2.heap.size cs rfl rfl 41 zeroSt (Blk.new _ _ _) HIS.out HCS.out HOS.out ?_; rw [World.setRow_alloc_new, HW3.out]))
       refine HEX3.out.mono ?_
       rintro e w4 ⟨rfl, hb4⟩
       have k44 := k43.below hb4 k43.lt
       have hB4 := hB3.trans (hb4.mono hB3.size)
       clear d9 hB3 hb4 k43 k9 hsz
       go_wp2_with (refine wpList_store_row rfl 41 _ _ rfl (w.heap.size + 1) zeroSt rfl rfl 41 zeroSt k44 infoS rfl zeroSt_one ?_)
       refine bodyPost_ret (results_row_tmp rfl _ _ (w.heap.size + 1) 41 zeroSt _ rfl (blk_setRow k44 _) Tryz.underlying41 rfl infoS) rfl ?_
       rw [HRI.out]
       exact ⟨.inl ⟨rfl, HV.out⟩, below_setRow hB4 (by omega) _⟩
end
end Go.Proofs.YtnbboabaihddbaaGreat
