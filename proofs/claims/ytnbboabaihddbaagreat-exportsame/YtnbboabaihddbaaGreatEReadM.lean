/-
 What stands in bytes as a log, in plain words; a log's own bytes.
-/
import Derived.Test.YtnbboabaihddbaaGreatWMathQEMath
import Derived.Test.YtnbboabaihddbaaGreatECutM
namespace Go.Proofs.YtnbboabaihddbaaGreat
open Go.RowKit

theorem frE_app (a r : ByteArray) (n : Nat) (hn : n = a.size) : frE n (a ++ r) = a := by
 subst hn
 unfold frE
 rw [Nat.min_eq_left (by rw [ByteArray.size_append]; omega)]
 exact ext_left a r
theorem rsE_app (a r : ByteArray) (n : Nat) (hn : n = a.size) : rsE n (a ++ r) = r := by
 subst hn
 unfold rsE
 rw [Nat.min_eq_left (by rw [ByteArray.size_append]; omega)]
 exact ext_right a r
/-- the two lists -/
def b1E (b : ByteArray) : ByteArray := lfE (rsE 1 b)
def b2E (b : ByteArray) : ByteArray := lcE (rsE 1 b)
theorem b12_size (b : ByteArray) : (b1E b).size ≤ b.size ∧ (b2E b).size ≤ b.size := by
 have h1 := lfE_size (rsE 1 b)
 have h2 := lcE_size (rsE 1 b)
 rw [rsE_size] at h1 h2
 unfold b1E b2E
 omega
/-- a text as a request -/
def rqE (s : ByteArray) : Req := ⟨rqC s, rqQ s, rqL s, rqK s, rqV s⟩
/-- a text as a head -/
def hdOf (s : ByteArray) (h : Hd) : Prop := h.q = 0 ∧ h.r = ⟨#[]⟩ ∧ h.m = ⟨#[]⟩ ∧ (s.size = 8 → h.z = numV (frE 4 s) ∧ h.t = numV (rsE 4 s))
/-- whether all that is read is right -/
def okE (b : ByteArray) : Bool := okList (b1E b) && (okList (b2E b) && (lsT (b1E b)).all okReq)
theorem right_small {r : Req} (h : rightQ r = true) : smallB r = true := by
 obtain ⟨c, q, l, k, v⟩ := r
 have h : rightB c q l k v = true := h
 obtain ⟨h1, h2, h3, h4, h5, h6, h7, h8, h9⟩ := right_parts h
 refine decide_eq_true (show l.size ≤ 250 ∧ k.size ≤ 100 ∧ v.size ≤ 150 from ?_)
 omega
theorem rightQ_mk (c q : Int) (l k v : ByteArray) : rightQ ⟨c, q, l, k, v⟩ = rightB c q l k v := rfl
theorem okReq_rq {s : ByteArray} (h : okReq s = true) : rightQ (rqE s) = true := by
 have h1 := (okReq_right h).1
 unfold rqE
 rw [rightQ_mk]
 exact h1
theorem okReq_small {s : ByteArray} (h : okReq s = true) : smallB (rqE s) = true := right_small (okReq_rq h)
theorem reqQ_right {r : Req} (h : rightQ r = true) : okReq (reqQ r) = true ∧ rqE (reqQ r) = r := by
 obtain ⟨c, q, l, k, v⟩ := r
 have hr : rightB c q l k v = true := h
 obtain ⟨h1, h2, h3, h4, h5, h6, h7, h8, h9⟩ := right_parts hr
 obtain ⟨f1, f2, f3, f4, f5⟩ := req_read c q l k v (by omega) (by omega) (by omega)
 have c1 : ((clip c : Nat) : Int) = c := by rw [clip_in (by omega) (by omega)]; omega
 have c2 : ((clip q : Nat) : Int) = q := by rw [clip_in (by omega) (by omega)]; omega
 refine ⟨?_, ?_⟩
 · show okReq (reqB c q l k v) = true
   unfold okReq
   rw [f1, f2, f3, f4, f5, c1, c2, hr]
   simp
 · show rqE (reqB c q l k v) = _
   unfold rqE
   rw [f1, f2, f3, f4, f5, c1, c2]
theorem skE_txts (R : ByteArray) (ss : List ByteArray) (h : ∀ s ∈ ss, s.size ≤ 2147483647) : ∀ k, k ≤ ss.length → skE k (txts ss ++ R) = txts (ss.drop k) ++ R
 | 0, _ => rfl
 | k + 1, hk => by
  have ih := skE_txts R ss h k (by omega)
  have hd : ss.drop k = ss[k] :: ss.drop (k + 1) := List.drop_eq_getElem_cons (by omega)
  have hs := h ss[k] (List.getElem_mem _)
  show rsE (numV (frE 4 (skE k (txts ss ++ R)))) (rsE 4 (skE k (txts ss ++ R))) = _
  rw [ih, hd, show txts (ss[k] :: ss.drop (k + 1)) ++ R = num4 ss[k].size ++ (ss[k] ++ (txts (ss.drop (k + 1)) ++ R)) by
   show txt ss[k] ++ txts (ss.drop (k + 1)) ++ R = _
   unfold txt
   rw [ByteArray.append_assoc, ByteArray.append_assoc]]
  rw [frE_app _ _ 4 (by rw [num4_size]), rsE_app _ _ 4 (by rw [num4_size]), numV_num4, clip_size hs, rsE_app _ _ _ rfl]
theorem list_cut (ss : List ByteArray) (R : ByteArray) (h : ∀ s ∈ ss, s.size ≤ 2147483647) (hn : ss.length ≤ 2147483647) : lcE (listB ss ++ R) = R ∧ lfE (listB ss ++ R) = listB ss := by
 have e : listB ss ++ R = ⟨#[76]⟩ ++ (num4 ss.length ++ (txts ss ++ R)) := by
  unfold listB
  rw [ByteArray.append_assoc, ByteArray.append_assoc]
 have h1 : lcE (listB ss ++ R) = R := by
  unfold lcE
  rw [e, rsE_app ⟨#[76]⟩ _ 1 rfl, frE_app _ _ 4 (by rw [num4_size]), rsE_app _ _ 4 (by rw [num4_size]), numV_num4, clip_in (by omega) (by omega), Int.toNat_natCast, skE_txts R ss h _ (Nat.le_refl _), List.drop_length]
  apply ByteArray.ext
  rw [ByteArray.data_append]
  simp [txts]
 refine ⟨h1, ?_⟩
 unfold lfE
 rw [h1, ByteArray.size_append, Nat.add_sub_cancel]
 exact ext_left _ _
theorem ztB_size (h : Hd) : (ztB h).size = 8 := by unfold ztB; rw [ByteArray.size_append, num4_size, num4_size]
/-- A LOG'S OWN BYTES ARE READ AS IT -/
theorem exp_read {W : Wd} (hi : InvW W) (_ : TmW W) : okE (expB W) = true ∧ (lsT (b1E (expB W))).map rqE = W.tk ∧ lsT (b2E (expB W)) = W.hd.map ztB := by
 have hm := hi.most
 have hh := hi.heads
 have hz : ∀ s ∈ W.tk.map reqQ, s.size ≤ 2147483647 := fun s hs => by
  obtain ⟨r, hr, rfl⟩ := List.mem_map.1 hs
  have := of_decide_eq_true (hi.szq r hr)
  unfold reqQ
  rw [reqB_size]
  omega
 have hz2 : ∀ s ∈ W.hd.map ztB, s.size ≤ 2147483647 := fun s hs => by
  obtain ⟨r, hr, rfl⟩ := List.mem_map.1 hs
  rw [ztB_size]
  decide
 have e : rsE 1 (expB W) = listB (W.tk.map reqQ) ++ listB (W.hd.map ztB) := by
  unfold expB
  rw [ByteArray.append_assoc, rsE_app _ _ 1 rfl]
 obtain ⟨e2, e1⟩ := list_cut (W.tk.map reqQ) (listB (W.hd.map ztB)) hz (by rw [List.length_map]; omega)
 rw [← e] at e1 e2
 have e1' : b1E (expB W) = listB (W.tk.map reqQ) := e1
 have e2' : b2E (expB W) = listB (W.hd.map ztB) := e2
 obtain ⟨_, r1⟩ := list_read (W.tk.map reqQ) hz (by rw [List.length_map]; omega)
 obtain ⟨_, r2⟩ := list_read (W.hd.map ztB) hz2 (by rw [List.length_map]; omega)
 refine ⟨?_, ?_, ?_⟩
 · unfold okE
   rw [e1', e2', r1, okList_written _ hz (by rw [List.length_map]; omega), okList_written _ hz2 (by rw [List.length_map]; omega), List.length_map, List.length_map]
   rw [Bool.and_eq_true, Bool.and_eq_true, decide_eq_true_iff, decide_eq_true_iff]
   refine ⟨by omega, by omega, ?_⟩
   rw [List.all_eq_true]
   intro s hs
   obtain ⟨r, hr, rfl⟩ := List.mem_map.1 hs
   exact (reqQ_right (hi.right r hr)).1
 · rw [e1', r1, List.map_map]
   refine (List.map_congr_left (fun r hr => ?_)).trans (List.map_id _)
   exact (reqQ_right (hi.right r hr)).2
 · rw [e2', r2]
theorem hd_read {h h' : Hd} (hz : 0 ≤ h.z ∧ h.z ≤ 2147483647) (ht : 0 ≤ h.t ∧ h.t ≤ 2147483647) (k : hdOf (ztB h) h') : h' = barH h := by
 obtain ⟨k1, k2, k3, k4⟩ := k
 obtain ⟨k5, k6⟩ := k4 (ztB_size h)
 have e1 : frE 4 (ztB h) = num4 h.z := frE_app _ _ 4 (by rw [num4_size])
 have e2 : rsE 4 (ztB h) = num4 h.t := rsE_app _ _ 4 (by rw [num4_size])
 rw [e1, numV_num4, clip_in hz.1 hz.2] at k5
 rw [e2, numV_num4, clip_in ht.1 ht.2] at k6
 obtain ⟨q, z, t, r, m⟩ := h'
 unfold barH
 dsimp only at *
 subst k1 k2 k3
 rw [k5, k6, Int.toNat_of_nonneg hz.1, Int.toNat_of_nonneg ht.1]
theorem InvW.zt {W : Wd} (h : InvW W) (ht : TmW W) : ∀ x ∈ W.hd, (0 ≤ x.z ∧ x.z ≤ 2147483647) ∧ (0 ≤ x.t ∧ x.t ≤ 2147483647) := by
 intro x hx
 obtain ⟨i, hi, rfl⟩ := List.getElem_of_mem hx
 have hm := h.most
 have h1 := h.zall _ hx
 have h2 := h.least i (by omega)
 have h3 := h.hz i hi
 have h4 := h.tpos i (by omega)
 have h5 := h.ht i hi
 have e : W.hd.getD i default = W.hd[i] := by rw [List.getD_eq_getElem?_getD, List.getElem?_eq_getElem hi]; rfl
 rw [e] at h3 h5
 have h6 := ht _ hx
 omega
/-- heads that are read of a log's own bytes -/
theorem hds_read {W : Wd} (hi : InvW W) (ht : TmW W) {hs : List Hd} (hl : hs.length = (W.hd.map ztB).length) (hh : ∀ i (h1 : i < hs.length) (h2 : i < (W.hd.map ztB).length), hdOf ((W.hd.map ztB)[i]) hs[i]) : hs = W.hd.map barH := by
 apply List.ext_getElem
 · rw [hl, List.length_map, List.length_map]
 · intro i h1 h2
   have h3 : i < W.hd.length := by rw [List.length_map] at h2; exact h2
   have := hh i h1 (by rw [List.length_map]; exact h3)
   rw [List.getElem_map] at this ⊢
   obtain ⟨z, t⟩ := hi.zt ht _ (List.getElem_mem h3)
   exact hd_read z t this
/-- LOGS OF THE SAME BYTES ARE THE SAME -/
theorem exp_inj {W V : Wd} (hW : OwnW W) (hV : OwnW V) (e : expB W = expB V) : W = V := by
 obtain ⟨_, a1, a2⟩ := exp_read hW.1 hW.2.1
 obtain ⟨_, b1, b2⟩ := exp_read hV.1 hV.2.1
 rw [e] at a1 a2
 have ht : W.tk = V.tk := a1.symm.trans b1
 have hz : W.hd.map ztB = V.hd.map ztB := a2.symm.trans b2
 have hl : W.hd.length = V.hd.length := by simpa using congrArg List.length hz
 have hb : W.hd.map barH = V.hd.map barH := by
  refine hds_read hV.1 hV.2.1 (by rw [List.length_map, List.length_map, hl]) (fun i h1 h2 => ?_)
  have h3 : i < W.hd.length := by simpa using h1
  have h4 : i < V.hd.length := by omega
  have := congrArg (fun l => l[i]?) hz
  simp only [List.getElem?_map, List.getElem?_eq_getElem h3, List.getElem?_eq_getElem h4, Option.map_some, Option.some.injEq] at this
  rw [List.getElem_map, List.getElem_map, ← this]
  obtain ⟨z, t⟩ := hW.1.zt hW.2.1 _ (List.getElem_mem h3)
  refine ⟨rfl, rfl, rfl, fun _ => ?_⟩
  rw [show frE 4 (ztB W.hd[i]) = num4 W.hd[i].z from frE_app _ _ 4 (by rw [num4_size]), show rsE 4 (ztB W.hd[i]) = num4 W.hd[i].t from rsE_app _ _ 4 (by rw [num4_size]), numV_num4, numV_num4, clip_in z.1 z.2, clip_in t.1 t.2, Int.toNat_of_nonneg z.1, Int.toNat_of_nonneg t.1]
  exact ⟨rfl, rfl⟩
 have m1 : mkE W.tk W.hd = some W := hW.mk
 have m3 : mkE V.tk V.hd = some W := by rw [← mkE_bar V.tk V.hd, ← hb, mkE_bar, ← ht]; exact m1
 exact Option.some.inj (m3.symm.trans hV.mk)
end Go.Proofs.YtnbboabaihddbaaGreat
