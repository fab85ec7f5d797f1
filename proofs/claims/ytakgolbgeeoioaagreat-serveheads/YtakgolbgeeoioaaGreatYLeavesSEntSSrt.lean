/-
  Leaves: the program's; the hashes of the first requests. entries: a map's, in order. slices.SortFunc of entries, however many.
-/
import Derived.Test.YtakgolbgeeoioaaGreatYSlYStYFirst
import Derived.Test.YtakgolbgeeoioaaGreatSRefBSRefCMSRefCYRef1YRef2
import Derived.Test.YtakgolbgeeoioaaGreatSvMathYStateMLeaf
import Derived.Test.YtakgolbgeeoioaaGreatMRefLSRefAHSBitMSPairSRefAMHStep
import Derived.Test.YtakgolbgeeoioaaGreatSMadeMSEntMSRootLSRefV1
import Derived.Shelf.SlSortCmp.NoneTotal
namespace Go.Proofs.YtakgolbgeeoioaaGreat
open Go.RowKit

section
attribute [-go_sem] loadVar
set_option maxRecDepth 100000 in
set_option maxHeartbeats 1000000 in
theorem leavesS_any (oa : Option Addr) (N ca : Nat) (x y z u : Lst) (vb : Value) (n : Int) (tk : List Req) (hN : tk.length = N) (hle : N ≤ ca) (hN2 : N ≤ 1000) (hn : -9223372036854775808 ≤ n ∧ n ≤ 9223372036854775807) (hz : SzQ tk) (w : World) (hP : RowG reqK w oa tk) :
 Calls Tryz.prog 48 #[.agg (cellsS (.slice oa N ca) x y z u vb), .agg tabV, .int .i64 n] w (RT ((tk.take (nearN n N)).map leafQ) w) := by
 have HF1 : Hid (∀ W, Calls Tryz.prog 76 #[.agg (cellsS (.slice oa N ca) x y z u vb), .int .i64 n] W fun e w' => e = .returned (.slice oa (nearN n N) ca) ∧ Below W.heap.size W w') := Lib.hid fun W => first_any oa N ca x y z u vb n hle (by omega) hn W
 have hk := nearN_le n N
 obtain ⟨m, hm⟩ : ∃ m, nearN n N = m := ⟨_, rfl⟩
 rw [hm] at hk HF1 ⊢
 have HRT := Lib.hid (show ∀ e w', RT ((tk.take m).map leafQ) w e w' = ∃ v, e = .returned v ∧ Own w' w.heap.size v ((tk.take m).map leafQ) ∧ Below w.heap.size w w' from fun _ _ => rfl)
 have HLM : Hid ((fun k => (tk.take k).map leafQ) m = (tk.take m).map leafQ) := Lib.hid rfl
 have HF0 := Lib.hid (show (tk.take 0).map leafQ = [] from rfl)
 have HFL := Lib.hid (show ∀ k, k ≤ m → ((tk.take k).map leafQ).length = k from fun k hk => by rw [List.length_map, List.length_take]; omega)
 have HFS : Hid (∀ k, k < m → ∃ r : Req, smallB r = true ∧ (tk.take (k + 1)).map leafQ = (tk.take k).map leafQ ++ [leafQ r] ∧ ∃ g o, oa = some ⟨g, o, none⟩ ∧ ∀ W, Below w.heap.size w W → (loadVar 61 ⟨g, o + k * 5, none⟩).run Tryz.prog W = .ok (.agg #[.int .i64 r.c, .int .i64 r.q, .string r.l, .string r.k, .string r.v]) W) := Lib.hid fun k hk => by
  obtain ⟨g, o, h1, h2, _⟩ := req_at hP (i := k) (by omega)
  refine ⟨tk[k]'(by omega), hz _ (List.getElem_mem _), by rw [List.take_succ_eq_append_getElem (by omega), List.map_append]; rfl, g, o, h1, fun W hW => ?_⟩
  have := hP.below hW
  rw [h1] at this
  exact RowG.load reqOk this (List.getElem?_eq_getElem (by omega))
 have HRQ : Hid (∀ (r : Req), smallB r = true → ∀ W, Calls Tryz.prog 58 #[.agg #[.int .i64 r.c, .int .i64 r.q, .string r.l, .string r.k, .string r.v]] W fun e w' => e = .returned (.string (reqQ r)) ∧ Below W.heap.size W w') := Lib.hid fun r hr W => by
  have := of_decide_eq_true hr
  exact request_any r.c r.q r.l r.k r.v (by omega) (by omega) (by omega) W
 have HLF : Hid (∀ (r : Req), smallB r = true → ∀ W, Calls Tryz.prog 77 #[.agg tabV, .string (reqQ r)] W fun e w' => e = .returned (.string (leafQ r)) ∧ Below W.heap.size W w') := Lib.hid fun r hr W => by
  have := of_decide_eq_true hr
  exact mleaf_any (reqQ r) (by unfold reqQ; rw [reqB_size]; omega) W
 obtain ⟨w0, hw0⟩ : ∃ w0, (w.alloc (.cells (cellsS (.slice oa N ca) x y z u vb) 40)).alloc (.cells tabV 29) = w0 := ⟨_, rfl⟩
 have hb0 : Below w.heap.size w w0 := by rw [← hw0]; exact ((Below.refl _ w).alloc (Nat.le_refl _) _).alloc (by simp) _
 have k0 : Blk w0 w.heap.size 40 (cellsS (.slice oa N ca) x y z u vb) := by rw [← hw0]; exact (Blk.new _ _ _).alloc _
 have k1 : Blk w0 (w.heap.size + 1) 29 tabV := by rw [← hw0]; exact Blk.new_at (by simp)
 have HW0 := Lib.hid hw0
 have l0 := st_load (cellsS_size _ _ _ _ _ _) k0
 generalize RT ((tk.take m).map leafQ) w = PO at *
 generalize (tk.take m).map leafQ = L at *
 generalize hF : (fun k => (tk.take k).map leafQ) = F at *
 have hF' : ∀ k, (tk.take k).map leafQ = F k := fun k => by rw [← hF]
 simp only [hF'] at HF0 HFS HFL
 clear hF hF' hz hP hN hw0 hm
 go_enter Tryz.func48, Tryz.ntmps48
 go_wp2_with (rw [HW0.out])
 refine (HF1.out w0).mono ?_
 rintro e w1 ⟨rfl, hb1⟩
 have k1 := k1.below hb1 k1.lt
 have hb01 := hb0.trans (hb1.mono hb0.size)
 clear l0 k0 hb0 hb1
 go_wp2_with fail
 have hlt1 : w.heap.size + 1 < w1.heap.size := k1.lt
 go_loopw [7, 14] (fun v i wr => ∃ k : Nat, k ≤ m ∧ i = .int .i64 k ∧ Own wr w1.heap.size v (F k) ∧ Below w1.heap.size w1 wr) (fun _ i _ => m - (intOf i).toNat)
 case atStart => exact ⟨0, by omega, rfl, by rw [HF0.out]; exact own_nil _ _, Below.refl _ _⟩
 case round =>
  obtain ⟨k, hkm, rfl, hown, hB⟩ := hrel
  by_cases hlt : k < m
  · have hlt' : (k : Int) < (m : Int) := by omega
    obtain ⟨r, hr, hfs, g, o, rfl, hld⟩ := HFS.out k hlt
    have d0 := hld wr (hb01.trans (hB.mono hb01.size))
    have HQ := Lib.hid (HRQ.out r hr)
    have HL := Lib.hid (HLF.out r hr)
    have HFK := Lib.hid hfs
    have HFKL := Lib.hid (HFL.out k hkm)
    have hlen : (F k).length ≤ 1073741824 := by rw [HFL.out k hkm]; omega
    generalize reqQ r = RR at *
    generalize leafQ r = LL at *
    obtain ⟨rc, rq, rl, rk, rv⟩ := r
    dsimp only at d0 HQ
    obtain ⟨w2, hw2⟩ : ∃ w2, wr.alloc (.cells #[.int .i64 rc, .int .i64 rq, .string rl, .string rk, .string rv] 61) = w2 := ⟨_, rfl⟩
    have hb2 : Below wr.heap.size wr w2 := by rw [← hw2]; exact (Below.refl _ wr).alloc (Nat.le_refl _) _
    have k9 : Blk w2 wr.heap.size 61 #[.int .i64 rc, .int .i64 rq, .string rl, .string rk, .string rv] := by rw [← hw2]; exact Blk.new _ _ _
    have HKT := Lib.hid ((k1.below hB k1.lt).below hb2 (by have := hB.size; omega))
    have HOW := Lib.hid (hown.below hb2)
    have HBW := Lib.hid (hB.trans (hb2.mono hB.size))
    have HK9 := Lib.hid k9
    have HW2 := Lib.hid hw2
    obtain ⟨g9, hg9⟩ : ∃ g9, wr.heap.size = g9 := ⟨_, rfl⟩
    have HG9 := Lib.hid hg9
    have HN1 : Hid (∀ q, q < w1.heap.size → some q ≠ u7.ownBlock) := Lib.hid fun q hq e => by have := (World.ownsRow.lt HOW.out q e.symm).1; omega
    have HN9 : Hid (some wr.heap.size ≠ u7.ownBlock) := Lib.hid fun e => by have := (World.ownsRow.lt hown _ e.symm).2; omega
    have HKP : Hid (∀ W, w2.grownBy W u7.ownBlock → ((loadVar 29 ⟨w.heap.size + 1, 0, none⟩).run Tryz.prog W = .ok (.agg tabV) W ∧ (loadVar 61 ⟨g9, 0, none⟩).run Tryz.prog W = .ok (.agg #[.int .i64 rc, .int .i64 rq, .string rl, .string rk, .string rv]) W) ∧ w2.grownBy W u7.ownBlock) := Lib.hid fun W hW => ⟨⟨tab_run (HKT.out.grown hW (HN1.out _ hlt1)), by rw [← HG9.out]; exact req_load5 (HK9.out.grown hW HN9.out)⟩, hW⟩
    have hle2 : w1.heap.size ≤ w2.heap.size := HBW.out.size
    clear hfs hr hld hown hB hw2 hb2 k9 hg9
    go_wp2_with (rw [HW2.out, HG9.out])
    clear d0
    go_region_held3 (fun w' => ((loadVar 29 ⟨w.heap.size + 1, 0, none⟩).run Tryz.prog w' = .ok (.agg tabV) w' ∧ (loadVar 61 ⟨g9, 0, none⟩).run Tryz.prog w' = .ok (.agg #[.int .i64 rc, .int .i64 rq, .string rl, .string rk, .string rv]) w') ∧ w2.grownBy w' u7.ownBlock)
     ((refine HKP.out _ ?_; first | exact hG3 | exact grown_alloc hG2 _ | exact hG2 | exact hG1 | exact only_drew (grown_refl _ _) | exact grown_refl _ _))
     (first
      | (have := hb1; go_at_call 77; refine (HL.out _).mono ?_; rintro e w3 ⟨rfl, hb3⟩; have hb3' := hb1.trans (hb3.mono hb1.size); have hG2 : w2.grownBy w3 u7.ownBlock := only_of_below hb3' _)
      | (go_at_call 58; refine (HQ.out _).mono ?_; rintro e w4 ⟨rfl, hb4⟩; have hb1 : Below w2.heap.size w2 w4 := (Below.refl _ _).drew.trans hb4; have hG1 : w2.grownBy w4 u7.ownBlock := only_of_below hb1 _)
      | (have := hG2; (refine step_append_txt (by rfl) _ _ (by rfl) w1.heap.size u7 (F k) (by rfl) (HOW.out.below hb3') LL (by rfl) hlen (Nat.le_trans hle2 hG2.size) ?_; intro g2 cap2 w5 hown2 hgr2; have hG3 : w2.grownBy w5 u7.ownBlock := grown_trans hG2 hgr2)))
    rw [HFKL.out, ← HFK.out] at hown2
    have hB5 := HBW.out.grown hG3 hle2 (fun q hq => (World.ownsRow.lt HOW.out q hq).1)
    rw [HFKL.out]
    rename_i hHeld
    clear hHeld hG1 hG2 hG3 hgr2 hb1 hb3 hb3' hb4 HKP HN1 HN9 HOW HBW HKT HK9 HQ HL
    go_wp2
    go_roundw
    case rel => exact ⟨k + 1, by omega, by go_num, hown2, hB5⟩
    case measure => simp [intOf]; omega
  · obtain rfl : k = m := by omega
    have hlt' : ¬ (k : Int) < (k : Int) := by omega
    go_wp2
    rw [HRT.out]
    exact ⟨_, rfl, by rw [← HLM.out]; exact hown.mono (by omega), hb01.trans (hB.mono hb01.size)⟩
end
end Go.Proofs.YtakgolbgeeoioaaGreat
namespace Go.Proofs.YtakgolbgeeoioaaGreat
open Go.RowKit Go.Shelf Go.Sort Go.Maps

def ecells (es : List Ent) : List Value := es.flatMap Ent.enc
theorem ecells_len (es : List Ent) : (ecells es).length = es.length * 3 := by
 induction es with
 | nil => rfl
 | cons x r ih => simp [ecells, Ent.enc] at ih ⊢; omega
theorem ecells_get : ∀ (es : List Ent) (i c : Nat) (h : i < es.length), c < 3 → (ecells es)[i * 3 + c]? = es[i].enc[c]?
 | [], _, _, h, _ => absurd h (Nat.not_lt_zero _)
 | x :: r, 0, c, _, hc => by
  have e : ecells (x :: r) = x.enc ++ ecells r := rfl
  rw [e, Nat.zero_mul, Nat.zero_add, List.getElem?_append_left (by simpa [Ent.enc] using hc)]
  rfl
 | x :: r, i + 1, c, h, hc => by
  have e : ecells (x :: r) = x.enc ++ ecells r := rfl
  have hl : x.enc.length = 3 := rfl
  rw [e, List.getElem?_append_right (by rw [hl]; omega), hl, show (i + 1) * 3 + c - 3 = i * 3 + c by omega]
  exact ecells_get r i c (Nat.lt_of_succ_lt_succ h) hc
theorem entInfo : (Tryz.prog.info? 163).map (fun i => (i.zero, i.size, i.bytes)) = some (some (.agg #[.string ⟨#[]⟩, .string ⟨#[]⟩, .string ⟨#[]⟩]), 3, 48) := by kernel_rfl
/-- a slice of entries that the call made -/
def OwnEn (w : World) (B : Nat) (v : Value) (es : List Ent) : Prop := w.ownsRow B 163 3 v es.length (ecells es)
theorem ownEn_nil (w : World) (B : Nat) : OwnEn w B (.slice none 0 0) [] := ⟨rfl, .inl ⟨rfl, rfl⟩⟩
theorem OwnEn.grown {w w' : World} {B : Nat} {v : Value} {es : List Ent} {row : Option Nat} (h : OwnEn w B v es) (hg : w.grownBy w' row) (hne : v.ownBlock = none ∨ v.ownBlock ≠ row) : OwnEn w' B v es := World.ownsRow.kept h hg hne
theorem OwnEn.below {w w' : World} {B : Nat} {v : Value} {es : List Ent} (h : OwnEn w B v es) (hb : Below w.heap.size w w') : OwnEn w' B v es :=
 World.ownsRow.kept h (only_of_below hb none) (by cases v.ownBlock <;> simp)
theorem three_new (w : World) (x y z : ByteArray) (t : TypeId) : ∀ j u, ([Value.string x, .string y, .string z])[j]? = some u → (w.alloc (.cells #[.string x, .string y, .string z] t)).cell? ((⟨w.heap.size, 0, none⟩ : Addr).add j) = some u := by
 intro j u hu
 rw [addr_add, Nat.zero_add, (Blk.new w t #[.string x, .string y, .string z]).cell, ← hu]
 rw [← List.getElem?_toArray]
set_option maxRecDepth 100000 in
theorem wpList_append_ent {W : World} {ops : Array Oper} {rest : List Oper} {o : Oper} {a : Act} {Q : Exit → Act → World → Prop} (hgd : o.guard = none) (s x : Operand)
 (ho : o.op = .call { callee := .builtin .append, args := #[s, x], argTypes := #[134, 134] }) (B : Nat) (v : Value) (es : List Ent) (hs : a.eval s = v) (hown : OwnEn W B v es) (y : Ent)
 (hx : a.eval x = .slice (some ⟨W.heap.size, 0, none⟩) 1 1) (hlen : es.length ≤ 1073741824) (hB : B ≤ W.heap.size)
 (h : ∀ g cap w', OwnEn w' B (.slice (some ⟨g, 0, none⟩) (es.length + 1) cap) (es ++ [y]) → W.grownBy w' v.ownBlock → wpList Tryz.prog ops Q rest (a.put o.dst (.slice (some ⟨g, 0, none⟩) (es.length + 1) cap)) w') :
 wpList Tryz.prog ops Q (o :: rest) a (W.alloc (.cells #[.string y.path, .string y.key, .string y.val] 163)) := by
 obtain ⟨i0, hi, hz0, hz1, hz2⟩ := info_parts entInfo
 refine wpList_append_lies _ hgd s x 134 ho B 163 i0 (.agg #[.string ⟨#[]⟩, .string ⟨#[]⟩, .string ⟨#[]⟩]) 3 48 Tryz.underlying134 hi hz0 hz1 hz2 rfl (by decide) v es.length (ecells es) hs (World.ownsRow.alloc hown _)
  ⟨W.heap.size, 0, none⟩ 1 1 [.string y.path, .string y.key, .string y.val] hx rfl (three_new W y.path y.key y.val 163) (by intro u hu; simp at hu; rcases hu with rfl | rfl | rfl <;> rfl) (by decide) (by unfold maxLen; omega) (by omega) (by simp; omega) (W.heap.size + 1) (by simp) ?_
 intro g cap w' hown1 hgrow _ _
 refine h g cap w' ?_ (grown_trans (grown_alloc (grown_refl W _) _) hgrow)
 unfold OwnEn
 rw [List.length_append]
 have e : ecells (es ++ [y]) = ecells es ++ [.string y.path, .string y.key, .string y.val] := by simp [ecells, Ent.enc]
 rw [e]
 exact hown1
theorem own_size {w : World} {b n : Nat} {D : DataW Unit} (h : w.ownsMap Tryz.prog 9 (plainElem (H := Unit) Tryz.prog 9) b n D) : Maps.size D ≤ n := by
 obtain ⟨es, clock, hb, F, hs, rfl⟩ := h
 show ((es.toList.map _).foldr DataW.insert []).length ≤ n
 rw [length_sorted]
 simpa using hs
theorem invK (key : Value) (kl : Lit) (h : keyOf Tryz.prog 9 key = some kl) : ∃ x : ByteArray, key = .string x := by
 obtain ⟨x, hx, _⟩ := Maps.keyOf_str Tryz.underlying9 h
 exact ⟨⟨x.toArray⟩, hx⟩
theorem invV (v : Value) (y : DataW Unit × List MemPlace) (h : plainElem (H := Unit) Tryz.prog 9 v = some y) : ∃ c : ByteArray, v = .string c := by
 obtain ⟨s, hs, _⟩ := plainElem_string_inv Tryz.underlying9 h
 exact ⟨s, hs⟩
theorem valD_of {D : DataW Unit} {x c : ByteArray} (h : ∀ zd, D.atKey (litK x) zd = datV c) : valD D x = c := by
 unfold valD
 rw [h]
 show (⟨c.data.toList.toArray⟩ : ByteArray) = c
 exact of_toList c
/-- the sorted row is the entries in order, and no other block has turned -/
theorem sorted_ents (val : ByteArray → ByteArray) (w : World) (g m : Nat) (ks : List ByteArray) (os : Array Obj) (hH : HoldsK (fun k => (entK val k).enc) 3 w g 0 ks.toArray) (hg : g < w.heap.size) (ds : List ByteArray) (hd : ds.length = ks.length) :
 EntB (sortedW val w g m ds.toArray os) g 0 (ds.map (entK val)) ∧ w.grownBy (sortedW val w g m ds.toArray os) (some g) := by
 have hs : ds.toArray.size = ks.toArray.size := by simpa using hd
 have hz : (putRowK (fun k => (entK val k).enc) 3 (Go.Sort.ahead w m) g 0 ds.toArray).heap.size = w.heap.size := size_putRowK ..
 have h1 := holdsK_grow _ 3 (putRowK (fun k => (entK val k).enc) 3 (Go.Sort.ahead w m) g 0 ds.toArray) os g 0 ds.toArray (by rw [hz]; exact hg) (holdsK_putRowK _ 3 (Go.Sort.ahead w m) g 0 ks.toArray ds.toArray (holdsK_ahead _ 3 w m g 0 _ hH) hs)
 refine ⟨⟨?_, fun i hi => ?_⟩, ?_⟩
 · show g < (grow (putRowK _ 3 (Go.Sort.ahead w m) g 0 ds.toArray) os).heap.size
   rw [show (grow (putRowK (fun k => (entK val k).enc) 3 (Go.Sort.ahead w m) g 0 ds.toArray) os).heap.size = w.heap.size + os.size by rw [← hz]; exact Array.size_append]
   omega
 · have hi2 : i < ds.length := by simpa using hi
   have hc := fun c (hc : c < 3) => h1.cell (i := i) (c := c) (by simpa using hi2) hc
   have e : ds.toArray[i]! = ds[i] := by simp [hi2]
   have c0 := (hc 0 (by decide)).1
   have c1 := (hc 1 (by decide)).1
   have c2 := (hc 2 (by decide)).1
   rw [e] at c0 c1 c2
   simp only [List.getElem_map]
   exact ⟨c0, c1, c2⟩
 · refine ⟨rfl, rfl, rfl, ?_, fun i hi hne => ?_⟩
   · show w.heap.size ≤ (grow (putRowK _ 3 (Go.Sort.ahead w m) g 0 ds.toArray) os).heap.size
     rw [show (grow (putRowK (fun k => (entK val k).enc) 3 (Go.Sort.ahead w m) g 0 ds.toArray) os).heap.size = w.heap.size + os.size by rw [← hz]; exact Array.size_append]
     omega
   · show ((putRowK (fun k => (entK val k).enc) 3 (Go.Sort.ahead w m) g 0 ds.toArray).heap ++ os)[i]? = _
     rw [Array.getElem?_append_left (by rw [hz]; exact hi)]
     show ((Go.Sort.ahead w m).heap.modify g _)[i]? = _
     rw [Array.getElem?_modify, if_neg (by rintro rfl; exact hne rfl)]
     rfl
theorem own_holds {w : World} {B g cap : Nat} {val : ByteArray → ByteArray} {ks : List ByteArray} (h : OwnEn w B (.slice (some ⟨g, 0, none⟩) ks.length cap) (ks.map (entK val))) : HoldsK (fun k => (entK val k).enc) 3 w g 0 ks.toArray ∧ g < w.heap.size ∧ B ≤ g ∧ ks.length ≤ cap := by
 have h0 := h
 rcases h.2 with ⟨hv, _⟩ | ⟨g', cap', cur, hv, hb, hk, hc1, hc2, hc3, hc4⟩
 · cases hv
 · injection hv with hv1 hv2 hv3
   injection hv1 with hv1
   injection hv1 with hv1
   subst hv1 hv3
   have hB : Blk w g 163 cur := hk
   refine ⟨fun j hj => ⟨?_, hB.frozen _⟩, hB.lt, hb, by simpa using hc1⟩
   have hj2 : j < ks.length * 3 := by simpa using hj
   rw [get_flatK _ _ _ _ (by simpa using hj2)]
   have hq : j / 3 < ks.length := by omega
   have := ecells_get (ks.map (entK val)) (j / 3) (j % 3) (by simpa using hq) (Nat.mod_lt _ (by decide))
   rw [show j / 3 * 3 + j % 3 = j by omega] at this
   have hc : (entK val ks[j / 3]).enc[j % 3]? = some ((entK val ks[j / 3]).enc[j % 3]!) := by
    have : j % 3 < (entK val ks[j / 3]).enc.length := Nat.mod_lt _ (by decide)
    rw [List.getElem?_eq_getElem this]; exact congrArg some (getElem!_pos (entK val ks[j / 3]).enc (j % 3) this).symm
   simp only [List.getElem_map] at this
   rw [hc] at this
   have hcell := World.ownsRow.cells h0 (g := g) rfl j _ this
   rw [addr_add] at hcell
   rw [hcell]
   simp [hq]
end Go.Proofs.YtakgolbgeeoioaaGreat
namespace Go.Proofs.YtakgolbgeeoioaaGreat
open Go.RowKit Go.Shelf Go.Sort

def wren : Go.Shelf.Ren := ⟨fun | 6 => 103 | 14 => 117 | 15 => 98 | 20 => 123 | 21 => 124 | 22 => 125 | 23 => 126 | 24 => 127 | 25 => 128 | 26 => 129 | 27 => 130 | 28 => 112 | 29 => 113 | 46 => 138 | 47 => 139 | 48 => 140 | 49 => 141 | 50 => 142 | 57 => 144 | n => n, fun | 0 => 0 | 3 => 3 | 4 => 4 | 5 => 5 | 9 => 9 | 22 => 134 | 24 => 163 | 25 => 169 | 39 => 102 | 45 => 193 | 46 => 194 | 50 => 198 | 53 => 25 | 55 => 67 | 66 => 203 | 70 => 207 | 76 => 210 | 77 => 211 | n => n, fun | n => n⟩
set_option maxRecDepth 100000 in
set_option maxHeartbeats 2000000 in
theorem wlays : Go.Proofs.SlLaysF0.n6 Tryz.prog wren := {
 mixed := by kernel_rfl
 f6 := ⟨Tryz.f103.name, by decide, Tryz.func103.trans (congrArg some (by kernel_rfl))⟩
 f14 := ⟨Tryz.f117.name, by decide, Tryz.func117.trans (congrArg some (by kernel_rfl))⟩
 f15 := Tryz.func98.trans (congrArg some (by kernel_rfl))
 f20 := ⟨Tryz.f123.name, by decide, Tryz.func123.trans (congrArg some (by kernel_rfl))⟩
 f21 := ⟨Tryz.f124.name, by decide, Tryz.func124.trans (congrArg some (by kernel_rfl))⟩
 f22 := ⟨Tryz.f125.name, by decide, Tryz.func125.trans (congrArg some (by kernel_rfl))⟩
 f23 := ⟨Tryz.f126.name, by decide, Tryz.func126.trans (congrArg some (by kernel_rfl))⟩
 f24 := ⟨Tryz.f127.name, by decide, Tryz.func127.trans (congrArg some (by kernel_rfl))⟩
 f25 := ⟨Tryz.f128.name, by decide, Tryz.func128.trans (congrArg some (by kernel_rfl))⟩
 f26 := ⟨Tryz.f129.name, by decide, Tryz.func129.trans (congrArg some (by kernel_rfl))⟩
 f27 := ⟨Tryz.f130.name, by decide, Tryz.func130.trans (congrArg some (by kernel_rfl))⟩
 f28 := Tryz.func112.trans (congrArg some (by kernel_rfl))
 f29 := Tryz.func113.trans (congrArg some (by kernel_rfl))
 f46 := ⟨Tryz.f138.name, by decide, Tryz.func138.trans (congrArg some (by kernel_rfl))⟩
 f47 := Tryz.func139.trans (congrArg some (by kernel_rfl))
 f48 := Tryz.func140.trans (congrArg some (by kernel_rfl))
 f49 := ⟨Tryz.f141.name, by decide, Tryz.func141.trans (congrArg some (by kernel_rfl))⟩
 f50 := ⟨Tryz.f142.name, by decide, Tryz.func142.trans (congrArg some (by kernel_rfl))⟩
 f57 := ⟨Tryz.f144.name, by decide, Tryz.func144.trans (congrArg some (by kernel_rfl))⟩
 t0 := Tryz.underlying0, a0 := Tryz.isAgg0, z0 := Tryz.sizeOf0, v0 := Tryz.zeroValue0
 t3 := Tryz.underlying3, a3 := Tryz.isAgg3, z3 := Tryz.sizeOf3, v3 := Tryz.zeroValue3
 t4 := Tryz.underlying4, a4 := Tryz.isAgg4, z4 := Tryz.sizeOf4, v4 := Tryz.zeroValue4
 t5 := Tryz.underlying5, a5 := Tryz.isAgg5, z5 := Tryz.sizeOf5, v5 := Tryz.zeroValue5
 t9 := Tryz.underlying9, a9 := Tryz.isAgg9, z9 := Tryz.sizeOf9, v9 := Tryz.zeroValue9
 t22 := Tryz.underlying134, a22 := Tryz.isAgg134, z22 := Tryz.sizeOf134, v22 := Tryz.zeroValue134
 t25 := Tryz.underlying169, a25 := Tryz.isAgg169, z25 := Tryz.sizeOf169, v25 := Tryz.zeroValue169
 t39 := Tryz.underlying102, a39 := Tryz.isAgg102, z39 := Tryz.sizeOf102, v39 := Tryz.zeroValue102
 t45 := Tryz.underlying193, a45 := Tryz.isAgg193, z45 := Tryz.sizeOf193, v45 := Tryz.zeroValue193
 t46 := Tryz.underlying194, a46 := Tryz.isAgg194, z46 := Tryz.sizeOf194, v46 := Tryz.zeroValue194
 t50 := Tryz.underlying198, a50 := Tryz.isAgg198, z50 := Tryz.sizeOf198, v50 := Tryz.zeroValue198
 t53 := Tryz.underlying25, a53 := Tryz.isAgg25, z53 := Tryz.sizeOf25, v53 := Tryz.zeroValue25
 t55 := Tryz.underlying67, a55 := Tryz.isAgg67, z55 := Tryz.sizeOf67, v55 := Tryz.zeroValue67
 t66 := Tryz.underlying203, a66 := Tryz.isAgg203, z66 := Tryz.sizeOf203, v66 := Tryz.zeroValue203
 t70 := Tryz.underlying207, a70 := Tryz.isAgg207, z70 := Tryz.sizeOf207, v70 := Tryz.zeroValue207
 t76 := Tryz.underlying210, a76 := Tryz.isAgg210, z76 := Tryz.sizeOf210, v76 := Tryz.zeroValue210
 t77 := Tryz.underlying211, a77 := Tryz.isAgg211, z77 := Tryz.sizeOf211, v77 := Tryz.zeroValue211 }
theorem sort_all (val : ByteArray → ByteArray) (g cap : Nat) (ks : List ByteArray) (w : World) (hH : HoldsK (fun k => (entK val k).enc) 3 w g 0 ks.toArray) (hg : g < w.heap.size) (hn : ks.length ≤ 1000000) :
 Calls Tryz.prog 103 #[.slice (some ⟨g, 0, none⟩) ks.length cap, .func (.func 104) #[] #[]] w fun e w' =>
  e = .returned (.tuple #[]) ∧ ∃ m os, w' = sortedW val w g m (srt ks).toArray os := by
 have eg : ∀ args w, (callFunc 104 args).run Tryz.prog w = .ok (.enter 104 args) w := enters_of Tryz.func104 (by kernel_rfl) rfl
 have := AnyQ.slices_SortFunc_total wlays 3 Tryz.isAgg163 Tryz.sizeOf163 (fun k => (entK val k).enc) (fun _ => rfl) (fun x v hv => by simp [Ent.enc] at hv; rcases hv with rfl | rfl | rfl <;> rfl) cfK swoK 104 #[] g 0 cap ks.toArray w eg
  (fun m os dk _ x y => order_any (pathS x) x (val x) (pathS y) y (val y) _) hH hg (by simp; omega) oneK
 rw [show ks.toArray.size = ks.length by simp] at this
 exact this
end Go.Proofs.YtakgolbgeeoioaaGreat
