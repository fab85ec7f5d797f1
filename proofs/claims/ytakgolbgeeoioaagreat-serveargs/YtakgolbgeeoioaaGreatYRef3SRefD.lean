/-
  Pairs: the reference's of layer 11. The reference's Paths and Least; four slices of a call's own.
-/
import Derived.Test.YtakgolbgeeoioaaGreatSRefBSRefCMSRefCYRef1YRef2
import Derived.Test.YtakgolbgeeoioaaGreatMRefLSRefAHSBitMSPairSRefAMHStep
namespace Go.Proofs.YtakgolbgeeoioaaGreat
open Go.RowKit

/-- the pairs that requests put -/
def prsQ (tk : List Req) : List (ByteArray × ByteArray) := (tk.filter fun r => !r.k.toList.isEmpty).map fun r => (r.k, r.v)
theorem prsQ_take (tk : List Req) (k : Nat) (h : k < tk.length) : prsQ (tk.take (k + 1)) = prsQ (tk.take k) ++ (if tk[k].k.toList.isEmpty then [] else [(tk[k].k, tk[k].v)]) := by
 rw [List.take_succ_eq_append_getElem h]
 unfold prsQ
 rw [List.filter_append, List.map_append]
 congr 1
 cases e : tk[k].k.toList.isEmpty <;> simp [e]
theorem prsQ_len (tk : List Req) : (prsQ tk).length ≤ tk.length := by
 unfold prsQ
 rw [List.length_map]
 exact List.length_filter_le _ _
theorem prsQ_fit {tk : List Req} (h : SzQ tk) (n : Nat) : FitP (prsQ (tk.take n)) := by
 intro x hx
 unfold prsQ at hx
 obtain ⟨r, hr, rfl⟩ := List.mem_map.1 hx
 have := of_decide_eq_true (h r (List.mem_of_mem_take (List.mem_filter.1 hr).1))
 exact ⟨by show r.k.size ≤ 250; omega, by show r.v.size ≤ 250; omega⟩
/-- append(v, y), of pairs, carried out in a region -/
theorem wp_append_pair {W : World} {o : Oper} {a : Act} {K : Act → World → Prop} {Q : Exit → Act → World → Prop} (hgd : o.guard = none) (s x : Operand)
 (ho : o.op = .call { callee := .builtin .append, args := #[s, x], argTypes := #[92, 92] }) (B : Nat) (v : Value) (ps : List (ByteArray × ByteArray)) (hs : a.eval s = v) (hown : OwnP W B v ps) (y : ByteArray × ByteArray)
 (hx : a.eval x = .slice (some ⟨W.heap.size, 0, none⟩) 1 1) (hlen : ps.length ≤ 1073741824) (hB : B ≤ W.heap.size)
 (h : ∀ g cap w', OwnP w' B (.slice (some ⟨g, 0, none⟩) (ps.length + 1) cap) (ps ++ [y]) → W.grownBy w' v.ownBlock → K (a.put o.dst (.slice (some ⟨g, 0, none⟩) (ps.length + 1) cap)) w') :
 Oper.wp Tryz.prog o a (W.alloc (.cells #[.string y.1, .string y.2] 123)) K Q := by
 obtain ⟨i0, hi, hz0, hz1, hz2⟩ := info_parts pairInfo
 have h0 := step_append_lies (W.alloc (.cells #[.string y.1, .string y.2] 123)) (ops := #[]) (E := False) (Q := Q) (K := K) hgd s x 92 ho B 123 i0 (.agg #[.string ⟨#[]⟩, .string ⟨#[]⟩]) 2 32 Tryz.underlying92 hi hz0 hz1 hz2 rfl (by decide) v ps.length (pcells ps) hs (World.ownsRow.alloc hown _)
  ⟨W.heap.size, 0, none⟩ 1 1 [.string y.1, .string y.2] hx rfl (two_new W y.1 y.2 123) (by intro u hu; simp at hu; rcases hu with rfl | rfl <;> rfl) (by decide) (by unfold maxLen; omega) (by omega) (by simp; omega) (W.heap.size + 1) (by simp) (fun g cap w' hown1 hgrow _ _ => h g cap w' (by
   unfold OwnP
   rw [List.length_append]
   have e : pcells (ps ++ [y]) = pcells ps ++ [.string y.1, .string y.2] := by simp [pcells]
   rw [e]
   exact hown1) (grown_trans (grown_alloc (grown_refl W _) _) hgrow))
 split at h0
 · exact h0
 · exact h0.elim
set_option maxRecDepth 100000 in
set_option maxHeartbeats 2000000 in
theorem rpairsW_any (oa : Option Addr) (N ca n : Nat) (vb vc : Value) (tk : List Req) (hN : tk.length = N) (hn : n ≤ N) (hN2 : N ≤ 1000) (w : World) (hP : RowG reqK w oa tk) :
 Calls Tryz.prog 38 #[.agg #[.slice oa N ca, vb, vc], .int .i64 n] w (RTP (lastK (prsQ (tk.take n)) (prsQ (tk.take n)).length) w) := by
 have HRT := Lib.hid (show ∀ e w', RTP (lastK (prsQ (tk.take n)) (prsQ (tk.take n)).length) w e w' = ∃ v, e = .returned v ∧ OwnP w' w.heap.size v (lastK (prsQ (tk.take n)) (prsQ (tk.take n)).length) ∧ Below w.heap.size w w' from fun _ _ => rfl)
 have HLV : Hid (∀ (ob : Option Addr) (cb : Nat) (W : World), Prs W ob (prsQ (tk.take n)) → Calls Tryz.prog 68 #[.slice ob (prsQ (tk.take n)).length cb] W fun e w' => ∃ v, e = .returned v ∧ OwnP w' W.heap.size v (lastK (prsQ (tk.take n)) (prsQ (tk.take n)).length) ∧ Below W.heap.size W w') := Lib.hid fun ob cb W hS =>
  last_any ob _ cb (prsQ (tk.take n)) rfl (by have := prsQ_len (tk.take n); rw [List.length_take] at this; omega) W hS
 have HF0 := Lib.hid (show prsQ (tk.take 0) = [] from rfl)
 have HFL := Lib.hid (show ∀ k, k ≤ n → (prsQ (tk.take k)).length ≤ k from fun k hk => by have := prsQ_len (tk.take k); rw [List.length_take] at this; omega)
 have HFS : Hid (∀ k, k < n → ∃ r : Req, prsQ (tk.take (k + 1)) = prsQ (tk.take k) ++ (if r.k.toList.isEmpty then [] else [(r.k, r.v)]) ∧ ∃ g o, oa = some ⟨g, o, none⟩ ∧ ∀ W, Below w.heap.size w W → W.cell? ⟨g, o + k * 5 + 3, none⟩ = some (.string r.k) ∧ W.cell? ⟨g, o + k * 5 + 4, none⟩ = some (.string r.v)) := Lib.hid fun k hk => by
  obtain ⟨g, o, h1, h2, c0, c1, c2, c3, c4⟩ := req_at hP (i := k) (by omega)
  refine ⟨tk[k]'(by omega), prsQ_take tk k (by omega), g, o, h1, fun W hW => ?_⟩
  have hc := fun j => hW.cell (p := ⟨g, j, none⟩) h2
  exact ⟨(hc _).trans c3, (hc _).trans c4⟩
 have hB0 := (Below.refl _ w).alloc (Nat.le_refl _) (.cells #[.slice oa N ca, vb, vc] 43)
 have hK := Blk.new w 43 #[.slice oa N ca, vb, vc]
 generalize RTP (lastK (prsQ (tk.take n)) (prsQ (tk.take n)).length) w = PO at *
 generalize lastK (prsQ (tk.take n)) (prsQ (tk.take n)).length = L at *
 generalize hF : (fun k => prsQ (tk.take k)) = F at *
 have hF' : ∀ k, prsQ (tk.take k) = F k := fun k => by rw [← hF]
 simp only [hF'] at HF0 HFS HFL HLV
 clear hF hF' hP hN
 go_enter Tryz.func38, Tryz.ntmps38
 go_wp2
 generalize w.alloc (.cells #[.slice oa N ca, vb, vc] 43) = w0 at *
 go_loopw [5, 6] (fun v i wr => ∃ k : Nat, k ≤ n ∧ i = .int .i64 k ∧ OwnP wr (w.heap.size + 1) v (F k) ∧ Blk wr w.heap.size 43 #[.slice oa N ca, vb, vc] ∧ Below w.heap.size w wr) (fun _ i _ => n - (intOf i).toNat)
 case atStart => exact ⟨0, by omega, rfl, by rw [HF0.out]; exact ownP_nil _ _, hK, hB0⟩
 case round =>
  clear hK hB0
  obtain ⟨k, hk, rfl, hown, hK, hB⟩ := hrel
  by_cases hlt : k < n
  · have hlt' : (k : Int) < (n : Int) := by omega
    have hkN : (k : Int) < (N : Int) := by omega
    obtain ⟨r, hfs, g, o, rfl, hcs⟩ := HFS.out k hlt
    obtain ⟨c3, c4⟩ := hcs wr hB
    have d0 : wr.cell? ⟨w.heap.size, 0, none⟩ = some (.slice (some ⟨g, o, none⟩) N ca) := hK.cell 0
    have HFK := Lib.hid hfs
    have hlen : (F k).length ≤ 1073741824 := by have := HFL.out k hk; omega
    obtain ⟨rc, rq, rl, rk, rv⟩ := r
    change Hid (F (k + 1) = F k ++ (if rk.toList.isEmpty then [] else [(rk, rv)])) at HFK
    change wr.cell? _ = some (.string rk) at c3
    change wr.cell? _ = some (.string rv) at c4
    have hBk : w.heap.size + 1 ≤ wr.heap.size := hK.lt
    clear hfs
    cases he : rk.toList.isEmpty with
    | true =>
     have he' : (!rk.toList.isEmpty) = false := by rw [he]; rfl
     rw [he] at HFK
     clear hcs
     go_wp2
     go_roundw
     case rel => exact ⟨k + 1, by omega, by go_num, by rw [HFK.out, if_pos rfl, List.append_nil]; exact hown, hK, hB⟩
     case measure => simp [intOf]; omega
    | false =>
     have he' : (!rk.toList.isEmpty) = true := by rw [he]; rfl
     rw [he] at HFK
     have HK := Lib.hid hK
     have HB := Lib.hid hB
     have HKP : Hid (∀ W, Below w.heap.size w W → Blk W w.heap.size 43 #[.slice (some ⟨g, o, none⟩) N ca, vb, vc] → W.cell? ⟨w.heap.size, 0, none⟩ = some (.slice (some ⟨g, o, none⟩) N ca) ∧ W.cell? ⟨g, o + k * 5 + 3, none⟩ = some (.string rk) ∧ W.cell? ⟨g, o + k * 5 + 4, none⟩ = some (.string rv)) :=
      Lib.hid fun W hW hC => ⟨hC.cell 0, (hcs W hW).1, (hcs W hW).2⟩
     clear hcs hK hB
     go_wp2
     refine wp_region_held_drew (S := fun W => W.cell? ⟨w.heap.size, 0, none⟩ = some (.slice (some ⟨g, o, none⟩) N ca) ∧ W.cell? ⟨g, o + k * 5 + 3, none⟩ = some (.string rk) ∧ W.cell? ⟨g, o + k * 5 + 4, none⟩ = some (.string rv)) (by kernel_rfl) ?_ (fun hHeld0 => ?_)
     · (first | exact HKP.out _ hB5 hK5 | exact HKP.out _ ((HB.out.alloc (by have := HK.out.lt; omega) _).drew) (HK.out.alloc _) | exact HKP.out _ HB.out.drew HK.out | exact HKP.out _ HB.out HK.out)
     iterate 14 (apply tkF [0, 1, 2, 3, 4, 5, 6, 7, 8, 9, 10, 11, 12, 13] rfl rfl (by kernel_rfl) (fun _ _ _ h => h) (by rfl); (case hy => (intro w hSw; (try dsimp only at hSw); go_simp; try with_reducible rfl)); (case hS => assumption); (try simp only [Act.put, List.setIfInBounds_toArray, List.set_cons_zero, List.set_cons_succ]))
     refine doH (i := 14) rfl (by kernel_rfl) (by rfl) (fun K hK => ?_)
     go_simp
     refine hK.out _ _ ?_ (fun hHeld14 => ?_)
     · (first | exact HKP.out _ hB5 hK5 | exact HKP.out _ ((HB.out.alloc (by have := HK.out.lt; omega) _).drew) (HK.out.alloc _) | exact HKP.out _ HB.out.drew HK.out | exact HKP.out _ HB.out HK.out)
     clear hK K hHeld0
     (try simp only [Act.put, List.setIfInBounds_toArray, List.set_cons_zero, List.set_cons_succ])
     refine doH (i := 15) rfl (by kernel_rfl) (by rfl) (fun K hK => ?_)
     change Oper.wp _ _ _ (wr.drew.alloc _) _ _
     refine wp_append_pair rfl _ _ rfl (w.heap.size + 1) u5 (F k) rfl (hown.below (Below.refl _ _).drew) (rk, rv) rfl hlen hBk ?_
     intro g5 c5 w5 hown5 hg5
     have hB5 := (HB.out.drew).grown hg5 (HB.out.drew).size (fun z hz => by have := (World.ownsRow.lt hown z hz).1; omega)
     have hK5 := Blk.grown (w := wr.drew) HK.out hg5 (fun e => by have := (World.ownsRow.lt hown w.heap.size e.symm).1; omega)
     refine hK.out _ _ ?_ (fun hHeld15 => ?_)
     · (first | exact HKP.out _ hB5 hK5 | exact HKP.out _ ((HB.out.alloc (by have := HK.out.lt; omega) _).drew) (HK.out.alloc _) | exact HKP.out _ HB.out.drew HK.out | exact HKP.out _ HB.out HK.out)
     clear hK K hHeld14
     (try simp only [Act.put, List.setIfInBounds_toArray, List.set_cons_zero, List.set_cons_succ])
     (apply tkF [16] rfl rfl (by kernel_rfl) (fun _ _ _ h => h) (by rfl); (case hy => (intro w hSw; (try dsimp only at hSw); go_simp; try with_reducible rfl)); (case hS => assumption); (try simp only [Act.put, List.setIfInBounds_toArray, List.set_cons_zero, List.set_cons_succ]))
     refine wpAnyH_done (by kernel_rfl) ?_ _
     go_wp2
     go_roundw
     case rel => exact ⟨k + 1, by omega, by go_num, by rw [HFK.out, if_neg (by decide : ¬ (false = true))]; exact hown5, hK5, hB5⟩
     case measure => simp [intOf]; omega
  · obtain rfl : k = n := by omega
    have hlt' : ¬ (k : Int) < (k : Int) := by omega
    obtain ⟨ob, cb, hv, _, hS⟩ := hown.form
    subst hv
    have HLVN := Lib.hid (fun W hS => HLV.out ob cb W hS)
    clear hlt hk
    go_wp2_with fail
    refine (HLVN.out _ hS).mono ?_
    rintro e w1 ⟨v, rfl, hv, hb1⟩
    have hB1 := hB.trans (hb1.mono hB.size)
    go_wp2
    rw [HRT.out]
    exact ⟨_, rfl, World.ownsRow.mono hv hB.size, hB1⟩
end Go.Proofs.YtakgolbgeeoioaaGreat
namespace Go.Proofs.YtakgolbgeeoioaaGreat
open Go.RowKit

set_option maxRecDepth 100000 in
set_option maxHeartbeats 1000000 in
theorem paths_any (oa : Option Addr) (n cap : Nat) (ps : List (ByteArray × ByteArray)) (hn : ps.length = n) (hsz : n ≤ 1000) (hF : FitP ps) (w : World) (hP : Prs w oa ps) :
 Calls Tryz.prog 53 #[.slice oa n cap] w (RT (fstN (fun i => pathS (keyP ps i)) n) w) := by
 have HH := Lib.hid (show ∀ (k : ByteArray) (_ : k.size ≤ 250) W, Calls Tryz.prog 41 #[.string (⟨#[75]⟩ ++ k)] W fun e w' => e = .returned (.string (pathS k)) ∧ Below W.heap.size W w' from fun k hk W => by
  have h1 : (⟨#[75]⟩ : ByteArray).size = 1 := rfl
  have h2 : ((⟨#[75]⟩ : ByteArray) ++ k).size ≤ 1099511627776 := by rw [ByteArray.size_append, h1]; omega
  have := rh5_any (⟨#[75]⟩ ++ k) h2 W
  rw [show pathS k = hB (⟨#[75]⟩ ++ k) from rfl]
  exact this)
 generalize pathS = PS at *
 have HRT := Lib.hid (show ∀ e w', RT (fstN (fun i => PS (keyP ps i)) n) w e w' = ∃ v, e = .returned v ∧ Own w' w.heap.size v (fstN (fun i => PS (keyP ps i)) n) ∧ Below w.heap.size w w' from fun _ _ => rfl)
 have HF0 := Lib.hid (show fstN (fun i => PS (keyP ps i)) 0 = [] from rfl)
 have HFS := Lib.hid (show ∀ k, fstN (fun i => PS (keyP ps i)) (k + 1) = fstN (fun i => PS (keyP ps i)) k ++ [PS (keyP ps k)] from fun k => fstN_succ _ k)
 have HFL := Lib.hid (show ∀ k, (fstN (fun i => PS (keyP ps i)) k).length = k from fun k => fstN_length _ k)
 generalize RT (fstN (fun i => PS (keyP ps i)) n) w = PO at *
 generalize fstN (fun i => PS (keyP ps i)) = F at *
 have HAT : Hid (∀ W i, Below w.heap.size w W → i < n → ∃ g o, oa = some ⟨g, o, none⟩ ∧ W.cell? ⟨g, o + i * 2, none⟩ = some (.string (keyP ps i)) ∧ (keyP ps i).size ≤ 250) := Lib.hid fun W i hW hi => by
  obtain ⟨g, o, h1, h2, h3, h4⟩ := hP.at (i := i) (by omega)
  have := hF.get (i := i) (by omega)
  refine ⟨g, o, h1, ?_, ?_⟩
  · unfold keyP; rw [getD_pair (by omega)]; exact (hW.cell (p := ⟨g, o + i * 2, none⟩) h2).trans h3
  · unfold keyP; rw [getD_pair (by omega)]; exact this.1
 clear hP hn hF
 go_enter Tryz.func53, Tryz.ntmps53
 go_wp2
 go_loopw [3, 4] (fun v i wr => ∃ k : Nat, k ≤ n ∧ i = .int .i64 k ∧ Own wr w.heap.size v (F k) ∧ Below w.heap.size w wr) (fun _ i _ => n - (intOf i).toNat)
 case atStart => exact ⟨0, by omega, rfl, by rw [HF0.out]; exact own_nil _ _, Below.refl _ _⟩
 case round =>
  obtain ⟨k, hk, rfl, hown, hB⟩ := hrel
  by_cases hlt : k < n
  · have hlt' : (k : Int) < (n : Int) := by omega
    obtain ⟨g, o, rfl, c1, hks⟩ := HAT.out wr k hB hlt
    have HFK := Lib.hid (HFS.out k)
    have HFKL := Lib.hid (HFL.out k)
    have hlen : (F k).length ≤ 1073741824 := by rw [HFL.out]; omega
    have HH1 := Lib.hid (HH.out (keyP ps k) hks)
    generalize PS (keyP ps k) = R at *
    generalize keyP ps k = X at *
    have z0 : (⟨#[75]⟩ : ByteArray).size = 1 := rfl
    have a1 : ¬ (⟨#[75]⟩ : ByteArray).size + X.size > 9223372036854775807 := by omega
    have HO := Lib.hid hown
    have HB0 := Lib.hid hB
    clear hown hB HH z0 hks
    go_wp2_with fail
    refine (HH1.out _).mono ?_
    rintro e w4 ⟨rfl, hb4⟩
    have hown4 := HO.out.below hb4
    have hB4 := HB0.out.trans (hb4.mono HB0.out.size)
    clear hb4 HO HB0 HH1
    go_wp2_with (at_builtin; refine wpList_append_txt rfl _ _ rfl w.heap.size u3 (F k) rfl hown4 R rfl hlen hB4.size ?_)
    intro g5 c5 w5 hown5 hg5
    rw [HFKL.out, ← HFK.out] at hown5
    have hB5 := hB4.grown hg5 hB4.size (fun z hz => (World.ownsRow.lt hown4 z hz).1)
    clear hown4 hB4 hg5
    rw [HFKL.out]
    go_wp2
    go_roundw
    case rel => exact ⟨k + 1, by omega, by go_num, hown5, hB5⟩
    case measure => simp [intOf]; omega
  · obtain rfl : k = n := by omega
    have hlt' : ¬ (k : Int) < (k : Int) := by omega
    clear hlt
    go_wp2
    rw [HRT.out]
    exact ⟨_, rfl, hown, hB⟩

/-- a pair of a size that is looked at -/
def RPr (w : World) (e : Ending) (w' : World) : Prop := (∃ X Y : ByteArray, e = .returned (.agg #[.string X, .string Y]) ∧ X.size ≤ 250 ∧ Y.size ≤ 250) ∧ Below w.heap.size w w'
set_option maxRecDepth 100000 in
set_option maxHeartbeats 1000000 in
theorem least_any (oa : Option Addr) (n cap : Nat) (ps : List (ByteArray × ByteArray)) (hn : ps.length = n) (h1 : 1 ≤ n) (hsz : n ≤ 1000) (hF : FitP ps) (w : World) (hP : Prs w oa ps) :
 Calls Tryz.prog 83 #[.slice oa n cap] w (RPr w) := by
 have HAT : Hid (∀ W i, Below w.heap.size w W → i < n → ∃ g o X Y, oa = some ⟨g, o, none⟩ ∧ W.cell? ⟨g, o + i * 2, none⟩ = some (.string X) ∧ W.cell? ⟨g, o + i * 2 + 1, none⟩ = some (.string Y) ∧ X.size ≤ 250 ∧ Y.size ≤ 250) := Lib.hid fun W i hW hi => by
  obtain ⟨g, o, h1, h2, h3, h4⟩ := hP.at (i := i) (by omega)
  have := hF.get (i := i) (by omega)
  exact ⟨g, o, _, _, h1, (hW.cell (p := ⟨g, o + i * 2, none⟩) h2).trans h3, (hW.cell (p := ⟨g, o + i * 2 + 1, none⟩) h2).trans h4, this.1, this.2⟩
 have HRP : Hid (∀ e w', RPr w e w' = ((∃ X Y : ByteArray, e = .returned (.agg #[.string X, .string Y]) ∧ X.size ≤ 250 ∧ Y.size ≤ 250) ∧ Below w.heap.size w w')) := Lib.hid fun _ _ => rfl
 have hB0 := (Below.refl _ w).alloc (Nat.le_refl _) (.cells #[.string ⟨#[]⟩, .string ⟨#[]⟩] 123)
 obtain ⟨g, o, X0, Y0, rfl, c1, c2, hx0, hy0⟩ := HAT.out _ 0 hB0 (by omega)
 rw [Nat.zero_mul, Nat.add_zero] at c1 c2
 have hnp : 0 < n := h1
 generalize RPr w = PO at *
 clear hP hF hn
 go_enter Tryz.func83, Tryz.ntmps83
 go_wp2
 obtain ⟨w1, hw1⟩ : ∃ w1, (w.alloc (.cells #[.string ⟨#[]⟩, .string ⟨#[]⟩] 123)).alloc (.cells #[.string X0, .string Y0] 123) = w1 := ⟨_, rfl⟩
 have k0 : Blk w1 w.heap.size 123 #[.string ⟨#[]⟩, .string ⟨#[]⟩] := by rw [← hw1]; exact (Blk.new _ _ _).alloc _
 have k1 : Blk w1 (w.heap.size + 1) 123 #[.string X0, .string Y0] := by rw [← hw1]; exact Blk.new_at (by simp)
 have hB1 : Below w.heap.size w w1 := by rw [← hw1]; exact hB0.alloc (by simp) _
 rw [hw1]
 clear hw1 c1 c2 hB0
 go_loopw [4] (fun i wr => ∃ (j : Nat) (X Y : ByteArray), 1 ≤ j ∧ j ≤ n ∧ i = .int .i64 j ∧ Blk wr w.heap.size 123 #[.string ⟨#[]⟩, .string ⟨#[]⟩] ∧ Blk wr (w.heap.size + 1) 123 #[.string X, .string Y] ∧ X.size ≤ 250 ∧ Y.size ≤ 250 ∧ Below w.heap.size w wr) (fun i _ => n - (intOf i).toNat)
 case atStart => exact ⟨1, X0, Y0, Nat.le_refl _, h1, rfl, k0, k1, hx0, hy0, hB1⟩
 case round =>
  clear k0 k1 hB1
  obtain ⟨j, X, Y, hj1, hj, rfl, k0, k1, hx, hy, hB⟩ := hrel
  by_cases hlt : j < n
  · have hlt' : (j : Int) < (n : Int) := by omega
    obtain ⟨g', o', X1, Y1, hgo, c1, c2, hx1, hy1⟩ := HAT.out wr j hB hlt
    have hgo' : g = g' ∧ o = o' := by simpa using hgo
    obtain ⟨rfl, rfl⟩ := hgo'
    have q0 : wr.cell? ⟨w.heap.size + 1, 0, none⟩ = some (.string X) := k1.cell 0
    have HK0 := Lib.hid k0
    have HK1 := Lib.hid k1
    have HB := Lib.hid hB
    clear k0 k1 hB hgo
    go_wp2
    go_quiet (fail)
    have c1' : (wr.drewN nq).cell? ⟨g, o + j * 2, none⟩ = some (.string X1) := c1
    have c2' : (wr.drewN nq).cell? ⟨g, o + j * 2 + 1, none⟩ = some (.string Y1) := c2
    have m0 : Blk (wr.drewN nq) w.heap.size 123 #[.string ⟨#[]⟩, .string ⟨#[]⟩] := HK0.out
    have m1 : Blk (wr.drewN nq) (w.heap.size + 1) 123 #[.string X, .string Y] := HK1.out
    have hB2 : Below w.heap.size w (wr.drewN nq) := below_drewN HB.out nq
    clear c1 c2 q0 HK0 HK1 HB
    generalize wr.drewN nq = w2 at *
    generalize Op.bytesLess X1.toList X.toList = bb at *
    cases bb
    · go_wp2
      go_roundw
      case rel => exact ⟨j + 1, X, Y, by omega, by omega, by go_num, m0, m1, hx, hy, hB2⟩
      case measure => simp [intOf]; omega
    · have s0 : w2.cell? ⟨w.heap.size + 1, 0, none⟩ = some (.string X) := m1.cell 0
      have s1 : w2.cell? ⟨w.heap.size + 1, 1, none⟩ = some (.string Y) := m1.cell 1
      have f0 := m1.frozen 0
      have f1 := m1.frozen 1
      have HM0 := Lib.hid m0
      have HM1 := Lib.hid m1
      have HB2 := Lib.hid hB2
      clear m0 m1 hB2
      go_wp2
      have n1 := (HM1.out.set_ 0 (.string X1)).set_ 1 (.string Y1)
      have n0 := (HM0.out.far (p := ⟨w.heap.size + 1, 0, none⟩) (by show w.heap.size ≠ w.heap.size + 1; omega) (.string X1)).far (p := ⟨w.heap.size + 1, 1, none⟩) (by show w.heap.size ≠ w.heap.size + 1; omega) (.string Y1)
      have hB3 := (HB2.out.setCell (p := ⟨w.heap.size + 1, 0, none⟩) (by show w.heap.size ≤ w.heap.size + 1; omega) (.string X1)).setCell (p := ⟨w.heap.size + 1, 1, none⟩) (by show w.heap.size ≤ w.heap.size + 1; omega) (.string Y1)
      generalize (w2.setCell ⟨w.heap.size + 1, 0, none⟩ (.string X1)).setCell ⟨w.heap.size + 1, 1, none⟩ (.string Y1) = w3 at *
      clear s0 s1 f0 f1 HM0 HM1 HB2 c1' c2'
      go_roundw
      case rel => exact ⟨j + 1, X1, Y1, by omega, by omega, by go_num, n0, n1, hx1, hy1, hB3⟩
      case measure => simp [intOf]; omega
  · obtain rfl : j = n := by omega
    have hlt' : ¬ (j : Int) < (j : Int) := by omega
    have s0 : wr.cell? ⟨w.heap.size + 1, 0, none⟩ = some (.string X) := k1.cell 0
    have s1 : wr.cell? ⟨w.heap.size + 1, 1, none⟩ = some (.string Y) := k1.cell 1
    have t0 : wr.cell? ⟨w.heap.size, 0, none⟩ = some (.string ⟨#[]⟩) := k0.cell 0
    have t1 : wr.cell? ⟨w.heap.size, 1, none⟩ = some (.string ⟨#[]⟩) := k0.cell 1
    have f0 := k0.frozen 0
    have f1 := k0.frozen 1
    have HK0 := Lib.hid k0
    have HB := Lib.hid hB
    clear hlt k0 k1 hB
    go_wp2
    have n1 : Blk ((wr.setCell ⟨w.heap.size, 0, none⟩ (.string X)).setCell ⟨w.heap.size, 1, none⟩ (.string Y)) w.heap.size 123 #[.string X, .string Y] := (HK0.out.set_ 0 (.string X)).set_ 1 (.string Y)
    have hB3 := (HB.out.setCell (p := ⟨w.heap.size, 0, none⟩) (Nat.le_refl _) (.string X)).setCell (p := ⟨w.heap.size, 1, none⟩) (Nat.le_refl _) (.string Y)
    refine bodyPost_ret (results_cell_row rfl _ _ w.heap.size 123 #[.string X, .string Y] (0, 0) _ rfl n1 Tryz.underlying123 rfl (by kernel_rfl)) rfl ?_
    rw [HRP.out]
    exact ⟨⟨X, Y, rfl, hx, hy⟩, hB3⟩

/-- four slices of the call's own, no two in one block -/
structure Apt4 (a b p q : Value) : Prop where
 ab : Apt a b
 ap : Apt a p
 aq : Apt a q
 bp : Apt b p
 bq : Apt b q
 pq : Apt p q
theorem Apt4.swap {a b p q : Value} (h : Apt4 a b p q) : Apt4 b a q p := ⟨h.ab.symm, h.bq, h.bp, h.aq, h.ap, h.pq.symm⟩
theorem apt4_nil : Apt4 (.slice none 0 0) (.slice none 0 0) (.slice none 0 0) (.slice none 0 0) := ⟨apt_nil _, apt_nil _, apt_nil _, apt_nil _, apt_nil _, apt_nil _⟩
/-- pairs and their paths, in slices of the call's own -/
structure TwoS (W : World) (B : Nat) (va vp : Value) (A : List (ByteArray × ByteArray)) (P : List ByteArray) : Prop where
 own : OwnP W B va A
 ownp : Own W B vp P
 len : A.length = P.length
 fit : FitP A
 sz : ∀ s ∈ P, s.size = 32
theorem twoS_nil (W : World) (B : Nat) : TwoS W B (.slice none 0 0) (.slice none 0 0) [] [] := ⟨ownP_nil _ _, own_nil _ _, rfl, fun _ h => (by cases h), fun _ h => (by cases h)⟩
theorem TwoS.below {W W' : World} {B : Nat} {va vp : Value} {A : List (ByteArray × ByteArray)} {P : List ByteArray} (h : TwoS W B va vp A P) (hb : Below W.heap.size W W') : TwoS W' B va vp A P := ⟨h.own.below hb, h.ownp.below hb, h.len, h.fit, h.sz⟩
theorem TwoS.kept {W W' : World} {B : Nat} {va vp : Value} {A : List (ByteArray × ByteArray)} {P : List ByteArray} {row : Option Nat} (h : TwoS W B va vp A P) (hg : W.grownBy W' row) (h1 : va.ownBlock = none ∨ va.ownBlock ≠ row) (h2 : vp.ownBlock = none ∨ vp.ownBlock ≠ row) : TwoS W' B va vp A P :=
 ⟨h.own.grown hg h1, h.ownp.grown2 hg h2, h.len, h.fit, h.sz⟩
theorem apt4_a {W : World} {B g l c : Nat} {a b p q : Value} {A Bs : List (ByteArray × ByteArray)} {P Q : List ByteArray} (h : Apt4 a b p q) (_ : TwoS W B a p A P) (h2 : TwoS W B b q Bs Q) (hp : Own W B p P) (hat : a.ownBlock = some g ∨ g = W.heap.size + 1) : Apt4 (.slice (some ⟨g, 0, none⟩) l c) b p q :=
 ⟨h.ab.app h2.own hat, h.ap.app hp hat, h.aq.app h2.ownp hat, h.bp, h.bq, h.pq⟩
theorem apt4_p {W : World} {B g l c : Nat} {a b p q : Value} {A Bs : List (ByteArray × ByteArray)} {Q : List ByteArray} (h : Apt4 a b p q) (ha : OwnP W B a A) (h2 : TwoS W B b q Bs Q) (hat : p.ownBlock = some g ∨ g = W.heap.size + 1) : Apt4 a b (.slice (some ⟨g, 0, none⟩) l c) q :=
 ⟨h.ab, (h.ap.symm.app ha hat).symm, h.aq, (h.bp.symm.app h2.own hat).symm, h.bq, h.pq.app h2.ownp hat⟩
theorem sz_snoc {P : List ByteArray} (h : ∀ s ∈ P, s.size = 32) {y : ByteArray} (hy : y.size = 32) : ∀ s ∈ P ++ [y], s.size = 32 := fun s hs => by
 rcases List.mem_append.1 hs with hs | hs
 · exact h s hs
 · rw [List.mem_singleton.1 hs]; exact hy
end Go.Proofs.YtakgolbgeeoioaaGreat
