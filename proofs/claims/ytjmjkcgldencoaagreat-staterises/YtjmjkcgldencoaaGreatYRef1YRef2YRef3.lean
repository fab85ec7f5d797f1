/-
  Small, Few, Leaves, Pairs: the reference's of layer 11. Leaves: the reference's of layer 11. Pairs: the reference's of layer 11.
-/
import Derived.Test.YtjmjkcgldencoaaGreatGRowWNumWReqYKindYSl
import Derived.Test.YtjmjkcgldencoaaGreatMMathMRootMRefL
import Derived.Test.YtjmjkcgldencoaaGreatSRefBSRefCMSRefC
import Derived.Test.YtjmjkcgldencoaaGreatHStep
namespace Go.Proofs.YtjmjkcgldencoaaGreat
open Go.RowKit

/-- a request of a size that is looked at -/
def smallB (r : Req) : Bool := decide (r.l.size ≤ 250 ∧ r.k.size ≤ 100 ∧ r.v.size ≤ 150)
set_option maxRecDepth 100000 in
set_option maxHeartbeats 1000000 in
theorem rsmall_any (r : Req) (w : World) : Calls Tryz.prog 10 #[.agg r.enc.toArray] w fun e w' => e = .returned (.bool (smallB r)) ∧ Below w.heap.size w w' := by
  obtain ⟨c, q, l, k, v⟩ := r
  show Calls Tryz.prog _ #[.agg #[.int .i64 c, .int .i64 q, .string l, .string k, .string v]] w _
  have hB0 := (Below.refl _ w).alloc (Nat.le_refl _) (.cells #[.int .i64 c, .int .i64 q, .string l, .string k, .string v] 24)
  have hK := Blk.new w 24 #[.int .i64 c, .int .i64 q, .string l, .string k, .string v]
  obtain ⟨_, _, c2, c3, c4⟩ := cells5 hK
  have HV : Hid (∀ b : Bool, (b = true ↔ (l.size ≤ 250 ∧ k.size ≤ 100 ∧ v.size ≤ 150)) → b = smallB ⟨c, q, l, k, v⟩) := Lib.hid fun b h => by
    unfold smallB
    rw [Bool.eq_iff_iff, decide_eq_true_iff]
    exact h
  generalize smallB ⟨c, q, l, k, v⟩ = V at *
  clear hK
  by_cases h1 : l.size ≤ 250
  · have h1' : (l.size : Int) ≤ 250 := by omega
    by_cases h2 : k.size ≤ 100
    · have h2' : (k.size : Int) ≤ 100 := by omega
      go_enter Tryz.func10, Tryz.ntmps10
      go_wp2
      go_ret
      exact ⟨boolEq (HV.out _ (by simp [h1, h2]; try omega)), hB0⟩
    · have h2' : ¬ (k.size : Int) ≤ 100 := by omega
      go_enter Tryz.func10, Tryz.ntmps10
      go_wp2
      go_ret
      exact ⟨boolEq (HV.out _ (by simp [h2])), hB0⟩
  · have h1' : ¬ (l.size : Int) ≤ 250 := by omega
    go_enter Tryz.func10, Tryz.ntmps10
    go_wp2
    go_ret
    exact ⟨boolEq (HV.out _ (by simp [h1])), hB0⟩
/-- what Few answers -/
def RFewO (n m : Nat) (os : List OpR) (w : World) (e : Ending) (w' : World) : Prop := (∃ b, e = .returned (.bool b) ∧ (b = true → n ≤ m ∧ ∀ x ∈ os, smallB x.r = true)) ∧ Below w.heap.size w w'
set_option maxRecDepth 100000 in
set_option maxHeartbeats 1000000 in
theorem rfewO_any (oa : Option Addr) (n cap m : Nat) (os : List OpR) (hn : os.length = n) (hm : m ≤ 200) (w : World) (hP : RowG opK w oa os) :
    Calls Tryz.prog 9 #[.slice oa n cap, .int .i64 m] w (RFewO n m os w) := by
  have HP := Lib.hid hP
  have HN := Lib.hid hn
  have HRF : Hid (∀ e w', RFewO n m os w e w' = ((∃ b, e = .returned (.bool b) ∧ (b = true → n ≤ m ∧ ∀ x ∈ os, smallB x.r = true)) ∧ Below w.heap.size w w')) := Lib.hid fun _ _ => rfl
  have HSM := Lib.hid rsmall_any
  generalize RFewO n m os w = PO at *
  clear hP hn
  go_enter Tryz.func9, Tryz.ntmps9
  go_wp2
  go_loopw [5] (fun v wr => ∃ k : Nat, k ≤ n ∧ k ≤ 200 ∧ v = .int .i64 k ∧ Hid (∀ i (h : i < os.length), i < k → smallB os[i].r = true) ∧ Below w.heap.size w wr) (fun v _ => 200 - (intOf v).toNat)
  case atStart => exact ⟨0, by omega, by omega, rfl, Lib.hid fun i _ h => absurd h (Nat.not_lt_zero _), Below.refl _ _⟩
  case round =>
    obtain ⟨k, hk, hk5, rfl, HF, hB⟩ := hrel
    by_cases hkn : k < n
    · have hkn' : (k : Int) < (n : Int) := by omega
      by_cases hk50 : k < 200
      · have hk50' : (k : Int) < 200 := by omega
        obtain ⟨g, o, rfl, hg, c0, c1, c2, c3, c4, _, _⟩ := op_at (HP.out.below hB) (i := k) (by rw [HN.out]; exact hkn)
        have HK := Lib.hid (show ∀ i (h : i < os.length), i < k + 1 → smallB (os[k]'(by rw [HN.out]; exact hkn)).r = true → smallB os[i].r = true from fun i h hi hh => by
          rcases Nat.lt_or_eq_of_le (Nat.le_of_lt_succ hi) with h1 | rfl
          · exact HF.out i h h1
          · exact hh)
        generalize hR : (os[k]'(by rw [HN.out]; exact hkn)).r = r at *
        have HS1 := Lib.hid (HSM.out r)
        generalize smallB r = sb at *
        obtain ⟨rc, rq, rl, rk, rv⟩ := r
        change Hid (∀ W, Calls Tryz.prog _ #[.agg #[.int .i64 rc, .int .i64 rq, .string rl, .string rk, .string rv]] W _) at HS1
        clear hR HSM
        go_wp2_with fail
        refine (HS1.out _).mono ?_
        rintro e w2 ⟨rfl, hb2⟩
        have hB2 := hB.trans (hb2.mono hB.size)
        clear c0 c1 c2 c3 c4 hB hb2
        cases sb
        · go_wp2
          rw [HRF.out]
          exact ⟨⟨false, rfl, fun h => by cases h⟩, hB2⟩
        · go_wp2
          go_roundw
          case rel => exact ⟨k + 1, by omega, by omega, by go_num, Lib.hid fun i h hi => HK.out i h hi trivial, hB2⟩
          case measure => simp [intOf]; omega
      · have hk50' : ¬ (k : Int) < 200 := by omega
        have hnm : ¬ (n : Int) ≤ (m : Int) := by omega
        go_wp2
        rw [HRF.out]
        exact ⟨⟨false, rfl, fun h => by cases h⟩, hB⟩
    · have hkn' : ¬ (k : Int) < (n : Int) := by omega
      have HFin : Hid (n ≤ m → n ≤ m ∧ ∀ x ∈ os, smallB x.r = true) := Lib.hid fun h => ⟨h, fun x hx => by
        obtain ⟨i, hi, rfl⟩ := List.getElem_of_mem hx
        exact HF.out i hi (by have := HN.out; omega)⟩
      by_cases hnm : n ≤ m
      · have hnm' : (n : Int) ≤ (m : Int) := by omega
        go_wp2
        rw [HRF.out]
        exact ⟨⟨true, rfl, fun _ => HFin.out hnm⟩, hB⟩
      · have hnm' : ¬ (n : Int) ≤ (m : Int) := by omega
        go_wp2
        rw [HRF.out]
        exact ⟨⟨false, rfl, fun h => by cases h⟩, hB⟩
end Go.Proofs.YtjmjkcgldencoaaGreat
namespace Go.Proofs.YtjmjkcgldencoaaGreat
open Go.RowKit

/-- a request's bytes, and its leaf's hash -/
def reqQ (r : Req) : ByteArray := reqB r.c r.q r.l r.k r.v
def leafQ (r : Req) : ByteArray := leafM (reqQ r)
/-- requests that are not too long -/
def SzQ (tk : List Req) : Prop := ∀ r ∈ tk, smallB r = true
theorem SzQ.get {tk : List Req} (h : SzQ tk) {i : Nat} (hi : i < tk.length) : tk[i].l.size ≤ 250 ∧ tk[i].k.size ≤ 100 ∧ tk[i].v.size ≤ 150 := of_decide_eq_true (h _ (List.getElem_mem hi))
theorem SzQ.reqs {tk : List Req} (h : SzQ tk) (n : Nat) : Sz ((tk.take n).map reqQ) := by
  intro x hx
  obtain ⟨r, hr, rfl⟩ := List.mem_map.1 hx
  have := of_decide_eq_true (h r (List.mem_of_mem_take hr))
  unfold reqQ
  rw [reqB_size]
  omega
theorem reqs_take (tk : List Req) (k : Nat) (h : k < tk.length) : (tk.take (k + 1)).map reqQ = (tk.take k).map reqQ ++ [reqQ tk[k]] := by
  rw [List.take_succ_eq_append_getElem h, List.map_append]
  rfl
set_option maxRecDepth 100000 in
set_option maxHeartbeats 1000000 in
theorem rleavesW_any (oa : Option Addr) (N ca n : Nat) (vb vc : Value) (tk : List Req) (hN : tk.length = N) (hn : n ≤ N) (hN2 : N ≤ 1000000) (hz : SzQ tk) (w : World) (hP : RowG reqK w oa tk) :
    Calls Tryz.prog 19 #[.agg #[.slice oa N ca, vb, vc], .int .i64 n] w (RT ((tk.take n).map leafQ) w) := by
  have HRT := Lib.hid (show ∀ e w', RT ((tk.take n).map leafQ) w e w' = ∃ v, e = .returned v ∧ Own w' w.heap.size v ((tk.take n).map leafQ) ∧ Below w.heap.size w w' from fun _ _ => rfl)
  have HLV : Hid (∀ (ob : Option Addr) (cb : Nat) (W : World), Strs W ob ((tk.take n).map reqQ) → Calls Tryz.prog 36 #[.slice ob n cb] W fun e w' => ∃ v, e = .returned v ∧ Own w' W.heap.size v ((tk.take n).map leafQ) ∧ Below W.heap.size W w') := Lib.hid fun ob cb W hS => by
    have := rleaves_any ob n cb ((tk.take n).map reqQ) (by rw [List.length_map, List.length_take]; omega) (by omega) (hz.reqs n) W hS
    rw [List.map_map] at this
    exact this
  have HF0 := Lib.hid (show (tk.take 0).map reqQ = [] from rfl)
  have HFL := Lib.hid (show ∀ k, k ≤ n → ((tk.take k).map reqQ).length = k from fun k hk => by rw [List.length_map, List.length_take]; omega)
  have HFS : Hid (∀ k, k < n → ∃ r : Req, smallB r = true ∧ (tk.take (k + 1)).map reqQ = (tk.take k).map reqQ ++ [reqQ r] ∧ ∃ g o, oa = some ⟨g, o, none⟩ ∧ ∀ W, Below w.heap.size w W → W.cell? ⟨g, o + k * 5, none⟩ = some (.int .i64 r.c) ∧ W.cell? ⟨g, o + k * 5 + 1, none⟩ = some (.int .i64 r.q) ∧ W.cell? ⟨g, o + k * 5 + 2, none⟩ = some (.string r.l) ∧ W.cell? ⟨g, o + k * 5 + 3, none⟩ = some (.string r.k) ∧ W.cell? ⟨g, o + k * 5 + 4, none⟩ = some (.string r.v)) := Lib.hid fun k hk => by
    obtain ⟨g, o, h1, h2, c0, c1, c2, c3, c4⟩ := req_at hP (i := k) (by omega)
    refine ⟨tk[k]'(by omega), hz _ (List.getElem_mem _), reqs_take tk k (by omega), g, o, h1, fun W hW => ?_⟩
    have hc := fun j => hW.cell (p := ⟨g, j, none⟩) h2
    exact ⟨(hc _).trans c0, (hc _).trans c1, (hc _).trans c2, (hc _).trans c3, (hc _).trans c4⟩
  have HRQ : Hid (∀ (r : Req), smallB r = true → ∀ W, Calls Tryz.prog 35 #[.agg #[.int .i64 r.c, .int .i64 r.q, .string r.l, .string r.k, .string r.v]] W fun e w' => e = .returned (.string (reqQ r)) ∧ Below W.heap.size W w') := Lib.hid fun r hr W => by
    have := of_decide_eq_true hr
    exact rrequest_any r.c r.q r.l r.k r.v (by omega) (by omega) (by omega) W
  have hB0 := (Below.refl _ w).alloc (Nat.le_refl _) (.cells #[.slice oa N ca, vb, vc] 40)
  have hK := Blk.new w 40 #[.slice oa N ca, vb, vc]
  generalize RT ((tk.take n).map leafQ) w = PO at *
  generalize (tk.take n).map leafQ = L at *
  generalize hF : (fun k => (tk.take k).map reqQ) = F at *
  have hF' : ∀ k, (tk.take k).map reqQ = F k := fun k => by rw [← hF]
  simp only [hF'] at HF0 HFS HFL HLV
  clear hF hF' hz hP hN
  go_enter Tryz.func19, Tryz.ntmps19
  go_wp2
  generalize w.alloc (.cells #[.slice oa N ca, vb, vc] 40) = w0 at *
  go_loopw [5, 6] (fun v i wr => ∃ k : Nat, k ≤ n ∧ i = .int .i64 k ∧ Own wr (w.heap.size + 1) v (F k) ∧ Blk wr w.heap.size 40 #[.slice oa N ca, vb, vc] ∧ Below w.heap.size w wr) (fun _ i _ => n - (intOf i).toNat)
  case atStart => exact ⟨0, by omega, rfl, by rw [HF0.out]; exact own_nil _ _, hK, hB0⟩
  case round =>
    clear hK hB0
    obtain ⟨k, hk, rfl, hown, hK, hB⟩ := hrel
    by_cases hlt : k < n
    · have hlt' : (k : Int) < (n : Int) := by omega
      have hkN : (k : Int) < (N : Int) := by omega
      obtain ⟨r, hr, hfs, g, o, rfl, hcs⟩ := HFS.out k hlt
      obtain ⟨c0, c1, c2, c3, c4⟩ := hcs wr hB
      have d0 : wr.cell? ⟨w.heap.size, 0, none⟩ = some (.slice (some ⟨g, o, none⟩) N ca) := hK.cell 0
      have HQ := Lib.hid (HRQ.out r hr)
      have HFK := Lib.hid hfs
      have HFKL := Lib.hid (HFL.out k hk)
      have hlen : (F k).length ≤ 1073741824 := by rw [HFL.out k hk]; omega
      have HK := Lib.hid hK
      generalize reqQ r = R at *
      obtain ⟨rc, rq, rl, rk, rv⟩ := r
      have hBk : w.heap.size + 1 ≤ wr.heap.size := hK.lt
      clear hfs hr hcs hK
      go_wp2_with fail
      refine (HQ.out _).mono ?_
      rintro e w1 ⟨rfl, hb1⟩
      have hown1 := hown.below hb1
      have hK1 := HK.out.below hb1 HK.out.lt
      have hB1 := hB.trans (hb1.mono hB.size)
      have hBk1 := Nat.le_trans hBk hb1.size
      clear hown hB hb1 c0 c1 c2 c3 c4 d0
      go_wp2_with (at_builtin; refine wpList_append_txt rfl _ _ rfl (w.heap.size + 1) u5 (F k) rfl hown1 R rfl hlen hBk1 ?_)
      intro g5 c5 w5 hown5 hg5
      rw [HFKL.out, ← HFK.out] at hown5
      have hB5 := hB1.grown hg5 hB1.size (fun z hz => by have := (World.ownsRow.lt hown1 z hz).1; omega)
      have hK5 := hK1.grown hg5 (fun e => by have := (World.ownsRow.lt hown1 w.heap.size e.symm).1; omega)
      clear hown1 hB1 hg5 hK1
      rw [HFKL.out]
      go_wp2
      go_roundw
      case rel => exact ⟨k + 1, by omega, by go_num, hown5, hK5, hB5⟩
      case measure => simp [intOf]; omega
    · obtain rfl : k = n := by omega
      have hlt' : ¬ (k : Int) < (k : Int) := by omega
      obtain ⟨ob, cb, hv, hS⟩ := hown.form
      rw [HFL.out k (Nat.le_refl _)] at hv
      subst hv
      have HLVN := Lib.hid (fun W hS => HLV.out ob cb W hS)
      clear hlt hk
      go_wp2_with fail
      refine (HLVN.out _ hS).mono ?_
      rintro e w1 ⟨v, rfl, hv, hb1⟩
      have hB1 := hB.trans (hb1.mono hB.size)
      go_wp2
      rw [HRT.out]
      exact ⟨_, rfl, hv.mono hB.size, hB1⟩
end Go.Proofs.YtjmjkcgldencoaaGreat
namespace Go.Proofs.YtjmjkcgldencoaaGreat
open Go.RowKit

/-- the pairs that requests put -/
def prsQ (tk : List Req) : List (ByteArray × ByteArray) := (tk.filter fun r => !r.k.toList.isEmpty).map fun r => (r.k, r.v)
theorem prsQ_take (tk : List Req) (k : Nat) (h : k < tk.length) : prsQ (tk.take (k + 1)) = prsQ (tk.take k) ++ (if tk[k].k.toList.isEmpty then [] else [(tk[k].k, tk[k].v)]) := by
  rw [List.take_succ_eq_append_getElem h]
  unfold prsQ
  rw [List.filter_append, List.map_append]
  congr 1
  cases e : tk[k].k.toList.isEmpty <;> simp [e]
theorem prsQ_len (tk : List Req) : (prsQ tk).length ≤ tk.length := by
  unfold prsQ
  rw [List.length_map]
  exact List.length_filter_le _ _
theorem prsQ_fit {tk : List Req} (h : SzQ tk) (n : Nat) : FitP (prsQ (tk.take n)) := by
  intro x hx
  unfold prsQ at hx
  obtain ⟨r, hr, rfl⟩ := List.mem_map.1 hx
  have := of_decide_eq_true (h r (List.mem_of_mem_take (List.mem_filter.1 hr).1))
  exact ⟨by show r.k.size ≤ 250; omega, by show r.v.size ≤ 250; omega⟩
/-- append(v, y), of pairs, carried out in a region -/
theorem wp_append_pair {W : World} {o : Oper} {a : Act} {K : Act → World → Prop} {Q : Exit → Act → World → Prop} (hgd : o.guard = none) (s x : Operand)
    (ho : o.op = .call { callee := .builtin .append, args := #[s, x], argTypes := #[57, 57] }) (B : Nat) (v : Value) (ps : List (ByteArray × ByteArray)) (hs : a.eval s = v) (hown : OwnP W B v ps) (y : ByteArray × ByteArray)
    (hx : a.eval x = .slice (some ⟨W.heap.size, 0, none⟩) 1 1) (hlen : ps.length ≤ 1073741824) (hB : B ≤ W.heap.size)
    (h : ∀ g cap w', OwnP w' B (.slice (some ⟨g, 0, none⟩) (ps.length + 1) cap) (ps ++ [y]) → W.grownBy w' v.ownBlock → K (a.put o.dst (.slice (some ⟨g, 0, none⟩) (ps.length + 1) cap)) w') :
    Oper.wp Tryz.prog o a (W.alloc (.cells #[.string y.1, .string y.2] 65)) K Q := by
  obtain ⟨i0, hi, hz0, hz1, hz2⟩ := info_parts pairInfo
  have h0 := step_append_lies (W.alloc (.cells #[.string y.1, .string y.2] 65)) (ops := #[]) (E := False) (Q := Q) (K := K) hgd s x 57 ho B 65 i0 (.agg #[.string ⟨#[]⟩, .string ⟨#[]⟩]) 2 32 Tryz.underlying57 hi hz0 hz1 hz2 rfl (by decide) v ps.length (pcells ps) hs (World.ownsRow.alloc hown _)
    ⟨W.heap.size, 0, none⟩ 1 1 [.string y.1, .string y.2] hx rfl (two_new W y.1 y.2 65) (by intro u hu; simp at hu; rcases hu with rfl | rfl <;> rfl) (by decide) (by unfold maxLen; omega) (by omega) (by simp; omega) (W.heap.size + 1) (by simp) (fun g cap w' hown1 hgrow _ _ => h g cap w' (by
      unfold OwnP
      rw [List.length_append]
      have e : pcells (ps ++ [y]) = pcells ps ++ [.string y.1, .string y.2] := by simp [pcells]
      rw [e]
      exact hown1) (grown_trans (grown_alloc (grown_refl W _) _) hgrow))
  split at h0
  · exact h0
  · exact h0.elim
set_option maxRecDepth 100000 in
set_option maxHeartbeats 2000000 in
theorem rpairsW_any (oa : Option Addr) (N ca n : Nat) (vb vc : Value) (tk : List Req) (hN : tk.length = N) (hn : n ≤ N) (hN2 : N ≤ 1000) (w : World) (hP : RowG reqK w oa tk) :
    Calls Tryz.prog 16 #[.agg #[.slice oa N ca, vb, vc], .int .i64 n] w (RTP (lastK (prsQ (tk.take n)) (prsQ (tk.take n)).length) w) := by
  have HRT := Lib.hid (show ∀ e w', RTP (lastK (prsQ (tk.take n)) (prsQ (tk.take n)).length) w e w' = ∃ v, e = .returned v ∧ OwnP w' w.heap.size v (lastK (prsQ (tk.take n)) (prsQ (tk.take n)).length) ∧ Below w.heap.size w w' from fun _ _ => rfl)
  have HLV : Hid (∀ (ob : Option Addr) (cb : Nat) (W : World), Prs W ob (prsQ (tk.take n)) → Calls Tryz.prog 32 #[.slice ob (prsQ (tk.take n)).length cb] W fun e w' => ∃ v, e = .returned v ∧ OwnP w' W.heap.size v (lastK (prsQ (tk.take n)) (prsQ (tk.take n)).length) ∧ Below W.heap.size W w') := Lib.hid fun ob cb W hS =>
    last_any ob _ cb (prsQ (tk.take n)) rfl (by have := prsQ_len (tk.take n); rw [List.length_take] at this; omega) W hS
  have HF0 := Lib.hid (show prsQ (tk.take 0) = [] from rfl)
  have HFL := Lib.hid (show ∀ k, k ≤ n → (prsQ (tk.take k)).length ≤ k from fun k hk => by have := prsQ_len (tk.take k); rw [List.length_take] at this; omega)
  have HFS : Hid (∀ k, k < n → ∃ r : Req, prsQ (tk.take (k + 1)) = prsQ (tk.take k) ++ (if r.k.toList.isEmpty then [] else [(r.k, r.v)]) ∧ ∃ g o, oa = some ⟨g, o, none⟩ ∧ ∀ W, Below w.heap.size w W → W.cell? ⟨g, o + k * 5 + 3, none⟩ = some (.string r.k) ∧ W.cell? ⟨g, o + k * 5 + 4, none⟩ = some (.string r.v)) := Lib.hid fun k hk => by
    obtain ⟨g, o, h1, h2, c0, c1, c2, c3, c4⟩ := req_at hP (i := k) (by omega)
    refine ⟨tk[k]'(by omega), prsQ_take tk k (by omega), g, o, h1, fun W hW => ?_⟩
    have hc := fun j => hW.cell (p := ⟨g, j, none⟩) h2
    exact ⟨(hc _).trans c3, (hc _).trans c4⟩
  have hB0 := (Below.refl _ w).alloc (Nat.le_refl _) (.cells #[.slice oa N ca, vb, vc] 40)
  have hK := Blk.new w 40 #[.slice oa N ca, vb, vc]
  generalize RTP (lastK (prsQ (tk.take n)) (prsQ (tk.take n)).length) w = PO at *
  generalize lastK (prsQ (tk.take n)) (prsQ (tk.take n)).length = L at *
  generalize hF : (fun k => prsQ (tk.take k)) = F at *
  have hF' : ∀ k, prsQ (tk.take k) = F k := fun k => by rw [← hF]
  simp only [hF'] at HF0 HFS HFL HLV
  clear hF hF' hP hN
  go_enter Tryz.func16, Tryz.ntmps16
  go_wp2
  generalize w.alloc (.cells #[.slice oa N ca, vb, vc] 40) = w0 at *
  go_loopw [5, 6] (fun v i wr => ∃ k : Nat, k ≤ n ∧ i = .int .i64 k ∧ OwnP wr (w.heap.size + 1) v (F k) ∧ Blk wr w.heap.size 40 #[.slice oa N ca, vb, vc] ∧ Below w.heap.size w wr) (fun _ i _ => n - (intOf i).toNat)
  case atStart => exact ⟨0, by omega, rfl, by rw [HF0.out]; exact ownP_nil _ _, hK, hB0⟩
  case round =>
    clear hK hB0
    obtain ⟨k, hk, rfl, hown, hK, hB⟩ := hrel
    by_cases hlt : k < n
    · have hlt' : (k : Int) < (n : Int) := by omega
      have hkN : (k : Int) < (N : Int) := by omega
      obtain ⟨r, hfs, g, o, rfl, hcs⟩ := HFS.out k hlt
      obtain ⟨c3, c4⟩ := hcs wr hB
      have d0 : wr.cell? ⟨w.heap.size, 0, none⟩ = some (.slice (some ⟨g, o, none⟩) N ca) := hK.cell 0
      have HFK := Lib.hid hfs
      have hlen : (F k).length ≤ 1073741824 := by have := HFL.out k hk; omega
      obtain ⟨rc, rq, rl, rk, rv⟩ := r
      change Hid (F (k + 1) = F k ++ (if rk.toList.isEmpty then [] else [(rk, rv)])) at HFK
      change wr.cell? _ = some (.string rk) at c3
      change wr.cell? _ = some (.string rv) at c4
      have hBk : w.heap.size + 1 ≤ wr.heap.size := hK.lt
      clear hfs
      cases he : rk.toList.isEmpty with
      | true =>
        have he' : (!rk.toList.isEmpty) = false := by rw [he]; rfl
        rw [he] at HFK
        clear hcs
        go_wp2
        go_roundw
        case rel => exact ⟨k + 1, by omega, by go_num, by rw [HFK.out, if_pos rfl, List.append_nil]; exact hown, hK, hB⟩
        case measure => simp [intOf]; omega
      | false =>
        have he' : (!rk.toList.isEmpty) = true := by rw [he]; rfl
        rw [he] at HFK
        have HK := Lib.hid hK
        have HB := Lib.hid hB
        have HKP : Hid (∀ W, Below w.heap.size w W → Blk W w.heap.size 40 #[.slice (some ⟨g, o, none⟩) N ca, vb, vc] → W.cell? ⟨w.heap.size, 0, none⟩ = some (.slice (some ⟨g, o, none⟩) N ca) ∧ W.cell? ⟨g, o + k * 5 + 3, none⟩ = some (.string rk) ∧ W.cell? ⟨g, o + k * 5 + 4, none⟩ = some (.string rv)) :=
          Lib.hid fun W hW hC => ⟨hC.cell 0, (hcs W hW).1, (hcs W hW).2⟩
        clear hcs hK hB
        go_wp2
        refine wp_region_held_drew (S := fun W => W.cell? ⟨w.heap.size, 0, none⟩ = some (.slice (some ⟨g, o, none⟩) N ca) ∧ W.cell? ⟨g, o + k * 5 + 3, none⟩ = some (.string rk) ∧ W.cell? ⟨g, o + k * 5 + 4, none⟩ = some (.string rv)) (by kernel_rfl) ?_ (fun hHeld0 => ?_)
        · (first | exact HKP.out _ hB5 hK5 | exact HKP.out _ ((HB.out.alloc (by have := HK.out.lt; omega) _).drew) (HK.out.alloc _) | exact HKP.out _ HB.out.drew HK.out | exact HKP.out _ HB.out HK.out)
        apply takeH (i := 0) rfl (by kernel_rfl) (by kernel_rfl) (by kernel_rfl) (fun _ _ _ h => h) (by rfl)
        case hy => (intro w hSw; (try dsimp only at hSw); go_simp; try with_reducible rfl)
        case hS => assumption
        (try simp only [Act.put, List.setIfInBounds_toArray, List.set_cons_zero, List.set_cons_succ])
        apply takeH (i := 1) rfl (by kernel_rfl) (by kernel_rfl) (by kernel_rfl) (fun _ _ _ h => h) (by rfl)
        case hy => (intro w hSw; (try dsimp only at hSw); go_simp; try with_reducible rfl)
        case hS => assumption
        (try simp only [Act.put, List.setIfInBounds_toArray, List.set_cons_zero, List.set_cons_succ])
        apply takeH (i := 2) rfl (by kernel_rfl) (by kernel_rfl) (by kernel_rfl) (fun _ _ _ h => h) (by rfl)
        case hy => (intro w hSw; (try dsimp only at hSw); go_simp; try with_reducible rfl)
        case hS => assumption
        (try simp only [Act.put, List.setIfInBounds_toArray, List.set_cons_zero, List.set_cons_succ])
        apply takeH (i := 3) rfl (by kernel_rfl) (by kernel_rfl) (by kernel_rfl) (fun _ _ _ h => h) (by rfl)
        case hy => (intro w hSw; (try dsimp only at hSw); go_simp; try with_reducible rfl)
        case hS => assumption
        (try simp only [Act.put, List.setIfInBounds_toArray, List.set_cons_zero, List.set_cons_succ])
        apply takeH (i := 4) rfl (by kernel_rfl) (by kernel_rfl) (by kernel_rfl) (fun _ _ _ h => h) (by rfl)
        case hy => (intro w hSw; (try dsimp only at hSw); go_simp; try with_reducible rfl)
        case hS => assumption
        (try simp only [Act.put, List.setIfInBounds_toArray, List.set_cons_zero, List.set_cons_succ])
        apply takeH (i := 5) rfl (by kernel_rfl) (by kernel_rfl) (by kernel_rfl) (fun _ _ _ h => h) (by rfl)
        case hy => (intro w hSw; (try dsimp only at hSw); go_simp; try with_reducible rfl)
        case hS => assumption
        (try simp only [Act.put, List.setIfInBounds_toArray, List.set_cons_zero, List.set_cons_succ])
        apply takeH (i := 6) rfl (by kernel_rfl) (by kernel_rfl) (by kernel_rfl) (fun _ _ _ h => h) (by rfl)
        case hy => (intro w hSw; (try dsimp only at hSw); go_simp; try with_reducible rfl)
        case hS => assumption
        (try simp only [Act.put, List.setIfInBounds_toArray, List.set_cons_zero, List.set_cons_succ])
        apply takeH (i := 7) rfl (by kernel_rfl) (by kernel_rfl) (by kernel_rfl) (fun _ _ _ h => h) (by rfl)
        case hy => (intro w hSw; (try dsimp only at hSw); go_simp; try with_reducible rfl)
        case hS => assumption
        (try simp only [Act.put, List.setIfInBounds_toArray, List.set_cons_zero, List.set_cons_succ])
        apply takeH (i := 8) rfl (by kernel_rfl) (by kernel_rfl) (by kernel_rfl) (fun _ _ _ h => h) (by rfl)
        case hy => (intro w hSw; (try dsimp only at hSw); go_simp; try with_reducible rfl)
        case hS => assumption
        (try simp only [Act.put, List.setIfInBounds_toArray, List.set_cons_zero, List.set_cons_succ])
        apply takeH (i := 9) rfl (by kernel_rfl) (by kernel_rfl) (by kernel_rfl) (fun _ _ _ h => h) (by rfl)
        case hy => (intro w hSw; (try dsimp only at hSw); go_simp; try with_reducible rfl)
        case hS => assumption
        (try simp only [Act.put, List.setIfInBounds_toArray, List.set_cons_zero, List.set_cons_succ])
        apply takeH (i := 10) rfl (by kernel_rfl) (by kernel_rfl) (by kernel_rfl) (fun _ _ _ h => h) (by rfl)
        case hy => (intro w hSw; (try dsimp only at hSw); go_simp; try with_reducible rfl)
        case hS => assumption
        (try simp only [Act.put, List.setIfInBounds_toArray, List.set_cons_zero, List.set_cons_succ])
        apply takeH (i := 11) rfl (by kernel_rfl) (by kernel_rfl) (by kernel_rfl) (fun _ _ _ h => h) (by rfl)
        case hy => (intro w hSw; (try dsimp only at hSw); go_simp; try with_reducible rfl)
        case hS => assumption
        (try simp only [Act.put, List.setIfInBounds_toArray, List.set_cons_zero, List.set_cons_succ])
        apply takeH (i := 12) rfl (by kernel_rfl) (by kernel_rfl) (by kernel_rfl) (fun _ _ _ h => h) (by rfl)
        case hy => (intro w hSw; (try dsimp only at hSw); go_simp; try with_reducible rfl)
        case hS => assumption
        (try simp only [Act.put, List.setIfInBounds_toArray, List.set_cons_zero, List.set_cons_succ])
        apply takeH (i := 13) rfl (by kernel_rfl) (by kernel_rfl) (by kernel_rfl) (fun _ _ _ h => h) (by rfl)
        case hy => (intro w hSw; (try dsimp only at hSw); go_simp; try with_reducible rfl)
        case hS => assumption
        (try simp only [Act.put, List.setIfInBounds_toArray, List.set_cons_zero, List.set_cons_succ])
        refine doH (i := 14) rfl (by kernel_rfl) (by rfl) (fun K hK => ?_)
        go_simp
        refine hK.out _ _ ?_ (fun hHeld14 => ?_)
        · (first | exact HKP.out _ hB5 hK5 | exact HKP.out _ ((HB.out.alloc (by have := HK.out.lt; omega) _).drew) (HK.out.alloc _) | exact HKP.out _ HB.out.drew HK.out | exact HKP.out _ HB.out HK.out)
        clear hK K hHeld0
        (try simp only [Act.put, List.setIfInBounds_toArray, List.set_cons_zero, List.set_cons_succ])
        refine doH (i := 15) rfl (by kernel_rfl) (by rfl) (fun K hK => ?_)
        change Oper.wp _ _ _ (wr.drew.alloc _) _ _
        refine wp_append_pair rfl _ _ rfl (w.heap.size + 1) u5 (F k) rfl (hown.below (Below.refl _ _).drew) (rk, rv) rfl hlen hBk ?_
        intro g5 c5 w5 hown5 hg5
        have hB5 := (HB.out.drew).grown hg5 (HB.out.drew).size (fun z hz => by have := (World.ownsRow.lt hown z hz).1; omega)
        have hK5 := Blk.grown (w := wr.drew) HK.out hg5 (fun e => by have := (World.ownsRow.lt hown w.heap.size e.symm).1; omega)
        refine hK.out _ _ ?_ (fun hHeld15 => ?_)
        · (first | exact HKP.out _ hB5 hK5 | exact HKP.out _ ((HB.out.alloc (by have := HK.out.lt; omega) _).drew) (HK.out.alloc _) | exact HKP.out _ HB.out.drew HK.out | exact HKP.out _ HB.out HK.out)
        clear hK K hHeld14
        (try simp only [Act.put, List.setIfInBounds_toArray, List.set_cons_zero, List.set_cons_succ])
        apply takeH (i := 16) rfl (by kernel_rfl) (by kernel_rfl) (by kernel_rfl) (fun _ _ _ h => h) (by rfl)
        case hy => (intro w hSw; (try dsimp only at hSw); go_simp; try with_reducible rfl)
        case hS => assumption
        (try simp only [Act.put, List.setIfInBounds_toArray, List.set_cons_zero, List.set_cons_succ])
        refine wpAnyH_done (by kernel_rfl) ?_ _
        go_wp2
        go_roundw
        case rel => exact ⟨k + 1, by omega, by go_num, by rw [HFK.out, if_neg (by decide : ¬ (false = true))]; exact hown5, hK5, hB5⟩
        case measure => simp [intOf]; omega
    · obtain rfl : k = n := by omega
      have hlt' : ¬ (k : Int) < (k : Int) := by omega
      obtain ⟨ob, cb, hv, _, hS⟩ := hown.form
      subst hv
      have HLVN := Lib.hid (fun W hS => HLV.out ob cb W hS)
      clear hlt hk
      go_wp2_with fail
      refine (HLVN.out _ hS).mono ?_
      rintro e w1 ⟨v, rfl, hv, hb1⟩
      have hB1 := hB.trans (hb1.mono hB.size)
      go_wp2
      rw [HRT.out]
      exact ⟨_, rfl, World.ownsRow.mono hv hB.size, hB1⟩
end Go.Proofs.YtjmjkcgldencoaaGreat
