/-
  Layer 8: what a consistency proof makes.
-/
import Derived.Test.YtfhfmfcmkiobdaaCOpen
import Derived.Test.YtfhfmfcmkiobdaaCRoot
namespace Go.Proofs.Ytfhfmfcmkiobdaa
open Go.RowKit

theorem doH2C {P : Program} {ops : Array Oper} {Q : Exit → Act → World → Prop} {md : Region.Mode} {S : World → Prop} {i j : Nat} {oi oj : Oper} {rest rest' : List Oper} {fuel : Nat} {listed : Array Bool} {a : Act} {w : World} (hd : ops.toList.drop i = oi :: rest) (hd' : ops.toList.drop j = oj :: rest')
    (hr : Region.ready md ops listed = [i, j]) (hw : Region.wanted oi (yielded ops a.tmps) = true) (hw' : Region.wanted oj (yielded ops a.tmps) = true)
    (h : ∀ K' : Act → World → Prop, Shut (∀ a w, S w → (S w → wpAnyH P md ops Q S fuel (listed.setIfInBounds i true) a w) → K' a w) → Oper.wp P oi a w K' Q)
    (h' : ∀ K' : Act → World → Prop, Shut (∀ a w, S w → (S w → wpAnyH P md ops Q S fuel (listed.setIfInBounds j true) a w) → K' a w) → Oper.wp P oj a w K' Q) :
    wpAnyH P md ops Q S (fuel + 1) listed a w :=
  wpAnyH_ready hr (by simp) (AllReadyH.cons (at_drop hd) (fun K' hK => by rw [if_pos hw]; exact h K' hK) (AllReadyH.cons (at_drop hd') (fun K' hK => by rw [if_pos hw']; exact h' K' hK) AllReadyH.nil))
/-- append(v, y), carried out in a region; the slice lies where it lay, or in a new block -/
theorem wp_append_txtD {W : World} {o : Oper} {a : Act} {K : Act → World → Prop} {Q : Exit → Act → World → Prop} (hgd : o.guard = none) (s x : Operand)
    (ho : o.op = .call { callee := .builtin .append, args := #[s, x], argTypes := #[22, 22] }) (B : Nat) (v : Value) (ss : List ByteArray) (hs : a.eval s = v) (hown : Own W B v ss) (y : ByteArray)
    (hx : a.eval x = .slice (some ⟨W.heap.size, 0, none⟩) 1 1) (hlen : ss.length ≤ 1073741824) (hB : B ≤ W.heap.size)
    (h : ∀ g cap w', Own w' B (.slice (some ⟨g, 0, none⟩) (ss.length + 1) cap) (ss ++ [y]) → W.grownBy w' v.ownBlock → (v.ownBlock = some g ∨ g = W.heap.size + 1) → K (a.put o.dst (.slice (some ⟨g, 0, none⟩) (ss.length + 1) cap)) w') :
    Oper.wp Try.prog o a (W.alloc (.cells #[.string y] 9)) K Q := by
  obtain ⟨i0, hi, hz0, hz1, hz2⟩ := info_parts strInfo
  have h0 := step_append_lies (W.alloc (.cells #[.string y] 9)) (ops := #[]) (E := False) (Q := Q) (K := K) hgd s x 22 ho B 9 i0 (.string ⟨#[]⟩) 1 16 Try.underlying22 hi hz0 hz1 hz2 rfl (by decide) v ss.length (ss.map .string) hs (World.ownsRow.alloc hown _)
    ⟨W.heap.size, 0, none⟩ 1 1 [.string y] hx rfl (cell_one_new W (.string y) 9) (by intro u hu; simp at hu; subst hu; rfl) (by decide) (by unfold maxLen; omega) (by omega) (by simp; omega) (W.heap.size + 1) (by simp) (fun g cap w' hown1 hgrow hat hlt => by
      refine h g cap w' ?_ (grown_trans (grown_alloc (grown_refl W _) _) hgrow) hat
      unfold Own
      rw [List.length_append, List.map_append]
      exact hown1)
  split at h0
  · exact h0
  · exact h0.elim
theorem infoGrw : (Try.prog.info? 55).map (·.size) = some 4 := by kernel_rfl
theorem ld_grw {w : World} {g : Nat} {x y z u : Value} (h : Blk w g 55 #[x, y, z, u]) : (loadVar 55 ⟨g, 0, none⟩).run Try.prog w = .ok (.agg #[x, y, z, u]) w :=
  run_loadVar_row w g 55 55 #[x, y, z, u] (0, 0) _ h Try.underlying55 rfl infoGrw
theorem ld_slC {w : World} {p : Addr} {oa : Option Addr} {n c : Nat} (h : w.cell? p = some (.slice oa n c)) : (loadVar 22 p).run Try.prog w = .ok (.slice oa n c) w := by
  go_simp
/-- what grow answers -/
def RG (T : ByteArray × ByteArray × List ByteArray × List ByteArray) (w : World) (e : Ending) (w' : World) : Prop :=
  ∃ ve vl, e = .returned (.agg #[.string T.1, .string T.2.1, ve, vl]) ∧ Own w' w.heap.size ve T.2.2.1 ∧ Own w' w.heap.size vl T.2.2.2 ∧ Below w.heap.size w w'
/-- two slices of the call's own, in two blocks of theirs, and the growth that holds them -/
structure GrAt (w : World) (G : Nat) (a s ve vl : Value) (ea la : List ByteArray) : Prop where
  blk : Blk w G 55 #[a, s, ve, vl]
  own1 : Own w (G + 1) ve ea
  own2 : Own w (G + 1) vl la
  apart : ∀ k, ve.ownBlock = some k → vl.ownBlock ≠ some k
theorem own_farC {w : World} {B : Nat} {v : Value} {ss : List ByteArray} (h : Own w B v ss) {p : Addr} (hp : p.block < B) (u : Value) : Own (w.setCell p u) B v ss := ownsRow_setCell_below h hp u
theorem own_slice {w : World} {B : Nat} {v : Value} {ss : List ByteArray} (h : Own w B v ss) : ∃ oa cap, v = .slice oa ss.length cap := by
  obtain ⟨oa, cap, e, _⟩ := h.form
  exact ⟨oa, cap, e⟩
set_option maxRecDepth 100000 in
set_option maxHeartbeats 8000000 in
theorem cgrow_any {g : Nat} {h : ByteArray → ByteArray} (H : Hsh g h) (E : List Bool) (oaw : Option Addr) (len capw : Nat) (hlen : len ≤ 1048576) (hE : E.reverse.length = len) (low : ByteArray) (hlow : low.size = 32) (oa : Option Addr) (cap : Nat) (ps : List ByteArray) (hps : ps.length = len) (hall : ∀ q ∈ ps, q.size = 32)
    (T : ByteArray × ByteArray × List ByteArray × List ByteArray) (hT : gro h E (ps.reverse ++ [low]) = some T) (w : World) (hbools : Bools w oaw E.reverse) (hc : Strs w oa ps) :
    Calls Try.prog 39 #[.func (.func g) #[] #[], .slice oaw len capw, .string low, .slice oa len cap] w (RG T w) := by
  have eg := H.enter
  have HH := Lib.hid H.call
  have H32 := Lib.hid H.size
  have HALL := Lib.hid hall
  have HTT := Lib.hid hT
  have HE := Lib.hid hE
  have HP := Lib.hid hps
  have HBo := Lib.hid hbools
  have HC := Lib.hid hc
  have HL := Lib.hid hlow
  clear hall hT hE hps hbools hc hlow
  obtain ⟨B, hB⟩ : ∃ B, w.heap.size = B := ⟨_, rfl⟩
  obtain ⟨w0, hw0⟩ : ∃ w0, w.alloc (.cells #[.string ⟨#[]⟩, .string ⟨#[]⟩, .slice none 0 0, .slice none 0 0] 55) = w0 := ⟨_, rfl⟩
  obtain ⟨w1, hw1⟩ : ∃ w1, w0.alloc (.cells #[.string low, .string low, .slice none 0 0, .slice none 0 0] 55) = w1 := ⟨_, rfl⟩
  have hB0 : Below w.heap.size w w0 := by rw [← hw0]; exact (Below.refl _ w).alloc (Nat.le_refl _) _
  have hs0 : w0.heap.size = B + 1 := by rw [← hw0]; simp [hB]
  have hB1 : Below w.heap.size w w1 := by rw [← hw1]; exact hB0.alloc hB0.size _
  have hZ1 : Blk w1 B 55 #[.string ⟨#[]⟩, .string ⟨#[]⟩, .slice none 0 0, .slice none 0 0] := by rw [← hw1, ← hw0, ← hB]; exact (Blk.new _ _ _).alloc _
  have hG1 : Blk w1 (B + 1) 55 #[.string low, .string low, .slice none 0 0, .slice none 0 0] := by rw [← hw1]; exact Blk.new_at hs0.symm
  have HG1 := Lib.hid (show GrAt w1 (B + 1) (.string low) (.string low) (.slice none 0 0) (.slice none 0 0) [] [] from ⟨hG1, own_nil _ _, own_nil _ _, fun k hk => by cases hk⟩)
  have HZ1 := Lib.hid hZ1
  have HB1 := Lib.hid hB1
  have HW0 := Lib.hid hw0
  have HW1 := Lib.hid hw1
  clear hw0 hw1 hB0 hB1 hZ1 hG1
  go_enter Try.func39, Try.ntmps39
  go_wp2_with (first | rw [HW0.out] | rw [HW1.out])
  go_loopw [17] (fun vi wr => ∃ (j : Nat) (W2 : List Bool) (P2 : List ByteArray) (a s : ByteArray) (ea la : List ByteArray) (R : List Bool) (S : List ByteArray) (ve vl : Value), j ≤ len ∧ vi = .int .i64 j ∧ Hid (E.reverse = W2.reverse ++ R) ∧ Hid (ps = P2.reverse ++ S) ∧ W2.length = j ∧ P2.length = j ∧
      Hid (gro h W2 (P2 ++ [low]) = some (a, s, ea, la)) ∧ a.size = 32 ∧ s.size = 32 ∧ ea.length ≤ j ∧ la.length = j ∧ Hid (GrAt wr (B + 1) (.string a) (.string s) ve vl ea.reverse la.reverse) ∧ Hid (Blk wr B 55 #[.string ⟨#[]⟩, .string ⟨#[]⟩, .slice none 0 0, .slice none 0 0]) ∧ Hid (Below w.heap.size w wr)) (fun vi _ => len - (intOf vi).toNat)
  case atStart => exact ⟨0, [], [], low, low, [], [], E.reverse, ps, _, _, by omega, rfl, Lib.hid rfl, Lib.hid rfl, rfl, rfl, Lib.hid rfl, HL.out, HL.out, by simp, rfl, HG1, HZ1, HB1⟩
  case round =>
    clear HG1 HZ1 HB1
    obtain ⟨j, W2, P2, a, s, ea, la, R, S, ve, vl, hj, rfl, HR, HS, h2, h3, HT, has, hss, hea, hla, HGA, HZ, HBr⟩ := hrel
    by_cases hlt : j < len
    · have hlt' : (j : Int) < (len : Int) := by omega
      match R, HR, S, HS with
      | [], HR, _, _ => exfalso; have := congrArg List.length HR.out; rw [HE.out] at this; simp at this; omega
      | b :: R, HR, [], HS => exfalso; have := congrArg List.length HS.out; rw [HP.out] at this; simp at this; omega
      | b :: R, HR, q :: S, HS =>
        obtain ⟨pa, rfl, hab, hca0⟩ := HC.out j (by rw [HP.out]; exact hlt)
        rw [show ps.getD j ByteArray.empty = q by rw [HS.out]; exact getD_mid _ _ _ _ (by simpa using h3)] at hca0
        obtain ⟨aw, rfl, habw, hcw0⟩ := HBo.out j (by rw [HE.out]; exact hlt)
        rw [show E.reverse.getD j false = b by rw [HR.out]; exact getD_mid _ _ _ _ (by simpa using h2)] at hcw0
        have hcw : wr.cell? (aw.add j) = some (.bool b) := (HBr.out.cell (by rw [add_block]; exact habw)).trans hcw0
        have hca : wr.cell? (pa.add j) = some (.string q) := (HBr.out.cell (by rw [add_block]; exact hab)).trans hca0
        have hqs : q.size = 32 := HALL.out q (by rw [HS.out]; simp)
        have habB : pa.block < B := by omega
        have HLA := Lib.hid hla
        have HEA := Lib.hid hea
        clear hla hea
        have HCA0 := Lib.hid hca0
        clear hca0 hcw0
        cases b
        · have HTN := Lib.hid (show gro h (false :: W2) (q :: P2 ++ [low]) = some (a, h (nodC false s q), ea, nodC false s q :: la) by show (match gro h W2 (P2 ++ [low]) with | none => none | some (a, s, ea, la) => _) = _; rw [HT.out]; rfl)
          obtain ⟨o3, c3, hv3⟩ := own_slice HGA.out.own2
          rw [List.length_reverse] at hv3
          rw [HLA.out] at hv3
          subst hv3
          have HN3 := Lib.hid HLA.out
          have HNod := Lib.hid (fun W => node_any false s q (by omega) (by omega) W)
          have hYs : (nodC false s q).size ≤ 1000 := Nat.le_trans (nodC_size (by omega) (by omega)) (by decide)
          have HHY := Lib.hid (fun W => HH.out (nodC false s q) W hYs)
          have h32Y3 := H32.out (nodC false s q)
          clear hYs
          generalize h (nodC false s q) = hY3 at *
          generalize nodC false s q = Y3 at *
          have hsrc : wr.cell? ⟨B + 1, 1, none⟩ = some (.string s) := HGA.out.blk.cell 1
          have hfld : wr.drew.cell? ⟨B + 1, 3, none⟩ = some (.slice o3 j c3) := HGA.out.blk.cell 3
          have hfla : (wr.drew.alloc (.cells #[.string Y3] 9)).cell? ⟨B + 1, 3, none⟩ = some (.slice o3 j c3) := ((show Blk wr.drew _ _ _ from HGA.out.blk).alloc _).cell 3
          have hflb : (wr.alloc (.cells #[.string Y3] 9)).cell? ⟨B + 1, 3, none⟩ = some (.slice o3 j c3) := hfla
          have hS0 : wr.drew.cell? ⟨B + 1, 1, none⟩ = some (.string s) ∧ wr.drew.cell? (pa.add j) = some (.string q) := ⟨hsrc, hca⟩
          have hSa : (wr.drew.alloc (.cells #[.string Y3] 9)).cell? ⟨B + 1, 1, none⟩ = some (.string s) ∧ (wr.drew.alloc (.cells #[.string Y3] 9)).cell? (pa.add j) = some (.string q) := ⟨((show Blk wr.drew _ _ _ from HGA.out.blk).alloc _).cell 1, (World.cell?_of_block (a := pa.add j) (Below.heap_alloc _ _ _ (by rw [add_block]; have := HGA.out.blk.lt; show pa.block < wr.heap.size; omega))).trans hca⟩
          have hlenL : la.reverse.length ≤ 1073741824 := by rw [List.length_reverse, HN3.out]; omega
          have hBG : B + 1 + 1 ≤ wr.drew.heap.size := HGA.out.blk.lt
          go_wp2_with fail
          refine wp_region_held_drew (S := fun W' => W'.cell? ⟨B + 1, 1, none⟩ = some (.string s) ∧ W'.cell? (pa.add j) = some (.string q)) (by kernel_rfl) ?_ (fun hHeld0 => ?_)
          · exact hS0
          apply takeH (i := 0) rfl (by kernel_rfl) (by kernel_rfl) (by kernel_rfl) (fun _ _ _ h => h) (by rfl)
          case hy => (intro w hSw; (try dsimp only at hSw); go_simp; try with_reducible rfl)
          case hS => assumption
          (try simp only [Act.put, List.setIfInBounds_toArray, List.set_cons_zero, List.set_cons_succ])
          apply takeH (i := 2) rfl (by kernel_rfl) (by kernel_rfl) (by kernel_rfl) (fun _ _ _ h => h) (by rfl)
          case hy => (intro w hSw; (try dsimp only at hSw); go_simp; try with_reducible rfl)
          case hS => assumption
          (try simp only [Act.put, List.setIfInBounds_toArray, List.set_cons_zero, List.set_cons_succ])
          apply takeH (i := 3) rfl (by kernel_rfl) (by kernel_rfl) (by kernel_rfl) (fun _ _ _ h => h) (by rfl)
          case hy => (intro w hSw; (try dsimp only at hSw); go_simp; try with_reducible rfl)
          case hS => assumption
          (try simp only [Act.put, List.setIfInBounds_toArray, List.set_cons_zero, List.set_cons_succ])
          apply takeH (i := 4) rfl (by kernel_rfl) (by kernel_rfl) (by kernel_rfl) (fun _ _ _ h => h) (by rfl)
          case hy => (intro w hSw; (try dsimp only at hSw); go_simp; try with_reducible rfl)
          case hS => assumption
          (try simp only [Act.put, List.setIfInBounds_toArray, List.set_cons_zero, List.set_cons_succ])
          apply takeH (i := 5) rfl (by kernel_rfl) (by kernel_rfl) (by kernel_rfl) (fun _ _ _ h => h) (by rfl)
          case hy => (intro w hSw; (try dsimp only at hSw); go_simp; try with_reducible rfl)
          case hS => assumption
          (try simp only [Act.put, List.setIfInBounds_toArray, List.set_cons_zero, List.set_cons_succ])
          apply takeH (i := 6) rfl (by kernel_rfl) (by kernel_rfl) (by kernel_rfl) (fun _ _ _ h => h) (by rfl)
          case hy => (intro w hSw; (try dsimp only at hSw); go_simp; try with_reducible rfl)
          case hS => assumption
          (try simp only [Act.put, List.setIfInBounds_toArray, List.set_cons_zero, List.set_cons_succ])
          apply takeH (i := 7) rfl (by kernel_rfl) (by kernel_rfl) (by kernel_rfl) (fun _ _ _ h => h) (by rfl)
          case hy => (intro w hSw; (try dsimp only at hSw); go_simp; try with_reducible rfl)
          case hS => assumption
          (try simp only [Act.put, List.setIfInBounds_toArray, List.set_cons_zero, List.set_cons_succ])
          apply takeH (i := 8) rfl (by kernel_rfl) (by kernel_rfl) (by kernel_rfl) (fun _ _ _ h => h) (by rfl)
          case hy => (intro w hSw; (try dsimp only at hSw); go_simp; try with_reducible rfl)
          case hS => assumption
          (try simp only [Act.put, List.setIfInBounds_toArray, List.set_cons_zero, List.set_cons_succ])
          refine doH2C (i := 1) (j := 9) rfl rfl (by kernel_rfl) (by rfl) (by rfl) (fun K hK => ?_) (fun K hK => ?_)
          focus
            go_simp
            refine hK.out _ _ ?_ (fun hHeld1 => ?_)
            · (first | exact hS5 | exact hS4 | exact hSa | exact hS0)
            clear hK K
            (try simp only [Act.put, List.setIfInBounds_toArray, List.set_cons_zero, List.set_cons_succ])
            refine doH (i := 9) rfl (by kernel_rfl) (by rfl) (fun K hK => ?_)
            go_simp
            refine (HNod.out _).mono ?_
            rintro e w3 ⟨rfl, hw3⟩
            rw [hw3]
            clear hw3 w3
            go_wp2_with fail
            refine hK.out _ _ ?_ (fun hHeld9 => ?_)
            · (first | exact hS5 | exact hS4 | exact hSa | exact hS0)
            clear hK K
            (try simp only [Act.put, List.setIfInBounds_toArray, List.set_cons_zero, List.set_cons_succ])
            refine doH (i := 10) rfl (by kernel_rfl) (by rfl) (fun K hK => ?_)
            go_simp
            refine hK.out _ _ ?_ (fun hHeld10 => ?_)
            · (first | exact hS5 | exact hS4 | exact hSa | exact hS0)
            clear hK K
            (try simp only [Act.put, List.setIfInBounds_toArray, List.set_cons_zero, List.set_cons_succ])
            refine doH (i := 11) rfl (by kernel_rfl) (by rfl) (fun K hK => ?_)
            refine wp_append_txtD rfl _ _ rfl (B + 1 + 1) (.slice o3 j c3) la.reverse rfl (World.ownsRow.drew HGA.out.own2) Y3 rfl hlenL hBG ?_
            intro gg3 cc3 wa3 hown4 hg4 hat4
            rw [List.length_reverse, HN3.out] at hown4
            rw [List.length_reverse, HN3.out]
            have hneG : ∀ k, k < B + 1 + 1 → some k ≠ (Value.slice o3 j c3).ownBlock := fun k hk e => by have := (World.ownsRow.lt HGA.out.own2 k e.symm).1; omega
            have hblk4 := Blk.grown (show Blk wr.drew (B + 1) _ _ from HGA.out.blk) hg4 (hneG _ (by omega))
            have hZ4 := Blk.grown (show Blk wr.drew B _ _ from HZ.out) hg4 (hneG _ (by omega))
            have hca4 : wa3.cell? (pa.add j) = some (.string q) := (World.cell?_of_block (a := pa.add j) (hg4.block _ (by rw [add_block]; have := HGA.out.blk.lt; show pa.block < wr.heap.size; omega) (by rw [add_block]; exact hneG _ (by omega)))).trans hca
            have hS4 : wa3.cell? ⟨B + 1, 1, none⟩ = some (.string s) ∧ wa3.cell? (pa.add j) = some (.string q) := ⟨hblk4.cell 1, hca4⟩
            have cst : wa3.cell? ⟨B + 1, 3, none⟩ = some (.slice o3 j c3) := hblk4.cell 3
            have fst4 := hblk4.frozen 3
            have hblk5 := hblk4.set_ 3 (.slice (some ⟨gg3, 0, none⟩) (j + 1) cc3)
            have hca5 : (wa3.setCell ⟨B + 1, 3, none⟩ (.slice (some ⟨gg3, 0, none⟩) (j + 1) cc3)).cell? (pa.add j) = some (.string q) := (World.cell?_setCell_other _ _ _ _ (by intro e; have := congrArg Addr.block e; rw [add_block] at this; have h9 : (⟨B + 1, 3, none⟩ : Addr).block = B + 1 := rfl; omega)).trans hca4
            have hS5 : (wa3.setCell ⟨B + 1, 3, none⟩ (.slice (some ⟨gg3, 0, none⟩) (j + 1) cc3)).cell? ⟨B + 1, 1, none⟩ = some (.string s) ∧ (wa3.setCell ⟨B + 1, 3, none⟩ (.slice (some ⟨gg3, 0, none⟩) (j + 1) cc3)).cell? (pa.add j) = some (.string q) := ⟨hblk5.cell 1, hca5⟩
            refine hK.out _ _ ?_ (fun hHeld11 => ?_)
            · (first | exact hS5 | exact hS4 | exact hSa | exact hS0)
            clear hK K
            (try simp only [Act.put, List.setIfInBounds_toArray, List.set_cons_zero, List.set_cons_succ])
            apply takeH (i := 12) rfl (by kernel_rfl) (by kernel_rfl) (by kernel_rfl) (fun _ _ _ h => h) (by rfl)
            case hy => (intro w hSw; (try dsimp only at hSw); go_simp; try with_reducible rfl)
            case hS => assumption
            (try simp only [Act.put, List.setIfInBounds_toArray, List.set_cons_zero, List.set_cons_succ])
            refine doH (i := 13) rfl (by kernel_rfl) (by rfl) (fun K hK => ?_)
            go_simp
            refine hK.out _ _ ?_ (fun hHeld13 => ?_)
            · (first | exact hS5 | exact hS4 | exact hSa | exact hS0)
            clear hK K
            (try simp only [Act.put, List.setIfInBounds_toArray, List.set_cons_zero, List.set_cons_succ])
            refine wpAnyH_done (by kernel_rfl) ?_ _
          rotate_left
          focus
            go_simp
            refine (HNod.out _).mono ?_
            rintro e w3 ⟨rfl, hw3⟩
            rw [hw3]
            clear hw3 w3
            go_wp2_with fail
            refine hK.out _ _ ?_ (fun hHeld9 => ?_)
            · (first | exact hS5 | exact hS4 | exact hSa | exact hS0)
            clear hK K
            (try simp only [Act.put, List.setIfInBounds_toArray, List.set_cons_zero, List.set_cons_succ])
            refine doH2C (i := 1) (j := 10) rfl rfl (by kernel_rfl) (by rfl) (by rfl) (fun K hK => ?_) (fun K hK => ?_)
            focus
              go_simp
              refine hK.out _ _ ?_ (fun hHeld1 => ?_)
              · (first | exact hS5 | exact hS4 | exact hSa | exact hS0)
              clear hK K
              (try simp only [Act.put, List.setIfInBounds_toArray, List.set_cons_zero, List.set_cons_succ])
              refine doH (i := 10) rfl (by kernel_rfl) (by rfl) (fun K hK => ?_)
              go_simp
              refine hK.out _ _ ?_ (fun hHeld10 => ?_)
              · (first | exact hS5 | exact hS4 | exact hSa | exact hS0)
              clear hK K
              (try simp only [Act.put, List.setIfInBounds_toArray, List.set_cons_zero, List.set_cons_succ])
              refine doH (i := 11) rfl (by kernel_rfl) (by rfl) (fun K hK => ?_)
              refine wp_append_txtD rfl _ _ rfl (B + 1 + 1) (.slice o3 j c3) la.reverse rfl (World.ownsRow.drew HGA.out.own2) Y3 rfl hlenL hBG ?_
              intro gg3 cc3 wa3 hown4 hg4 hat4
              rw [List.length_reverse, HN3.out] at hown4
              rw [List.length_reverse, HN3.out]
              have hneG : ∀ k, k < B + 1 + 1 → some k ≠ (Value.slice o3 j c3).ownBlock := fun k hk e => by have := (World.ownsRow.lt HGA.out.own2 k e.symm).1; omega
              have hblk4 := Blk.grown (show Blk wr.drew (B + 1) _ _ from HGA.out.blk) hg4 (hneG _ (by omega))
              have hZ4 := Blk.grown (show Blk wr.drew B _ _ from HZ.out) hg4 (hneG _ (by omega))
              have hca4 : wa3.cell? (pa.add j) = some (.string q) := (World.cell?_of_block (a := pa.add j) (hg4.block _ (by rw [add_block]; have := HGA.out.blk.lt; show pa.block < wr.heap.size; omega) (by rw [add_block]; exact hneG _ (by omega)))).trans hca
              have hS4 : wa3.cell? ⟨B + 1, 1, none⟩ = some (.string s) ∧ wa3.cell? (pa.add j) = some (.string q) := ⟨hblk4.cell 1, hca4⟩
              have cst : wa3.cell? ⟨B + 1, 3, none⟩ = some (.slice o3 j c3) := hblk4.cell 3
              have fst4 := hblk4.frozen 3
              have hblk5 := hblk4.set_ 3 (.slice (some ⟨gg3, 0, none⟩) (j + 1) cc3)
              have hca5 : (wa3.setCell ⟨B + 1, 3, none⟩ (.slice (some ⟨gg3, 0, none⟩) (j + 1) cc3)).cell? (pa.add j) = some (.string q) := (World.cell?_setCell_other _ _ _ _ (by intro e; have := congrArg Addr.block e; rw [add_block] at this; have h9 : (⟨B + 1, 3, none⟩ : Addr).block = B + 1 := rfl; omega)).trans hca4
              have hS5 : (wa3.setCell ⟨B + 1, 3, none⟩ (.slice (some ⟨gg3, 0, none⟩) (j + 1) cc3)).cell? ⟨B + 1, 1, none⟩ = some (.string s) ∧ (wa3.setCell ⟨B + 1, 3, none⟩ (.slice (some ⟨gg3, 0, none⟩) (j + 1) cc3)).cell? (pa.add j) = some (.string q) := ⟨hblk5.cell 1, hca5⟩
              refine hK.out _ _ ?_ (fun hHeld11 => ?_)
              · (first | exact hS5 | exact hS4 | exact hSa | exact hS0)
              clear hK K
              (try simp only [Act.put, List.setIfInBounds_toArray, List.set_cons_zero, List.set_cons_succ])
              apply takeH (i := 12) rfl (by kernel_rfl) (by kernel_rfl) (by kernel_rfl) (fun _ _ _ h => h) (by rfl)
              case hy => (intro w hSw; (try dsimp only at hSw); go_simp; try with_reducible rfl)
              case hS => assumption
              (try simp only [Act.put, List.setIfInBounds_toArray, List.set_cons_zero, List.set_cons_succ])
              refine doH (i := 13) rfl (by kernel_rfl) (by rfl) (fun K hK => ?_)
              go_simp
              refine hK.out _ _ ?_ (fun hHeld13 => ?_)
              · (first | exact hS5 | exact hS4 | exact hSa | exact hS0)
              clear hK K
              (try simp only [Act.put, List.setIfInBounds_toArray, List.set_cons_zero, List.set_cons_succ])
              refine wpAnyH_done (by kernel_rfl) ?_ _
            rotate_left
            focus
              go_simp
              refine hK.out _ _ ?_ (fun hHeld10 => ?_)
              · (first | exact hS5 | exact hS4 | exact hSa | exact hS0)
              clear hK K
              (try simp only [Act.put, List.setIfInBounds_toArray, List.set_cons_zero, List.set_cons_succ])
              refine doH (i := 1) rfl (by kernel_rfl) (by rfl) (fun K hK => ?_)
              go_simp
              refine hK.out _ _ ?_ (fun hHeld1 => ?_)
              · (first | exact hS5 | exact hS4 | exact hSa | exact hS0)
              clear hK K
              (try simp only [Act.put, List.setIfInBounds_toArray, List.set_cons_zero, List.set_cons_succ])
              refine doH (i := 11) rfl (by kernel_rfl) (by rfl) (fun K hK => ?_)
              refine wp_append_txtD rfl _ _ rfl (B + 1 + 1) (.slice o3 j c3) la.reverse rfl (World.ownsRow.drew HGA.out.own2) Y3 rfl hlenL hBG ?_
              intro gg3 cc3 wa3 hown4 hg4 hat4
              rw [List.length_reverse, HN3.out] at hown4
              rw [List.length_reverse, HN3.out]
              have hneG : ∀ k, k < B + 1 + 1 → some k ≠ (Value.slice o3 j c3).ownBlock := fun k hk e => by have := (World.ownsRow.lt HGA.out.own2 k e.symm).1; omega
              have hblk4 := Blk.grown (show Blk wr.drew (B + 1) _ _ from HGA.out.blk) hg4 (hneG _ (by omega))
              have hZ4 := Blk.grown (show Blk wr.drew B _ _ from HZ.out) hg4 (hneG _ (by omega))
              have hca4 : wa3.cell? (pa.add j) = some (.string q) := (World.cell?_of_block (a := pa.add j) (hg4.block _ (by rw [add_block]; have := HGA.out.blk.lt; show pa.block < wr.heap.size; omega) (by rw [add_block]; exact hneG _ (by omega)))).trans hca
              have hS4 : wa3.cell? ⟨B + 1, 1, none⟩ = some (.string s) ∧ wa3.cell? (pa.add j) = some (.string q) := ⟨hblk4.cell 1, hca4⟩
              have cst : wa3.cell? ⟨B + 1, 3, none⟩ = some (.slice o3 j c3) := hblk4.cell 3
              have fst4 := hblk4.frozen 3
              have hblk5 := hblk4.set_ 3 (.slice (some ⟨gg3, 0, none⟩) (j + 1) cc3)
              have hca5 : (wa3.setCell ⟨B + 1, 3, none⟩ (.slice (some ⟨gg3, 0, none⟩) (j + 1) cc3)).cell? (pa.add j) = some (.string q) := (World.cell?_setCell_other _ _ _ _ (by intro e; have := congrArg Addr.block e; rw [add_block] at this; have h9 : (⟨B + 1, 3, none⟩ : Addr).block = B + 1 := rfl; omega)).trans hca4
              have hS5 : (wa3.setCell ⟨B + 1, 3, none⟩ (.slice (some ⟨gg3, 0, none⟩) (j + 1) cc3)).cell? ⟨B + 1, 1, none⟩ = some (.string s) ∧ (wa3.setCell ⟨B + 1, 3, none⟩ (.slice (some ⟨gg3, 0, none⟩) (j + 1) cc3)).cell? (pa.add j) = some (.string q) := ⟨hblk5.cell 1, hca5⟩
              refine hK.out _ _ ?_ (fun hHeld11 => ?_)
              · (first | exact hS5 | exact hS4 | exact hSa | exact hS0)
              clear hK K
              (try simp only [Act.put, List.setIfInBounds_toArray, List.set_cons_zero, List.set_cons_succ])
              apply takeH (i := 12) rfl (by kernel_rfl) (by kernel_rfl) (by kernel_rfl) (fun _ _ _ h => h) (by rfl)
              case hy => (intro w hSw; (try dsimp only at hSw); go_simp; try with_reducible rfl)
              case hS => assumption
              (try simp only [Act.put, List.setIfInBounds_toArray, List.set_cons_zero, List.set_cons_succ])
              refine doH (i := 13) rfl (by kernel_rfl) (by rfl) (fun K hK => ?_)
              go_simp
              refine hK.out _ _ ?_ (fun hHeld13 => ?_)
              · (first | exact hS5 | exact hS4 | exact hSa | exact hS0)
              clear hK K
              (try simp only [Act.put, List.setIfInBounds_toArray, List.set_cons_zero, List.set_cons_succ])
              refine wpAnyH_done (by kernel_rfl) ?_ _
          all_goals
            have hof : Own wa3 (B + 1 + 1) ve ea.reverse := World.ownsRow.kept (World.ownsRow.drew HGA.out.own1) hg4 (by
              cases hq : (ve).ownBlock with
              | none => exact .inl rfl
              | some k => exact .inr (fun e => HGA.out.apart k hq e.symm))
            have hap : ∀ k, (show Value from ve).ownBlock = some k → (Value.slice (some ⟨gg3, 0, none⟩) (j + 1) cc3).ownBlock ≠ some k := by
              intro k hk hk2
              injection hk2 with hk2
              subst hk2
              rcases hat4 with h9 | h9
              · exact HGA.out.apart _ hk h9
              · have : gg3 < wr.heap.size := (World.ownsRow.lt HGA.out.own1 _ hk).2
                have h10 : wr.drew.heap.size = wr.heap.size := rfl
                omega
            have hB4 : Below w.heap.size w wa3 := (HBr.out.drew).grown hg4 HBr.out.size (fun k hk => by have := (World.ownsRow.lt HGA.out.own2 k hk).1; omega)
            have hB5 := hB4.setCell (p := ⟨B + 1, 3, none⟩) (by show w.heap.size ≤ B + 1; omega) (.slice (some ⟨gg3, 0, none⟩) (j + 1) cc3)
            have hown5 := own_farC hown4 (p := ⟨B + 1, 3, none⟩) (by show B + 1 < _; omega) (.slice (some ⟨gg3, 0, none⟩) (j + 1) cc3)
            have hof5 := own_farC hof (p := ⟨B + 1, 3, none⟩) (by show B + 1 < _; omega) (.slice (some ⟨gg3, 0, none⟩) (j + 1) cc3)
            have hZ5 := hZ4.far (p := ⟨B + 1, 3, none⟩) (by show B ≠ B + 1; omega) (.slice (some ⟨gg3, 0, none⟩) (j + 1) cc3)
            have hblk5' : Blk (wa3.setCell ⟨B + 1, 3, none⟩ (.slice (some ⟨gg3, 0, none⟩) (j + 1) cc3)) (B + 1) 55 #[.string a, .string s, ve, (.slice (some ⟨gg3, 0, none⟩) (j + 1) cc3)] := hblk5
            generalize (wa3.setCell ⟨B + 1, 3, none⟩ (.slice (some ⟨gg3, 0, none⟩) (j + 1) cc3)) = w5 at *
            have cf5 : w5.cell? ⟨B + 1, 3, none⟩ = some (.slice (some ⟨gg3, 0, none⟩) (j + 1) cc3) := hblk5'.cell 3
            have cl5 : w5.cell? ⟨gg3, j, none⟩ = some (.string Y3) := by
              have := (hown5.row (by simp))
              obtain ⟨gx, cx, ex, _, _, hrw⟩ := this
              injection ex with ex1 ex2 ex3
              injection ex1 with ex1
              injection ex1 with ex1 _ _
              subst ex1
              have h11 := hrw.2 j (by rw [List.length_append, List.length_reverse, HN3.out]; simp)
              rw [Nat.zero_add, show (la.reverse ++ [Y3]).getD j ByteArray.empty = Y3 from getD_mid _ _ _ _ (by rw [List.length_reverse, HN3.out])] at h11
              exact h11
            have HM5 := Lib.hid (show ((j + 1 : Nat) : Int) - 1 = (j : Int) by omega)
            have hi5 : (j : Int) < ((j + 1 : Nat) : Int) := by omega
            have hi50 : (0 : Int) ≤ (j : Int) := by omega
            have HO5 := Lib.hid hown5
            have HF5 := Lib.hid hof5
            have HZ5 := Lib.hid hZ5
            have HB5 := Lib.hid hB5
            have HK5 := Lib.hid hblk5'
            have HAP := Lib.hid hap
            have hs5 := hblk5'.lt
            clear hof hap hB4 hB5 hown4 hown5 hof5 hZ4 hZ5 hblk4 hblk5 hblk5' hg4 hat4 hneG hca4 hS4 hS5 hS0 hSa cst fst4 hsrc hfld hfla hflb hBG hHeld0 hHeld1 hHeld9 hHeld10 hHeld11 hHeld13 hca
            go_wp2_with (rw [HM5.out])
            refine (HHY.out _).mono ?_
            rintro e w6 ⟨rfl, hb6⟩
            have hblk6 := HK5.out.below hb6 HK5.out.lt
            have c6 : w6.cell? ⟨B + 1, 1, none⟩ = some (.string s) := hblk6.cell 1
            have f6 := hblk6.frozen 1
            have hB6 := HB5.out.trans (hb6.mono HB5.out.size)
            have hB7 := hB6.setCell (p := ⟨B + 1, 1, none⟩) (by show w.heap.size ≤ B + 1; omega) (.string hY3)
            have hblk7 : Blk (w6.setCell ⟨B + 1, 1, none⟩ (.string hY3)) (B + 1) 55 #[.string a, .string hY3, ve, (.slice (some ⟨gg3, 0, none⟩) (j + 1) cc3)] := hblk6.set_ 1 (.string hY3)
            have hZ7 := (HZ5.out.below hb6 HZ5.out.lt).far (p := ⟨B + 1, 1, none⟩) (by show B ≠ B + 1; omega) (.string hY3)
            have ho7 := own_farC (HO5.out.below hb6) (p := ⟨B + 1, 1, none⟩) (by show B + 1 < _; omega) (.string hY3)
            have hf7 := own_farC (HF5.out.below hb6) (p := ⟨B + 1, 1, none⟩) (by show B + 1 < _; omega) (.string hY3)
            have HB7 := Lib.hid hB7
            have HZ7 := Lib.hid hZ7
            have HGA7 := Lib.hid (show GrAt (w6.setCell ⟨B + 1, 1, none⟩ (.string hY3)) (B + 1) (.string a) (.string hY3) ve (.slice (some ⟨gg3, 0, none⟩) (j + 1) cc3) ea.reverse (Y3 :: la).reverse from ⟨hblk7, hf7, by rw [List.reverse_cons]; exact ho7, HAP.out⟩)
            clear hblk6 hB6 hB7 hblk7 hZ7 ho7 hf7 hb6 HO5 HF5 HZ5 HB5 HK5 HAP HGA HZ HBr cf5 cl5 HHY HNod
            go_wp2
            go_roundw
            case rel => exact ⟨j + 1, false :: W2, q :: P2, a, hY3, ea, Y3 :: la, R, S, ve, (.slice (some ⟨gg3, 0, none⟩) (j + 1) cc3), by omega, by go_num, Lib.hid (by rw [HR.out]; simp), Lib.hid (by rw [HS.out]; simp), by simp [h2], by simp [h3], HTN, has, h32Y3, Nat.le_succ_of_le HEA.out, by rw [List.length_cons, HLA.out], HGA7, HZ7, HB7⟩
            case measure => simp [intOf]; omega
        · have HTN := Lib.hid (show gro h (true :: W2) (q :: P2 ++ [low]) = some (h (nodC true a q), h (nodC true s q), nodC true a q :: ea, nodC true s q :: la) by show (match gro h W2 (P2 ++ [low]) with | none => none | some (a, s, ea, la) => _) = _; rw [HT.out]; rfl)
          obtain ⟨o2, c2, hv2⟩ := own_slice HGA.out.own1
          rw [List.length_reverse] at hv2
          obtain ⟨n2, hn2⟩ : ∃ n, ea.length = n := ⟨_, rfl⟩
          rw [hn2] at hv2
          subst hv2
          have HN2 := Lib.hid hn2
          have hle2 : n2 ≤ j := by rw [← hn2]; exact HEA.out
          clear hn2
          have HNod := Lib.hid (fun W => node_any true a q (by omega) (by omega) W)
          have hYs : (nodC true a q).size ≤ 1000 := Nat.le_trans (nodC_size (by omega) (by omega)) (by decide)
          have HHY := Lib.hid (fun W => HH.out (nodC true a q) W hYs)
          have h32Y2 := H32.out (nodC true a q)
          clear hYs
          generalize h (nodC true a q) = hY2 at *
          generalize nodC true a q = Y2 at *
          have hsrc : wr.cell? ⟨B + 1, 0, none⟩ = some (.string a) := HGA.out.blk.cell 0
          have hfld : wr.drew.cell? ⟨B + 1, 2, none⟩ = some (.slice o2 n2 c2) := HGA.out.blk.cell 2
          have hfla : (wr.drew.alloc (.cells #[.string Y2] 9)).cell? ⟨B + 1, 2, none⟩ = some (.slice o2 n2 c2) := ((show Blk wr.drew _ _ _ from HGA.out.blk).alloc _).cell 2
          have hflb : (wr.alloc (.cells #[.string Y2] 9)).cell? ⟨B + 1, 2, none⟩ = some (.slice o2 n2 c2) := hfla
          have hS0 : wr.drew.cell? ⟨B + 1, 0, none⟩ = some (.string a) ∧ wr.drew.cell? (pa.add j) = some (.string q) := ⟨hsrc, hca⟩
          have hSa : (wr.drew.alloc (.cells #[.string Y2] 9)).cell? ⟨B + 1, 0, none⟩ = some (.string a) ∧ (wr.drew.alloc (.cells #[.string Y2] 9)).cell? (pa.add j) = some (.string q) := ⟨((show Blk wr.drew _ _ _ from HGA.out.blk).alloc _).cell 0, (World.cell?_of_block (a := pa.add j) (Below.heap_alloc _ _ _ (by rw [add_block]; have := HGA.out.blk.lt; show pa.block < wr.heap.size; omega))).trans hca⟩
          have hlenL : ea.reverse.length ≤ 1073741824 := by rw [List.length_reverse, HN2.out]; omega
          have hBG : B + 1 + 1 ≤ wr.drew.heap.size := HGA.out.blk.lt
          go_wp2_with fail
          refine wp_region_held_drew (S := fun W' => W'.cell? ⟨B + 1, 0, none⟩ = some (.string a) ∧ W'.cell? (pa.add j) = some (.string q)) (by kernel_rfl) ?_ (fun hHeld0 => ?_)
          · exact hS0
          apply takeH (i := 0) rfl (by kernel_rfl) (by kernel_rfl) (by kernel_rfl) (fun _ _ _ h => h) (by rfl)
          case hy => (intro w hSw; (try dsimp only at hSw); go_simp; try with_reducible rfl)
          case hS => assumption
          (try simp only [Act.put, List.setIfInBounds_toArray, List.set_cons_zero, List.set_cons_succ])
          apply takeH (i := 2) rfl (by kernel_rfl) (by kernel_rfl) (by kernel_rfl) (fun _ _ _ h => h) (by rfl)
          case hy => (intro w hSw; (try dsimp only at hSw); go_simp; try with_reducible rfl)
          case hS => assumption
          (try simp only [Act.put, List.setIfInBounds_toArray, List.set_cons_zero, List.set_cons_succ])
          apply takeH (i := 3) rfl (by kernel_rfl) (by kernel_rfl) (by kernel_rfl) (fun _ _ _ h => h) (by rfl)
          case hy => (intro w hSw; (try dsimp only at hSw); go_simp; try with_reducible rfl)
          case hS => assumption
          (try simp only [Act.put, List.setIfInBounds_toArray, List.set_cons_zero, List.set_cons_succ])
          apply takeH (i := 4) rfl (by kernel_rfl) (by kernel_rfl) (by kernel_rfl) (fun _ _ _ h => h) (by rfl)
          case hy => (intro w hSw; (try dsimp only at hSw); go_simp; try with_reducible rfl)
          case hS => assumption
          (try simp only [Act.put, List.setIfInBounds_toArray, List.set_cons_zero, List.set_cons_succ])
          apply takeH (i := 5) rfl (by kernel_rfl) (by kernel_rfl) (by kernel_rfl) (fun _ _ _ h => h) (by rfl)
          case hy => (intro w hSw; (try dsimp only at hSw); go_simp; try with_reducible rfl)
          case hS => assumption
          (try simp only [Act.put, List.setIfInBounds_toArray, List.set_cons_zero, List.set_cons_succ])
          apply takeH (i := 6) rfl (by kernel_rfl) (by kernel_rfl) (by kernel_rfl) (fun _ _ _ h => h) (by rfl)
          case hy => (intro w hSw; (try dsimp only at hSw); go_simp; try with_reducible rfl)
          case hS => assumption
          (try simp only [Act.put, List.setIfInBounds_toArray, List.set_cons_zero, List.set_cons_succ])
          apply takeH (i := 7) rfl (by kernel_rfl) (by kernel_rfl) (by kernel_rfl) (fun _ _ _ h => h) (by rfl)
          case hy => (intro w hSw; (try dsimp only at hSw); go_simp; try with_reducible rfl)
          case hS => assumption
          (try simp only [Act.put, List.setIfInBounds_toArray, List.set_cons_zero, List.set_cons_succ])
          apply takeH (i := 8) rfl (by kernel_rfl) (by kernel_rfl) (by kernel_rfl) (fun _ _ _ h => h) (by rfl)
          case hy => (intro w hSw; (try dsimp only at hSw); go_simp; try with_reducible rfl)
          case hS => assumption
          (try simp only [Act.put, List.setIfInBounds_toArray, List.set_cons_zero, List.set_cons_succ])
          refine doH2C (i := 1) (j := 9) rfl rfl (by kernel_rfl) (by rfl) (by rfl) (fun K hK => ?_) (fun K hK => ?_)
          focus
            go_simp
            refine hK.out _ _ ?_ (fun hHeld1 => ?_)
            · (first | exact hS5 | exact hS4 | exact hSa | exact hS0)
            clear hK K
            (try simp only [Act.put, List.setIfInBounds_toArray, List.set_cons_zero, List.set_cons_succ])
            refine doH (i := 9) rfl (by kernel_rfl) (by rfl) (fun K hK => ?_)
            go_simp
            refine (HNod.out _).mono ?_
            rintro e w3 ⟨rfl, hw3⟩
            rw [hw3]
            clear hw3 w3
            go_wp2_with fail
            refine hK.out _ _ ?_ (fun hHeld9 => ?_)
            · (first | exact hS5 | exact hS4 | exact hSa | exact hS0)
            clear hK K
            (try simp only [Act.put, List.setIfInBounds_toArray, List.set_cons_zero, List.set_cons_succ])
            refine doH (i := 10) rfl (by kernel_rfl) (by rfl) (fun K hK => ?_)
            go_simp
            refine hK.out _ _ ?_ (fun hHeld10 => ?_)
            · (first | exact hS5 | exact hS4 | exact hSa | exact hS0)
            clear hK K
            (try simp only [Act.put, List.setIfInBounds_toArray, List.set_cons_zero, List.set_cons_succ])
            refine doH (i := 11) rfl (by kernel_rfl) (by rfl) (fun K hK => ?_)
            refine wp_append_txtD rfl _ _ rfl (B + 1 + 1) (.slice o2 n2 c2) ea.reverse rfl (World.ownsRow.drew HGA.out.own1) Y2 rfl hlenL hBG ?_
            intro gg2 cc2 wa2 hown4 hg4 hat4
            rw [List.length_reverse, HN2.out] at hown4
            rw [List.length_reverse, HN2.out]
            have hneG : ∀ k, k < B + 1 + 1 → some k ≠ (Value.slice o2 n2 c2).ownBlock := fun k hk e => by have := (World.ownsRow.lt HGA.out.own1 k e.symm).1; omega
            have hblk4 := Blk.grown (show Blk wr.drew (B + 1) _ _ from HGA.out.blk) hg4 (hneG _ (by omega))
            have hZ4 := Blk.grown (show Blk wr.drew B _ _ from HZ.out) hg4 (hneG _ (by omega))
            have hca4 : wa2.cell? (pa.add j) = some (.string q) := (World.cell?_of_block (a := pa.add j) (hg4.block _ (by rw [add_block]; have := HGA.out.blk.lt; show pa.block < wr.heap.size; omega) (by rw [add_block]; exact hneG _ (by omega)))).trans hca
            have hS4 : wa2.cell? ⟨B + 1, 0, none⟩ = some (.string a) ∧ wa2.cell? (pa.add j) = some (.string q) := ⟨hblk4.cell 0, hca4⟩
            have cst : wa2.cell? ⟨B + 1, 2, none⟩ = some (.slice o2 n2 c2) := hblk4.cell 2
            have fst4 := hblk4.frozen 2
            have hblk5 := hblk4.set_ 2 (.slice (some ⟨gg2, 0, none⟩) (n2 + 1) cc2)
            have hca5 : (wa2.setCell ⟨B + 1, 2, none⟩ (.slice (some ⟨gg2, 0, none⟩) (n2 + 1) cc2)).cell? (pa.add j) = some (.string q) := (World.cell?_setCell_other _ _ _ _ (by intro e; have := congrArg Addr.block e; rw [add_block] at this; have h9 : (⟨B + 1, 2, none⟩ : Addr).block = B + 1 := rfl; omega)).trans hca4
            have hS5 : (wa2.setCell ⟨B + 1, 2, none⟩ (.slice (some ⟨gg2, 0, none⟩) (n2 + 1) cc2)).cell? ⟨B + 1, 0, none⟩ = some (.string a) ∧ (wa2.setCell ⟨B + 1, 2, none⟩ (.slice (some ⟨gg2, 0, none⟩) (n2 + 1) cc2)).cell? (pa.add j) = some (.string q) := ⟨hblk5.cell 0, hca5⟩
            refine hK.out _ _ ?_ (fun hHeld11 => ?_)
            · (first | exact hS5 | exact hS4 | exact hSa | exact hS0)
            clear hK K
            (try simp only [Act.put, List.setIfInBounds_toArray, List.set_cons_zero, List.set_cons_succ])
            apply takeH (i := 12) rfl (by kernel_rfl) (by kernel_rfl) (by kernel_rfl) (fun _ _ _ h => h) (by rfl)
            case hy => (intro w hSw; (try dsimp only at hSw); go_simp; try with_reducible rfl)
            case hS => assumption
            (try simp only [Act.put, List.setIfInBounds_toArray, List.set_cons_zero, List.set_cons_succ])
            refine doH (i := 13) rfl (by kernel_rfl) (by rfl) (fun K hK => ?_)
            go_simp
            refine hK.out _ _ ?_ (fun hHeld13 => ?_)
            · (first | exact hS5 | exact hS4 | exact hSa | exact hS0)
            clear hK K
            (try simp only [Act.put, List.setIfInBounds_toArray, List.set_cons_zero, List.set_cons_succ])
            refine wpAnyH_done (by kernel_rfl) ?_ _
          rotate_left
          focus
            go_simp
            refine (HNod.out _).mono ?_
            rintro e w3 ⟨rfl, hw3⟩
            rw [hw3]
            clear hw3 w3
            go_wp2_with fail
            refine hK.out _ _ ?_ (fun hHeld9 => ?_)
            · (first | exact hS5 | exact hS4 | exact hSa | exact hS0)
            clear hK K
            (try simp only [Act.put, List.setIfInBounds_toArray, List.set_cons_zero, List.set_cons_succ])
            refine doH2C (i := 1) (j := 10) rfl rfl (by kernel_rfl) (by rfl) (by rfl) (fun K hK => ?_) (fun K hK => ?_)
            focus
              go_simp
              refine hK.out _ _ ?_ (fun hHeld1 => ?_)
              · (first | exact hS5 | exact hS4 | exact hSa | exact hS0)
              clear hK K
              (try simp only [Act.put, List.setIfInBounds_toArray, List.set_cons_zero, List.set_cons_succ])
              refine doH (i := 10) rfl (by kernel_rfl) (by rfl) (fun K hK => ?_)
              go_simp
              refine hK.out _ _ ?_ (fun hHeld10 => ?_)
              · (first | exact hS5 | exact hS4 | exact hSa | exact hS0)
              clear hK K
              (try simp only [Act.put, List.setIfInBounds_toArray, List.set_cons_zero, List.set_cons_succ])
              refine doH (i := 11) rfl (by kernel_rfl) (by rfl) (fun K hK => ?_)
              refine wp_append_txtD rfl _ _ rfl (B + 1 + 1) (.slice o2 n2 c2) ea.reverse rfl (World.ownsRow.drew HGA.out.own1) Y2 rfl hlenL hBG ?_
              intro gg2 cc2 wa2 hown4 hg4 hat4
              rw [List.length_reverse, HN2.out] at hown4
              rw [List.length_reverse, HN2.out]
              have hneG : ∀ k, k < B + 1 + 1 → some k ≠ (Value.slice o2 n2 c2).ownBlock := fun k hk e => by have := (World.ownsRow.lt HGA.out.own1 k e.symm).1; omega
              have hblk4 := Blk.grown (show Blk wr.drew (B + 1) _ _ from HGA.out.blk) hg4 (hneG _ (by omega))
              have hZ4 := Blk.grown (show Blk wr.drew B _ _ from HZ.out) hg4 (hneG _ (by omega))
              have hca4 : wa2.cell? (pa.add j) = some (.string q) := (World.cell?_of_block (a := pa.add j) (hg4.block _ (by rw [add_block]; have := HGA.out.blk.lt; show pa.block < wr.heap.size; omega) (by rw [add_block]; exact hneG _ (by omega)))).trans hca
              have hS4 : wa2.cell? ⟨B + 1, 0, none⟩ = some (.string a) ∧ wa2.cell? (pa.add j) = some (.string q) := ⟨hblk4.cell 0, hca4⟩
              have cst : wa2.cell? ⟨B + 1, 2, none⟩ = some (.slice o2 n2 c2) := hblk4.cell 2
              have fst4 := hblk4.frozen 2
              have hblk5 := hblk4.set_ 2 (.slice (some ⟨gg2, 0, none⟩) (n2 + 1) cc2)
              have hca5 : (wa2.setCell ⟨B + 1, 2, none⟩ (.slice (some ⟨gg2, 0, none⟩) (n2 + 1) cc2)).cell? (pa.add j) = some (.string q) := (World.cell?_setCell_other _ _ _ _ (by intro e; have := congrArg Addr.block e; rw [add_block] at this; have h9 : (⟨B + 1, 2, none⟩ : Addr).block = B + 1 := rfl; omega)).trans hca4
              have hS5 : (wa2.setCell ⟨B + 1, 2, none⟩ (.slice (some ⟨gg2, 0, none⟩) (n2 + 1) cc2)).cell? ⟨B + 1, 0, none⟩ = some (.string a) ∧ (wa2.setCell ⟨B + 1, 2, none⟩ (.slice (some ⟨gg2, 0, none⟩) (n2 + 1) cc2)).cell? (pa.add j) = some (.string q) := ⟨hblk5.cell 0, hca5⟩
              refine hK.out _ _ ?_ (fun hHeld11 => ?_)
              · (first | exact hS5 | exact hS4 | exact hSa | exact hS0)
              clear hK K
              (try simp only [Act.put, List.setIfInBounds_toArray, List.set_cons_zero, List.set_cons_succ])
              apply takeH (i := 12) rfl (by kernel_rfl) (by kernel_rfl) (by kernel_rfl) (fun _ _ _ h => h) (by rfl)
              case hy => (intro w hSw; (try dsimp only at hSw); go_simp; try with_reducible rfl)
              case hS => assumption
              (try simp only [Act.put, List.setIfInBounds_toArray, List.set_cons_zero, List.set_cons_succ])
              refine doH (i := 13) rfl (by kernel_rfl) (by rfl) (fun K hK => ?_)
              go_simp
              refine hK.out _ _ ?_ (fun hHeld13 => ?_)
              · (first | exact hS5 | exact hS4 | exact hSa | exact hS0)
              clear hK K
              (try simp only [Act.put, List.setIfInBounds_toArray, List.set_cons_zero, List.set_cons_succ])
              refine wpAnyH_done (by kernel_rfl) ?_ _
            rotate_left
            focus
              go_simp
              refine hK.out _ _ ?_ (fun hHeld10 => ?_)
              · (first | exact hS5 | exact hS4 | exact hSa | exact hS0)
              clear hK K
              (try simp only [Act.put, List.setIfInBounds_toArray, List.set_cons_zero, List.set_cons_succ])
              refine doH (i := 1) rfl (by kernel_rfl) (by rfl) (fun K hK => ?_)
              go_simp
              refine hK.out _ _ ?_ (fun hHeld1 => ?_)
              · (first | exact hS5 | exact hS4 | exact hSa | exact hS0)
              clear hK K
              (try simp only [Act.put, List.setIfInBounds_toArray, List.set_cons_zero, List.set_cons_succ])
              refine doH (i := 11) rfl (by kernel_rfl) (by rfl) (fun K hK => ?_)
              refine wp_append_txtD rfl _ _ rfl (B + 1 + 1) (.slice o2 n2 c2) ea.reverse rfl (World.ownsRow.drew HGA.out.own1) Y2 rfl hlenL hBG ?_
              intro gg2 cc2 wa2 hown4 hg4 hat4
              rw [List.length_reverse, HN2.out] at hown4
              rw [List.length_reverse, HN2.out]
              have hneG : ∀ k, k < B + 1 + 1 → some k ≠ (Value.slice o2 n2 c2).ownBlock := fun k hk e => by have := (World.ownsRow.lt HGA.out.own1 k e.symm).1; omega
              have hblk4 := Blk.grown (show Blk wr.drew (B + 1) _ _ from HGA.out.blk) hg4 (hneG _ (by omega))
              have hZ4 := Blk.grown (show Blk wr.drew B _ _ from HZ.out) hg4 (hneG _ (by omega))
              have hca4 : wa2.cell? (pa.add j) = some (.string q) := (World.cell?_of_block (a := pa.add j) (hg4.block _ (by rw [add_block]; have := HGA.out.blk.lt; show pa.block < wr.heap.size; omega) (by rw [add_block]; exact hneG _ (by omega)))).trans hca
              have hS4 : wa2.cell? ⟨B + 1, 0, none⟩ = some (.string a) ∧ wa2.cell? (pa.add j) = some (.string q) := ⟨hblk4.cell 0, hca4⟩
              have cst : wa2.cell? ⟨B + 1, 2, none⟩ = some (.slice o2 n2 c2) := hblk4.cell 2
              have fst4 := hblk4.frozen 2
              have hblk5 := hblk4.set_ 2 (.slice (some ⟨gg2, 0, none⟩) (n2 + 1) cc2)
              have hca5 : (wa2.setCell ⟨B + 1, 2, none⟩ (.slice (some ⟨gg2, 0, none⟩) (n2 + 1) cc2)).cell? (pa.add j) = some (.string q) := (World.cell?_setCell_other _ _ _ _ (by intro e; have := congrArg Addr.block e; rw [add_block] at this; have h9 : (⟨B + 1, 2, none⟩ : Addr).block = B + 1 := rfl; omega)).trans hca4
              have hS5 : (wa2.setCell ⟨B + 1, 2, none⟩ (.slice (some ⟨gg2, 0, none⟩) (n2 + 1) cc2)).cell? ⟨B + 1, 0, none⟩ = some (.string a) ∧ (wa2.setCell ⟨B + 1, 2, none⟩ (.slice (some ⟨gg2, 0, none⟩) (n2 + 1) cc2)).cell? (pa.add j) = some (.string q) := ⟨hblk5.cell 0, hca5⟩
              refine hK.out _ _ ?_ (fun hHeld11 => ?_)
              · (first | exact hS5 | exact hS4 | exact hSa | exact hS0)
              clear hK K
              (try simp only [Act.put, List.setIfInBounds_toArray, List.set_cons_zero, List.set_cons_succ])
              apply takeH (i := 12) rfl (by kernel_rfl) (by kernel_rfl) (by kernel_rfl) (fun _ _ _ h => h) (by rfl)
              case hy => (intro w hSw; (try dsimp only at hSw); go_simp; try with_reducible rfl)
              case hS => assumption
              (try simp only [Act.put, List.setIfInBounds_toArray, List.set_cons_zero, List.set_cons_succ])
              refine doH (i := 13) rfl (by kernel_rfl) (by rfl) (fun K hK => ?_)
              go_simp
              refine hK.out _ _ ?_ (fun hHeld13 => ?_)
              · (first | exact hS5 | exact hS4 | exact hSa | exact hS0)
              clear hK K
              (try simp only [Act.put, List.setIfInBounds_toArray, List.set_cons_zero, List.set_cons_succ])
              refine wpAnyH_done (by kernel_rfl) ?_ _
          all_goals
            have hof : Own wa2 (B + 1 + 1) vl la.reverse := World.ownsRow.kept (World.ownsRow.drew HGA.out.own2) hg4 (by
              cases hq : (vl).ownBlock with
              | none => exact .inl rfl
              | some k => exact .inr (fun e => HGA.out.apart k e.symm hq))
            have hap : ∀ k, (Value.slice (some ⟨gg2, 0, none⟩) (n2 + 1) cc2).ownBlock = some k → vl.ownBlock ≠ some k := by
              intro k hk hk2
              injection hk with hk
              subst hk
              rcases hat4 with h9 | h9
              · exact HGA.out.apart _ h9 hk2
              · have : gg2 < wr.heap.size := (World.ownsRow.lt HGA.out.own2 _ hk2).2
                have h10 : wr.drew.heap.size = wr.heap.size := rfl
                omega
            have hB4 : Below w.heap.size w wa2 := (HBr.out.drew).grown hg4 HBr.out.size (fun k hk => by have := (World.ownsRow.lt HGA.out.own1 k hk).1; omega)
            have hB5 := hB4.setCell (p := ⟨B + 1, 2, none⟩) (by show w.heap.size ≤ B + 1; omega) (.slice (some ⟨gg2, 0, none⟩) (n2 + 1) cc2)
            have hown5 := own_farC hown4 (p := ⟨B + 1, 2, none⟩) (by show B + 1 < _; omega) (.slice (some ⟨gg2, 0, none⟩) (n2 + 1) cc2)
            have hof5 := own_farC hof (p := ⟨B + 1, 2, none⟩) (by show B + 1 < _; omega) (.slice (some ⟨gg2, 0, none⟩) (n2 + 1) cc2)
            have hZ5 := hZ4.far (p := ⟨B + 1, 2, none⟩) (by show B ≠ B + 1; omega) (.slice (some ⟨gg2, 0, none⟩) (n2 + 1) cc2)
            have hblk5' : Blk (wa2.setCell ⟨B + 1, 2, none⟩ (.slice (some ⟨gg2, 0, none⟩) (n2 + 1) cc2)) (B + 1) 55 #[.string a, .string s, (.slice (some ⟨gg2, 0, none⟩) (n2 + 1) cc2), vl] := hblk5
            generalize (wa2.setCell ⟨B + 1, 2, none⟩ (.slice (some ⟨gg2, 0, none⟩) (n2 + 1) cc2)) = w5 at *
            have cf5 : w5.cell? ⟨B + 1, 2, none⟩ = some (.slice (some ⟨gg2, 0, none⟩) (n2 + 1) cc2) := hblk5'.cell 2
            have cl5 : w5.cell? ⟨gg2, n2, none⟩ = some (.string Y2) := by
              have := (hown5.row (by simp))
              obtain ⟨gx, cx, ex, _, _, hrw⟩ := this
              injection ex with ex1 ex2 ex3
              injection ex1 with ex1
              injection ex1 with ex1 _ _
              subst ex1
              have h11 := hrw.2 n2 (by rw [List.length_append, List.length_reverse, HN2.out]; simp)
              rw [Nat.zero_add, show (ea.reverse ++ [Y2]).getD n2 ByteArray.empty = Y2 from getD_mid _ _ _ _ (by rw [List.length_reverse, HN2.out])] at h11
              exact h11
            have HM5 := Lib.hid (show ((n2 + 1 : Nat) : Int) - 1 = (n2 : Int) by omega)
            have hi5 : (n2 : Int) < ((n2 + 1 : Nat) : Int) := by omega
            have hi50 : (0 : Int) ≤ (n2 : Int) := by omega
            have HO5 := Lib.hid hown5
            have HF5 := Lib.hid hof5
            have HZ5 := Lib.hid hZ5
            have HB5 := Lib.hid hB5
            have HK5 := Lib.hid hblk5'
            have HAP := Lib.hid hap
            have hs5 := hblk5'.lt
            clear hof hap hB4 hB5 hown4 hown5 hof5 hZ4 hZ5 hblk4 hblk5 hblk5' hg4 hat4 hneG hca4 hS4 hS5 hS0 hSa cst fst4 hsrc hfld hfla hflb hBG hHeld0 hHeld1 hHeld9 hHeld10 hHeld11 hHeld13 hca
            go_wp2_with (rw [HM5.out])
            refine (HHY.out _).mono ?_
            rintro e w6 ⟨rfl, hb6⟩
            have hblk6 := HK5.out.below hb6 HK5.out.lt
            have c6 : w6.cell? ⟨B + 1, 0, none⟩ = some (.string a) := hblk6.cell 0
            have f6 := hblk6.frozen 0
            have hB6 := HB5.out.trans (hb6.mono HB5.out.size)
            have hB7 := hB6.setCell (p := ⟨B + 1, 0, none⟩) (by show w.heap.size ≤ B + 1; omega) (.string hY2)
            have hblk7 : Blk (w6.setCell ⟨B + 1, 0, none⟩ (.string hY2)) (B + 1) 55 #[.string hY2, .string s, (.slice (some ⟨gg2, 0, none⟩) (n2 + 1) cc2), vl] := hblk6.set_ 0 (.string hY2)
            have hZ7 := (HZ5.out.below hb6 HZ5.out.lt).far (p := ⟨B + 1, 0, none⟩) (by show B ≠ B + 1; omega) (.string hY2)
            have ho7 := own_farC (HO5.out.below hb6) (p := ⟨B + 1, 0, none⟩) (by show B + 1 < _; omega) (.string hY2)
            have hf7 := own_farC (HF5.out.below hb6) (p := ⟨B + 1, 0, none⟩) (by show B + 1 < _; omega) (.string hY2)
            have HB7 := Lib.hid hB7
            have HZ7 := Lib.hid hZ7
            have HGA7 := Lib.hid (show GrAt (w6.setCell ⟨B + 1, 0, none⟩ (.string hY2)) (B + 1) (.string hY2) (.string s) (.slice (some ⟨gg2, 0, none⟩) (n2 + 1) cc2) vl (Y2 :: ea).reverse la.reverse from ⟨hblk7, by rw [List.reverse_cons]; exact ho7, hf7, HAP.out⟩)
            have HCA7 := Lib.hid (show (w6.setCell ⟨B + 1, 0, none⟩ (.string hY2)).cell? (pa.add j) = some (.string q) from (hB7.cell (by rw [add_block, hB]; exact habB)).trans HCA0.out)
            clear hblk6 hB6 hB7 hblk7 hZ7 ho7 hf7 hb6 HO5 HF5 HZ5 HB5 HK5 HAP HGA HZ HBr cf5 cl5 HHY HNod
            go_wp2_with (fail)
            generalize w6.setCell ⟨B + 1, 0, none⟩ (.string hY2) = w7 at *
            have hca := HCA7.out
            have HGA := HGA7
            have HZ := HZ7
            have HBr := HB7
            clear HGA7 HZ7 HB7
            clear HCA7 c6 f6 HM5 hi5 hi50 hs5
            obtain ⟨o3, c3, hv3⟩ := own_slice HGA.out.own2
            rw [List.length_reverse] at hv3
            rw [HLA.out] at hv3
            subst hv3
            have HN3 := Lib.hid HLA.out
            have HNod := Lib.hid (fun W => node_any true s q (by omega) (by omega) W)
            have hYs : (nodC true s q).size ≤ 1000 := Nat.le_trans (nodC_size (by omega) (by omega)) (by decide)
            have HHY := Lib.hid (fun W => HH.out (nodC true s q) W hYs)
            have h32Y3 := H32.out (nodC true s q)
            clear hYs
            generalize h (nodC true s q) = hY3 at *
            generalize nodC true s q = Y3 at *
            have hsrc : w7.cell? ⟨B + 1, 1, none⟩ = some (.string s) := HGA.out.blk.cell 1
            have hfld : w7.drew.cell? ⟨B + 1, 3, none⟩ = some (.slice o3 j c3) := HGA.out.blk.cell 3
            have hfla : (w7.drew.alloc (.cells #[.string Y3] 9)).cell? ⟨B + 1, 3, none⟩ = some (.slice o3 j c3) := ((show Blk w7.drew _ _ _ from HGA.out.blk).alloc _).cell 3
            have hflb : (w7.alloc (.cells #[.string Y3] 9)).cell? ⟨B + 1, 3, none⟩ = some (.slice o3 j c3) := hfla
            have hS0 : w7.drew.cell? ⟨B + 1, 1, none⟩ = some (.string s) ∧ w7.drew.cell? (pa.add j) = some (.string q) := ⟨hsrc, hca⟩
            have hSa : (w7.drew.alloc (.cells #[.string Y3] 9)).cell? ⟨B + 1, 1, none⟩ = some (.string s) ∧ (w7.drew.alloc (.cells #[.string Y3] 9)).cell? (pa.add j) = some (.string q) := ⟨((show Blk w7.drew _ _ _ from HGA.out.blk).alloc _).cell 1, (World.cell?_of_block (a := pa.add j) (Below.heap_alloc _ _ _ (by rw [add_block]; have := HGA.out.blk.lt; show pa.block < w7.heap.size; omega))).trans hca⟩
            have hlenL : la.reverse.length ≤ 1073741824 := by rw [List.length_reverse, HN3.out]; omega
            have hBG : B + 1 + 1 ≤ w7.drew.heap.size := HGA.out.blk.lt
            go_wp2_with fail
            refine wp_region_held_drew (S := fun W' => W'.cell? ⟨B + 1, 1, none⟩ = some (.string s) ∧ W'.cell? (pa.add j) = some (.string q)) (by kernel_rfl) ?_ (fun hHeld0 => ?_)
            · exact hS0
            apply takeH (i := 0) rfl (by kernel_rfl) (by kernel_rfl) (by kernel_rfl) (fun _ _ _ h => h) (by rfl)
            case hy => (intro w hSw; (try dsimp only at hSw); go_simp; try with_reducible rfl)
            case hS => assumption
            (try simp only [Act.put, List.setIfInBounds_toArray, List.set_cons_zero, List.set_cons_succ])
            apply takeH (i := 2) rfl (by kernel_rfl) (by kernel_rfl) (by kernel_rfl) (fun _ _ _ h => h) (by rfl)
            case hy => (intro w hSw; (try dsimp only at hSw); go_simp; try with_reducible rfl)
            case hS => assumption
            (try simp only [Act.put, List.setIfInBounds_toArray, List.set_cons_zero, List.set_cons_succ])
            apply takeH (i := 3) rfl (by kernel_rfl) (by kernel_rfl) (by kernel_rfl) (fun _ _ _ h => h) (by rfl)
            case hy => (intro w hSw; (try dsimp only at hSw); go_simp; try with_reducible rfl)
            case hS => assumption
            (try simp only [Act.put, List.setIfInBounds_toArray, List.set_cons_zero, List.set_cons_succ])
            apply takeH (i := 4) rfl (by kernel_rfl) (by kernel_rfl) (by kernel_rfl) (fun _ _ _ h => h) (by rfl)
            case hy => (intro w hSw; (try dsimp only at hSw); go_simp; try with_reducible rfl)
            case hS => assumption
            (try simp only [Act.put, List.setIfInBounds_toArray, List.set_cons_zero, List.set_cons_succ])
            apply takeH (i := 5) rfl (by kernel_rfl) (by kernel_rfl) (by kernel_rfl) (fun _ _ _ h => h) (by rfl)
            case hy => (intro w hSw; (try dsimp only at hSw); go_simp; try with_reducible rfl)
            case hS => assumption
            (try simp only [Act.put, List.setIfInBounds_toArray, List.set_cons_zero, List.set_cons_succ])
            apply takeH (i := 6) rfl (by kernel_rfl) (by kernel_rfl) (by kernel_rfl) (fun _ _ _ h => h) (by rfl)
            case hy => (intro w hSw; (try dsimp only at hSw); go_simp; try with_reducible rfl)
            case hS => assumption
            (try simp only [Act.put, List.setIfInBounds_toArray, List.set_cons_zero, List.set_cons_succ])
            apply takeH (i := 7) rfl (by kernel_rfl) (by kernel_rfl) (by kernel_rfl) (fun _ _ _ h => h) (by rfl)
            case hy => (intro w hSw; (try dsimp only at hSw); go_simp; try with_reducible rfl)
            case hS => assumption
            (try simp only [Act.put, List.setIfInBounds_toArray, List.set_cons_zero, List.set_cons_succ])
            apply takeH (i := 8) rfl (by kernel_rfl) (by kernel_rfl) (by kernel_rfl) (fun _ _ _ h => h) (by rfl)
            case hy => (intro w hSw; (try dsimp only at hSw); go_simp; try with_reducible rfl)
            case hS => assumption
            (try simp only [Act.put, List.setIfInBounds_toArray, List.set_cons_zero, List.set_cons_succ])
            refine doH2C (i := 1) (j := 9) rfl rfl (by kernel_rfl) (by rfl) (by rfl) (fun K hK => ?_) (fun K hK => ?_)
            focus
              go_simp
              refine hK.out _ _ ?_ (fun hHeld1 => ?_)
              · (first | exact hS5 | exact hS4 | exact hSa | exact hS0)
              clear hK K
              (try simp only [Act.put, List.setIfInBounds_toArray, List.set_cons_zero, List.set_cons_succ])
              refine doH (i := 9) rfl (by kernel_rfl) (by rfl) (fun K hK => ?_)
              go_simp
              refine (HNod.out _).mono ?_
              rintro e w3 ⟨rfl, hw3⟩
              rw [hw3]
              clear hw3 w3
              go_wp2_with fail
              refine hK.out _ _ ?_ (fun hHeld9 => ?_)
              · (first | exact hS5 | exact hS4 | exact hSa | exact hS0)
              clear hK K
              (try simp only [Act.put, List.setIfInBounds_toArray, List.set_cons_zero, List.set_cons_succ])
              refine doH (i := 10) rfl (by kernel_rfl) (by rfl) (fun K hK => ?_)
              go_simp
              refine hK.out _ _ ?_ (fun hHeld10 => ?_)
              · (first | exact hS5 | exact hS4 | exact hSa | exact hS0)
              clear hK K
              (try simp only [Act.put, List.setIfInBounds_toArray, List.set_cons_zero, List.set_cons_succ])
              refine doH (i := 11) rfl (by kernel_rfl) (by rfl) (fun K hK => ?_)
              refine wp_append_txtD rfl _ _ rfl (B + 1 + 1) (.slice o3 j c3) la.reverse rfl (World.ownsRow.drew HGA.out.own2) Y3 rfl hlenL hBG ?_
              intro gg3 cc3 wa3 hown4 hg4 hat4
              rw [List.length_reverse, HN3.out] at hown4
              rw [List.length_reverse, HN3.out]
              have hneG : ∀ k, k < B + 1 + 1 → some k ≠ (Value.slice o3 j c3).ownBlock := fun k hk e => by have := (World.ownsRow.lt HGA.out.own2 k e.symm).1; omega
              have hblk4 := Blk.grown (show Blk w7.drew (B + 1) _ _ from HGA.out.blk) hg4 (hneG _ (by omega))
              have hZ4 := Blk.grown (show Blk w7.drew B _ _ from HZ.out) hg4 (hneG _ (by omega))
              have hca4 : wa3.cell? (pa.add j) = some (.string q) := (World.cell?_of_block (a := pa.add j) (hg4.block _ (by rw [add_block]; have := HGA.out.blk.lt; show pa.block < w7.heap.size; omega) (by rw [add_block]; exact hneG _ (by omega)))).trans hca
              have hS4 : wa3.cell? ⟨B + 1, 1, none⟩ = some (.string s) ∧ wa3.cell? (pa.add j) = some (.string q) := ⟨hblk4.cell 1, hca4⟩
              have cst : wa3.cell? ⟨B + 1, 3, none⟩ = some (.slice o3 j c3) := hblk4.cell 3
              have fst4 := hblk4.frozen 3
              have hblk5 := hblk4.set_ 3 (.slice (some ⟨gg3, 0, none⟩) (j + 1) cc3)
              have hca5 : (wa3.setCell ⟨B + 1, 3, none⟩ (.slice (some ⟨gg3, 0, none⟩) (j + 1) cc3)).cell? (pa.add j) = some (.string q) := (World.cell?_setCell_other _ _ _ _ (by intro e; have := congrArg Addr.block e; rw [add_block] at this; have h9 : (⟨B + 1, 3, none⟩ : Addr).block = B + 1 := rfl; omega)).trans hca4
              have hS5 : (wa3.setCell ⟨B + 1, 3, none⟩ (.slice (some ⟨gg3, 0, none⟩) (j + 1) cc3)).cell? ⟨B + 1, 1, none⟩ = some (.string s) ∧ (wa3.setCell ⟨B + 1, 3, none⟩ (.slice (some ⟨gg3, 0, none⟩) (j + 1) cc3)).cell? (pa.add j) = some (.string q) := ⟨hblk5.cell 1, hca5⟩
              refine hK.out _ _ ?_ (fun hHeld11 => ?_)
              · (first | exact hS5 | exact hS4 | exact hSa | exact hS0)
              clear hK K
              (try simp only [Act.put, List.setIfInBounds_toArray, List.set_cons_zero, List.set_cons_succ])
              apply takeH (i := 12) rfl (by kernel_rfl) (by kernel_rfl) (by kernel_rfl) (fun _ _ _ h => h) (by rfl)
              case hy => (intro w hSw; (try dsimp only at hSw); go_simp; try with_reducible rfl)
              case hS => assumption
              (try simp only [Act.put, List.setIfInBounds_toArray, List.set_cons_zero, List.set_cons_succ])
              refine doH (i := 13) rfl (by kernel_rfl) (by rfl) (fun K hK => ?_)
              go_simp
              refine hK.out _ _ ?_ (fun hHeld13 => ?_)
              · (first | exact hS5 | exact hS4 | exact hSa | exact hS0)
              clear hK K
              (try simp only [Act.put, List.setIfInBounds_toArray, List.set_cons_zero, List.set_cons_succ])
              refine wpAnyH_done (by kernel_rfl) ?_ _
            rotate_left
            focus
              go_simp
              refine (HNod.out _).mono ?_
              rintro e w3 ⟨rfl, hw3⟩
              rw [hw3]
              clear hw3 w3
              go_wp2_with fail
              refine hK.out _ _ ?_ (fun hHeld9 => ?_)
              · (first | exact hS5 | exact hS4 | exact hSa | exact hS0)
              clear hK K
              (try simp only [Act.put, List.setIfInBounds_toArray, List.set_cons_zero, List.set_cons_succ])
              refine doH2C (i := 1) (j := 10) rfl rfl (by kernel_rfl) (by rfl) (by rfl) (fun K hK => ?_) (fun K hK => ?_)
              focus
                go_simp
                refine hK.out _ _ ?_ (fun hHeld1 => ?_)
                · (first | exact hS5 | exact hS4 | exact hSa | exact hS0)
                clear hK K
                (try simp only [Act.put, List.setIfInBounds_toArray, List.set_cons_zero, List.set_cons_succ])
                refine doH (i := 10) rfl (by kernel_rfl) (by rfl) (fun K hK => ?_)
                go_simp
                refine hK.out _ _ ?_ (fun hHeld10 => ?_)
                · (first | exact hS5 | exact hS4 | exact hSa | exact hS0)
                clear hK K
                (try simp only [Act.put, List.setIfInBounds_toArray, List.set_cons_zero, List.set_cons_succ])
                refine doH (i := 11) rfl (by kernel_rfl) (by rfl) (fun K hK => ?_)
                refine wp_append_txtD rfl _ _ rfl (B + 1 + 1) (.slice o3 j c3) la.reverse rfl (World.ownsRow.drew HGA.out.own2) Y3 rfl hlenL hBG ?_
                intro gg3 cc3 wa3 hown4 hg4 hat4
                rw [List.length_reverse, HN3.out] at hown4
                rw [List.length_reverse, HN3.out]
                have hneG : ∀ k, k < B + 1 + 1 → some k ≠ (Value.slice o3 j c3).ownBlock := fun k hk e => by have := (World.ownsRow.lt HGA.out.own2 k e.symm).1; omega
                have hblk4 := Blk.grown (show Blk w7.drew (B + 1) _ _ from HGA.out.blk) hg4 (hneG _ (by omega))
                have hZ4 := Blk.grown (show Blk w7.drew B _ _ from HZ.out) hg4 (hneG _ (by omega))
                have hca4 : wa3.cell? (pa.add j) = some (.string q) := (World.cell?_of_block (a := pa.add j) (hg4.block _ (by rw [add_block]; have := HGA.out.blk.lt; show pa.block < w7.heap.size; omega) (by rw [add_block]; exact hneG _ (by omega)))).trans hca
                have hS4 : wa3.cell? ⟨B + 1, 1, none⟩ = some (.string s) ∧ wa3.cell? (pa.add j) = some (.string q) := ⟨hblk4.cell 1, hca4⟩
                have cst : wa3.cell? ⟨B + 1, 3, none⟩ = some (.slice o3 j c3) := hblk4.cell 3
                have fst4 := hblk4.frozen 3
                have hblk5 := hblk4.set_ 3 (.slice (some ⟨gg3, 0, none⟩) (j + 1) cc3)
                have hca5 : (wa3.setCell ⟨B + 1, 3, none⟩ (.slice (some ⟨gg3, 0, none⟩) (j + 1) cc3)).cell? (pa.add j) = some (.string q) := (World.cell?_setCell_other _ _ _ _ (by intro e; have := congrArg Addr.block e; rw [add_block] at this; have h9 : (⟨B + 1, 3, none⟩ : Addr).block = B + 1 := rfl; omega)).trans hca4
                have hS5 : (wa3.setCell ⟨B + 1, 3, none⟩ (.slice (some ⟨gg3, 0, none⟩) (j + 1) cc3)).cell? ⟨B + 1, 1, none⟩ = some (.string s) ∧ (wa3.setCell ⟨B + 1, 3, none⟩ (.slice (some ⟨gg3, 0, none⟩) (j + 1) cc3)).cell? (pa.add j) = some (.string q) := ⟨hblk5.cell 1, hca5⟩
                refine hK.out _ _ ?_ (fun hHeld11 => ?_)
                · (first | exact hS5 | exact hS4 | exact hSa | exact hS0)
                clear hK K
                (try simp only [Act.put, List.setIfInBounds_toArray, List.set_cons_zero, List.set_cons_succ])
                apply takeH (i := 12) rfl (by kernel_rfl) (by kernel_rfl) (by kernel_rfl) (fun _ _ _ h => h) (by rfl)
                case hy => (intro w hSw; (try dsimp only at hSw); go_simp; try with_reducible rfl)
                case hS => assumption
                (try simp only [Act.put, List.setIfInBounds_toArray, List.set_cons_zero, List.set_cons_succ])
                refine doH (i := 13) rfl (by kernel_rfl) (by rfl) (fun K hK => ?_)
                go_simp
                refine hK.out _ _ ?_ (fun hHeld13 => ?_)
                · (first | exact hS5 | exact hS4 | exact hSa | exact hS0)
                clear hK K
                (try simp only [Act.put, List.setIfInBounds_toArray, List.set_cons_zero, List.set_cons_succ])
                refine wpAnyH_done (by kernel_rfl) ?_ _
              rotate_left
              focus
                go_simp
                refine hK.out _ _ ?_ (fun hHeld10 => ?_)
                · (first | exact hS5 | exact hS4 | exact hSa | exact hS0)
                clear hK K
                (try simp only [Act.put, List.setIfInBounds_toArray, List.set_cons_zero, List.set_cons_succ])
                refine doH (i := 1) rfl (by kernel_rfl) (by rfl) (fun K hK => ?_)
                go_simp
                refine hK.out _ _ ?_ (fun hHeld1 => ?_)
                · (first | exact hS5 | exact hS4 | exact hSa | exact hS0)
                clear hK K
                (try simp only [Act.put, List.setIfInBounds_toArray, List.set_cons_zero, List.set_cons_succ])
                refine doH (i := 11) rfl (by kernel_rfl) (by rfl) (fun K hK => ?_)
                refine wp_append_txtD rfl _ _ rfl (B + 1 + 1) (.slice o3 j c3) la.reverse rfl (World.ownsRow.drew HGA.out.own2) Y3 rfl hlenL hBG ?_
                intro gg3 cc3 wa3 hown4 hg4 hat4
                rw [List.length_reverse, HN3.out] at hown4
                rw [List.length_reverse, HN3.out]
                have hneG : ∀ k, k < B + 1 + 1 → some k ≠ (Value.slice o3 j c3).ownBlock := fun k hk e => by have := (World.ownsRow.lt HGA.out.own2 k e.symm).1; omega
                have hblk4 := Blk.grown (show Blk w7.drew (B + 1) _ _ from HGA.out.blk) hg4 (hneG _ (by omega))
                have hZ4 := Blk.grown (show Blk w7.drew B _ _ from HZ.out) hg4 (hneG _ (by omega))
                have hca4 : wa3.cell? (pa.add j) = some (.string q) := (World.cell?_of_block (a := pa.add j) (hg4.block _ (by rw [add_block]; have := HGA.out.blk.lt; show pa.block < w7.heap.size; omega) (by rw [add_block]; exact hneG _ (by omega)))).trans hca
                have hS4 : wa3.cell? ⟨B + 1, 1, none⟩ = some (.string s) ∧ wa3.cell? (pa.add j) = some (.string q) := ⟨hblk4.cell 1, hca4⟩
                have cst : wa3.cell? ⟨B + 1, 3, none⟩ = some (.slice o3 j c3) := hblk4.cell 3
                have fst4 := hblk4.frozen 3
                have hblk5 := hblk4.set_ 3 (.slice (some ⟨gg3, 0, none⟩) (j + 1) cc3)
                have hca5 : (wa3.setCell ⟨B + 1, 3, none⟩ (.slice (some ⟨gg3, 0, none⟩) (j + 1) cc3)).cell? (pa.add j) = some (.string q) := (World.cell?_setCell_other _ _ _ _ (by intro e; have := congrArg Addr.block e; rw [add_block] at this; have h9 : (⟨B + 1, 3, none⟩ : Addr).block = B + 1 := rfl; omega)).trans hca4
                have hS5 : (wa3.setCell ⟨B + 1, 3, none⟩ (.slice (some ⟨gg3, 0, none⟩) (j + 1) cc3)).cell? ⟨B + 1, 1, none⟩ = some (.string s) ∧ (wa3.setCell ⟨B + 1, 3, none⟩ (.slice (some ⟨gg3, 0, none⟩) (j + 1) cc3)).cell? (pa.add j) = some (.string q) := ⟨hblk5.cell 1, hca5⟩
                refine hK.out _ _ ?_ (fun hHeld11 => ?_)
                · (first | exact hS5 | exact hS4 | exact hSa | exact hS0)
                clear hK K
                (try simp only [Act.put, List.setIfInBounds_toArray, List.set_cons_zero, List.set_cons_succ])
                apply takeH (i := 12) rfl (by kernel_rfl) (by kernel_rfl) (by kernel_rfl) (fun _ _ _ h => h) (by rfl)
                case hy => (intro w hSw; (try dsimp only at hSw); go_simp; try with_reducible rfl)
                case hS => assumption
                (try simp only [Act.put, List.setIfInBounds_toArray, List.set_cons_zero, List.set_cons_succ])
                refine doH (i := 13) rfl (by kernel_rfl) (by rfl) (fun K hK => ?_)
                go_simp
                refine hK.out _ _ ?_ (fun hHeld13 => ?_)
                · (first | exact hS5 | exact hS4 | exact hSa | exact hS0)
                clear hK K
                (try simp only [Act.put, List.setIfInBounds_toArray, List.set_cons_zero, List.set_cons_succ])
                refine wpAnyH_done (by kernel_rfl) ?_ _
            all_goals
              have hof : Own wa3 (B + 1 + 1) (Value.slice (some ⟨gg2, 0, none⟩) (n2 + 1) cc2) (Y2 :: ea).reverse := World.ownsRow.kept (World.ownsRow.drew HGA.out.own1) hg4 (by
                cases hq : ((Value.slice (some ⟨gg2, 0, none⟩) (n2 + 1) cc2)).ownBlock with
                | none => exact .inl rfl
                | some k => exact .inr (fun e => HGA.out.apart k hq e.symm))
              have hap : ∀ k, (show Value from (Value.slice (some ⟨gg2, 0, none⟩) (n2 + 1) cc2)).ownBlock = some k → (Value.slice (some ⟨gg3, 0, none⟩) (j + 1) cc3).ownBlock ≠ some k := by
                intro k hk hk2
                injection hk2 with hk2
                subst hk2
                rcases hat4 with h9 | h9
                · exact HGA.out.apart _ hk h9
                · have : gg3 < w7.heap.size := (World.ownsRow.lt HGA.out.own1 _ hk).2
                  have h10 : w7.drew.heap.size = w7.heap.size := rfl
                  omega
              have hB4 : Below w.heap.size w wa3 := (HBr.out.drew).grown hg4 HBr.out.size (fun k hk => by have := (World.ownsRow.lt HGA.out.own2 k hk).1; omega)
              have hB5 := hB4.setCell (p := ⟨B + 1, 3, none⟩) (by show w.heap.size ≤ B + 1; omega) (.slice (some ⟨gg3, 0, none⟩) (j + 1) cc3)
              have hown5 := own_farC hown4 (p := ⟨B + 1, 3, none⟩) (by show B + 1 < _; omega) (.slice (some ⟨gg3, 0, none⟩) (j + 1) cc3)
              have hof5 := own_farC hof (p := ⟨B + 1, 3, none⟩) (by show B + 1 < _; omega) (.slice (some ⟨gg3, 0, none⟩) (j + 1) cc3)
              have hZ5 := hZ4.far (p := ⟨B + 1, 3, none⟩) (by show B ≠ B + 1; omega) (.slice (some ⟨gg3, 0, none⟩) (j + 1) cc3)
              have hblk5' : Blk (wa3.setCell ⟨B + 1, 3, none⟩ (.slice (some ⟨gg3, 0, none⟩) (j + 1) cc3)) (B + 1) 55 #[.string hY2, .string s, (Value.slice (some ⟨gg2, 0, none⟩) (n2 + 1) cc2), (.slice (some ⟨gg3, 0, none⟩) (j + 1) cc3)] := hblk5
              generalize (wa3.setCell ⟨B + 1, 3, none⟩ (.slice (some ⟨gg3, 0, none⟩) (j + 1) cc3)) = w5 at *
              have cf5 : w5.cell? ⟨B + 1, 3, none⟩ = some (.slice (some ⟨gg3, 0, none⟩) (j + 1) cc3) := hblk5'.cell 3
              have cl5 : w5.cell? ⟨gg3, j, none⟩ = some (.string Y3) := by
                have := (hown5.row (by simp))
                obtain ⟨gx, cx, ex, _, _, hrw⟩ := this
                injection ex with ex1 ex2 ex3
                injection ex1 with ex1
                injection ex1 with ex1 _ _
                subst ex1
                have h11 := hrw.2 j (by rw [List.length_append, List.length_reverse, HN3.out]; simp)
                rw [Nat.zero_add, show (la.reverse ++ [Y3]).getD j ByteArray.empty = Y3 from getD_mid _ _ _ _ (by rw [List.length_reverse, HN3.out])] at h11
                exact h11
              have HM5 := Lib.hid (show ((j + 1 : Nat) : Int) - 1 = (j : Int) by omega)
              have hi5 : (j : Int) < ((j + 1 : Nat) : Int) := by omega
              have hi50 : (0 : Int) ≤ (j : Int) := by omega
              have HO5 := Lib.hid hown5
              have HF5 := Lib.hid hof5
              have HZ5 := Lib.hid hZ5
              have HB5 := Lib.hid hB5
              have HK5 := Lib.hid hblk5'
              have HAP := Lib.hid hap
              have hs5 := hblk5'.lt
              clear hof hap hB4 hB5 hown4 hown5 hof5 hZ4 hZ5 hblk4 hblk5 hblk5' hg4 hat4 hneG hca4 hS4 hS5 hS0 hSa cst fst4 hsrc hfld hfla hflb hBG hHeld0 hHeld1 hHeld9 hHeld10 hHeld11 hHeld13 hca
              go_wp2_with (rw [HM5.out])
              refine (HHY.out _).mono ?_
              rintro e w6 ⟨rfl, hb6⟩
              have hblk6 := HK5.out.below hb6 HK5.out.lt
              have c6 : w6.cell? ⟨B + 1, 1, none⟩ = some (.string s) := hblk6.cell 1
              have f6 := hblk6.frozen 1
              have hB6 := HB5.out.trans (hb6.mono HB5.out.size)
              have hB7 := hB6.setCell (p := ⟨B + 1, 1, none⟩) (by show w.heap.size ≤ B + 1; omega) (.string hY3)
              have hblk7 : Blk (w6.setCell ⟨B + 1, 1, none⟩ (.string hY3)) (B + 1) 55 #[.string hY2, .string hY3, (Value.slice (some ⟨gg2, 0, none⟩) (n2 + 1) cc2), (.slice (some ⟨gg3, 0, none⟩) (j + 1) cc3)] := hblk6.set_ 1 (.string hY3)
              have hZ7 := (HZ5.out.below hb6 HZ5.out.lt).far (p := ⟨B + 1, 1, none⟩) (by show B ≠ B + 1; omega) (.string hY3)
              have ho7 := own_farC (HO5.out.below hb6) (p := ⟨B + 1, 1, none⟩) (by show B + 1 < _; omega) (.string hY3)
              have hf7 := own_farC (HF5.out.below hb6) (p := ⟨B + 1, 1, none⟩) (by show B + 1 < _; omega) (.string hY3)
              have HB7 := Lib.hid hB7
              have HZ7 := Lib.hid hZ7
              have HGA7 := Lib.hid (show GrAt (w6.setCell ⟨B + 1, 1, none⟩ (.string hY3)) (B + 1) (.string hY2) (.string hY3) (Value.slice (some ⟨gg2, 0, none⟩) (n2 + 1) cc2) (.slice (some ⟨gg3, 0, none⟩) (j + 1) cc3) (Y2 :: ea).reverse (Y3 :: la).reverse from ⟨hblk7, hf7, by rw [List.reverse_cons]; exact ho7, HAP.out⟩)
              clear hblk6 hB6 hB7 hblk7 hZ7 ho7 hf7 hb6 HO5 HF5 HZ5 HB5 HK5 HAP HGA HZ HBr cf5 cl5 HHY HNod
              go_wp2
              go_roundw
              case rel => exact ⟨j + 1, true :: W2, q :: P2, hY2, hY3, (Y2 :: ea), Y3 :: la, R, S, (Value.slice (some ⟨gg2, 0, none⟩) (n2 + 1) cc2), (.slice (some ⟨gg3, 0, none⟩) (j + 1) cc3), by omega, by go_num, Lib.hid (by rw [HR.out]; simp), Lib.hid (by rw [HS.out]; simp), by simp [h2], by simp [h3], HTN, h32Y2, h32Y3, by rw [List.length_cons]; exact Nat.succ_le_succ HEA.out, by rw [List.length_cons, HLA.out], HGA7, HZ7, HB7⟩
              case measure => simp [intOf]; omega
    · obtain rfl : j = len := by omega
      have hlt' : ¬ (j : Int) < (j : Int) := by omega
      have HEE : Hid (T = (a, s, ea, la)) := Lib.hid (by
        have e1 : R = [] := by have := congrArg List.length HR.out; rw [HE.out] at this; simp at this; exact List.length_eq_zero_iff.1 (by omega)
        have e2 : S = [] := by have := congrArg List.length HS.out; rw [HP.out] at this; simp at this; exact List.length_eq_zero_iff.1 (by omega)
        have e3 := HR.out
        have e4 := HS.out
        rw [e1, List.append_nil] at e3
        rw [e2, List.append_nil] at e4
        have := HTT.out
        rw [List.reverse_inj.1 e3, e4, List.reverse_reverse, HT.out] at this
        injection this with this
        exact this.symm)
      have hZe := HZ.out
      obtain ⟨oe, ce, hve⟩ := own_slice HGA.out.own1
      obtain ⟨ol, cl, hvl⟩ := own_slice HGA.out.own2
      rw [List.length_reverse] at hve hvl
      obtain ⟨ne, hne⟩ : ∃ n, ea.length = n := ⟨_, rfl⟩
      obtain ⟨nl, hnl⟩ : ∃ n, la.length = n := ⟨_, rfl⟩
      rw [hne] at hve
      rw [hnl] at hvl
      subst hve
      subst hvl
      have r0 : wr.cell? ⟨B + 1, 2, none⟩ = some (.slice oe ne ce) := HGA.out.blk.cell 2
      have hbig1 : ea.reverse.length ≤ 1073741824 := by rw [List.length_reverse]; omega
      have hbig2 : la.reverse.length ≤ 1073741824 := by rw [List.length_reverse]; omega
      clear hZe hne hnl hla hea HT HR HS hlt
      go_wp2_with fail
      refine (reverse_txt (B + 1 + 1) _ _ hbig1 wr HGA.out.own1).mono ?_
      rintro e w2 ⟨⟨u, rfl⟩, hown2, hg2⟩
      have hne2 : ∀ k, k < B + 1 + 1 → some k ≠ (Value.slice oe ne ce).ownBlock := fun k hk e => by have := (World.ownsRow.lt HGA.out.own1 k e.symm).1; omega
      have hblk2 := HGA.out.blk.grown hg2 (hne2 _ (by omega))
      have hZ2 := HZ.out.grown hg2 (hne2 _ (by omega))
      have hB2 : Below w.heap.size w w2 := HBr.out.grown hg2 HBr.out.size (fun k hk => by have := (World.ownsRow.lt HGA.out.own1 k hk).1; omega)
      have hl2 : Own w2 (B + 1 + 1) (.slice ol nl cl) la.reverse := World.ownsRow.kept HGA.out.own2 hg2 (by
        cases hq : (Value.slice ol nl cl).ownBlock with
        | none => exact .inl rfl
        | some k => exact .inr (fun e => HGA.out.apart k e.symm hq))
      have r2 : w2.cell? ⟨B + 1, 3, none⟩ = some (.slice ol nl cl) := hblk2.cell 3
      have HAP := Lib.hid HGA.out.apart
      have HBK2 := Lib.hid hblk2
      have HZK2 := Lib.hid hZ2
      have HBB2 := Lib.hid hB2
      have HL2 := Lib.hid hl2
      have HO2 := Lib.hid hown2
      clear hblk2 hZ2 hB2 hl2 hown2 hg2 HGA HZ HBr hne2 r0
      go_wp2_with fail
      refine (reverse_txt (B + 1 + 1) _ _ hbig2 w2 HL2.out).mono ?_
      rintro e w3 ⟨⟨u3, rfl⟩, hown3, hg3⟩
      have hne3 : ∀ k, k < B + 1 + 1 → some k ≠ (Value.slice ol nl cl).ownBlock := fun k hk e => by have := (World.ownsRow.lt HL2.out k e.symm).1; omega
      have hblk3 := HBK2.out.grown hg3 (hne3 _ (by omega))
      have hZ3 := HZK2.out.grown hg3 (hne3 _ (by omega))
      have hB3 : Below w.heap.size w w3 := HBB2.out.grown hg3 HBB2.out.size (fun k hk => by have := (World.ownsRow.lt HL2.out k hk).1; omega)
      have he3 : Own w3 (B + 1 + 1) (.slice oe ne ce) ea.reverse.reverse := World.ownsRow.kept HO2.out hg3 (by
        cases hq : (Value.slice oe ne ce).ownBlock with
        | none => exact .inl rfl
        | some k => exact .inr (fun e => HAP.out k hq e.symm))
      have y0 : w3.cell? ⟨B + 1, 0, none⟩ = some (.string a) := hblk3.cell 0
      have y1 : w3.cell? ⟨B + 1, 1, none⟩ = some (.string s) := hblk3.cell 1
      have y2 : w3.cell? ⟨B + 1, 2, none⟩ = some (.slice oe ne ce) := hblk3.cell 2
      have y3 : w3.cell? ⟨B + 1, 3, none⟩ = some (.slice ol nl cl) := hblk3.cell 3
      have HBK3 := Lib.hid hblk3
      have HZ3 := Lib.hid hZ3
      have s0 : w3.cell? ⟨B, 0, none⟩ = some (.string ⟨#[]⟩) := hZ3.cell 0
      have s1 : w3.cell? ⟨B, 1, none⟩ = some (.string ⟨#[]⟩) := hZ3.cell 1
      have s2 : w3.cell? ⟨B, 2, none⟩ = some (.slice none 0 0) := hZ3.cell 2
      have s3 : w3.cell? ⟨B, 3, none⟩ = some (.slice none 0 0) := hZ3.cell 3
      have t0 := hZ3.frozen 0
      have t1 := hZ3.frozen 1
      have t2 := hZ3.frozen 2
      have t3 := hZ3.frozen 3
      have HRES := Lib.hid ((((hZ3.set_ 0 (.string a)).set_ 1 (.string s)).set_ 2 (.slice oe ne ce)).set_ 3 (.slice ol nl cl))
      have HE3 := Lib.hid (own_farC (own_farC (own_farC (own_farC he3 (p := ⟨B, 0, none⟩) (by show B < _; omega) (.string a)) (p := ⟨B, 1, none⟩) (by show B < _; omega) (.string s)) (p := ⟨B, 2, none⟩) (by show B < _; omega) (.slice oe ne ce)) (p := ⟨B, 3, none⟩) (by show B < _; omega) (.slice ol nl cl))
      have HL3 := Lib.hid (own_farC (own_farC (own_farC (own_farC hown3 (p := ⟨B, 0, none⟩) (by show B < _; omega) (.string a)) (p := ⟨B, 1, none⟩) (by show B < _; omega) (.string s)) (p := ⟨B, 2, none⟩) (by show B < _; omega) (.slice oe ne ce)) (p := ⟨B, 3, none⟩) (by show B < _; omega) (.slice ol nl cl))
      have HB3 := Lib.hid ((((hB3.setCell (p := ⟨B, 0, none⟩) (by show w.heap.size ≤ B; omega) (.string a)).setCell (p := ⟨B, 1, none⟩) (by show w.heap.size ≤ B; omega) (.string s)).setCell (p := ⟨B, 2, none⟩) (by show w.heap.size ≤ B; omega) (.slice oe ne ce)).setCell (p := ⟨B, 3, none⟩) (by show w.heap.size ≤ B; omega) (.slice ol nl cl))
      clear hblk3 hZ3 hB3 he3 hown3 hg3 HBK2 HZK2 HBB2 HL2 HO2 r2 hne3 HAP
      go_wp2
      refine bodyPost_ret (results_cell_row rfl _ _ B 55 #[.string a, .string s, .slice oe ne ce, .slice ol nl cl] (0, 0) _ rfl HRES.out Try.underlying55 rfl infoGrw) rfl ?_
      refine ⟨_, _, by rw [HEE.out], ?_, ?_, HB3.out⟩
      · rw [HEE.out]
        have := HE3.out.mono (B' := w.heap.size) (by omega)
        rw [List.reverse_reverse] at this
        exact this
      · rw [HEE.out]
        have := HL3.out.mono (B' := w.heap.size) (by omega)
        rw [List.reverse_reverse] at this
        exact this
end Go.Proofs.Ytfhfmfcmkiobdaa
