/-
 Same: of a state and a world that are the same.
-/
import Derived.Test.YtnbboabaihddbaaGreatYApply
namespace Go.Proofs.YtnbboabaihddbaaGreat
open Go.RowKit

theorem Lst.enc5 (x : Lst) : x.enc.toArray = #[.int .i64 x.q, .int .i64 x.n, .int .i64 x.r.e, .int .i64 x.r.i, .int .i64 x.r.h] := rfl
section
attribute [-go_sem] loadVar
set_option maxRecDepth 100000 in
set_option maxHeartbeats 4000000 in
theorem same11_any (P P' : Nat → Prop) (cs ds : Array Value) (W : Wd) (hi : InvW W) (w : World) (hS : StC w P cs W) (hD : WdC w P' ds W) :
 Calls Tryz.prog 17 #[.agg cs, .agg ds] w fun e w' => e = .returned (.bool true) ∧ Below w.heap.size w w' := by
 obtain ⟨va, vb, rfl, ⟨oa, ca, rfl, hA, hA2, _, _⟩, ⟨ob, cb, rfl, hB, hB2, _, _⟩⟩ := hS
 obtain ⟨va', vr, vb', rfl, ⟨oa', ca', rfl, hA', hA2', _, _⟩, ⟨or, cr, rfl, hR, hR2, _, _⟩, ⟨ob', cb', rfl, hB', hB2', _, _⟩⟩ := hD
 obtain ⟨tk, rp, hd⟩ := W
 have hm := hi.most
 have hh := hi.heads
 have hlen := hi.len
 dsimp only at *
 obtain ⟨f, hf⟩ : ∃ f : Nat → Lst, f = fun j : Nat => lstL (j : Int) tk rp tk.length := ⟨_, rfl⟩
 have e0 : lastW 0 ⟨tk, rp, hd⟩ = f 0 := by rw [hf]; rfl
 have e1 : lastW 1 ⟨tk, rp, hd⟩ = f 1 := by rw [hf]; rfl
 have e2 : lastW 2 ⟨tk, rp, hd⟩ = f 2 := by rw [hf]; rfl
 have e3 : lastW 3 ⟨tk, rp, hd⟩ = f 3 := by rw [hf]; rfl
 rw [e0, e1, e2, e3]
 obtain ⟨n, hn⟩ : ∃ n, tk.length = n := ⟨_, rfl⟩
 obtain ⟨m, hM⟩ : ∃ m, hd.length = m := ⟨_, rfl⟩
 have HFF : Hid (∀ k : Nat, f k = lstL (k : Int) tk rp n) := Lib.hid fun k => by rw [hf, hn]
 have HL0 : Hid (∀ c : Int, lstL c tk rp 0 = ⟨0, 0, ⟨0, 0, 0⟩⟩) := Lib.hid fun _ => rfl
 have HLS : Hid (∀ (c : Int) j, lstL c tk rp (j + 1) = if (tk.getD j default).c = c then ⟨(tk.getD j default).q, (lstL c tk rp j).n + 1, rp.getD j default⟩ else lstL c tk rp j) := Lib.hid fun _ _ => rfl
 have HLN : Hid (∀ (c : Int) j, 0 ≤ (lstL c tk rp j).n ∧ (lstL c tk rp j).n ≤ j) := Lib.hid fun c j => by rw [lstL_n]; exact cntN_le c tk j
 have HRQ : Hid (∀ W, Below w.heap.size w W → ∀ k, k < n → ∃ r : Req, tk.getD k default = r ∧ ∃ g o g' o', oa = some ⟨g, o, none⟩ ∧ oa' = some ⟨g', o', none⟩ ∧ (loadVar 58 ⟨g, o + k * 5, none⟩).run Tryz.prog W = .ok (.agg #[.int .i64 r.c, .int .i64 r.q, .string r.l, .string r.k, .string r.v]) W ∧ (loadVar 58 ⟨g', o' + k * 5, none⟩).run Tryz.prog W = .ok (.agg #[.int .i64 r.c, .int .i64 r.q, .string r.l, .string r.k, .string r.v]) W ∧ (loadVar 3 ⟨g', o' + k * 5, none⟩).run Tryz.prog W = .ok (.int .i64 r.c) W ∧ (loadVar 3 ⟨g', o' + k * 5 + 1, none⟩).run Tryz.prog W = .ok (.int .i64 r.q) W) := Lib.hid fun W hW k hk => by
  obtain ⟨g, o, h1, h2, _⟩ := req_at hA (i := k) (by omega)
  obtain ⟨g', o', h1', h2', d0, d1, _⟩ := req_at hA' (i := k) (by omega)
  refine ⟨tk[k]'(by omega), by rw [List.getD_eq_getElem?_getD, List.getElem?_eq_getElem (by omega)]; rfl, g, o, g', o', h1, h1', ?_, ?_, num_load ((hW.cell (p := ⟨g', o' + k * 5, none⟩) h2').trans d0), num_load ((hW.cell (p := ⟨g', o' + k * 5 + 1, none⟩) h2').trans d1)⟩
  · have := hA.below hW
    rw [h1] at this
    exact RowG.load reqOk this (List.getElem?_eq_getElem (by omega))
  · have := hA'.below hW
    rw [h1'] at this
    exact RowG.load reqOk this (List.getElem?_eq_getElem (by omega))
 have HRP : Hid (∀ W, Below w.heap.size w W → ∀ k, k < n → ∃ y : Rep, rp.getD k default = y ∧ ∃ g o, or = some ⟨g, o, none⟩ ∧ (loadVar 35 ⟨g, o + k * 3, none⟩).run Tryz.prog W = .ok (.agg #[.int .i64 y.e, .int .i64 y.i, .int .i64 y.h]) W) := Lib.hid fun W hW k hk => by
  obtain ⟨g, o, h1, h2, _⟩ := rep_at hR (i := k) (by omega)
  refine ⟨rp[k]'(by omega), by rw [List.getD_eq_getElem?_getD, List.getElem?_eq_getElem (by omega)]; rfl, g, o, h1, ?_⟩
  have := hR.below hW
  rw [h1] at this
  exact RowG.load repOk this (List.getElem?_eq_getElem (by omega))
 have HHD : Hid (∀ W, Below w.heap.size w W → ∀ k, k < m → ∃ x : Hd, ∃ g o g' o', ob = some ⟨g, o, none⟩ ∧ ob' = some ⟨g', o', none⟩ ∧ (loadVar 48 ⟨g, o + k * 5, none⟩).run Tryz.prog W = .ok (.agg #[.int .i64 x.q, .int .i64 x.z, .int .i64 x.t, .string x.r, .string x.m]) W ∧ (loadVar 48 ⟨g', o' + k * 5, none⟩).run Tryz.prog W = .ok (.agg #[.int .i64 x.q, .int .i64 x.z, .int .i64 x.t, .string x.r, .string x.m]) W) := Lib.hid fun W hW k hk => by
  obtain ⟨g, o, h1, h2, _⟩ := hd_at hB (i := k) (by omega)
  obtain ⟨g', o', h1', h2', _⟩ := hd_at hB' (i := k) (by omega)
  refine ⟨hd[k]'(by omega), g, o, g', o', h1, h1', ?_, ?_⟩
  · have := hB.below hW
    rw [h1] at this
    exact RowG.load hdOk this (List.getElem?_eq_getElem (by omega))
  · have := hB'.below hW
    rw [h1'] at this
    exact RowG.load hdOk this (List.getElem?_eq_getElem (by omega))
 rw [hlen, hn, hM]
 rw [hn] at hm hh
 rw [hM] at hh
 obtain ⟨CS, hCS⟩ : ∃ CS, cellsS (.slice oa n ca) (f 0) (f 1) (f 2) (f 3) (.slice ob m cb) = CS := ⟨_, rfl⟩
 have HCS := Lib.hid hCS
 rw [hCS]
 obtain ⟨w0, hw0⟩ : ∃ w0, (w.alloc (.cells CS 41)).alloc (.cells #[.slice oa' n ca', .slice or n cr, .slice ob' m cb'] 44) = w0 := ⟨_, rfl⟩
 have hb0 : Below w.heap.size w w0 := by rw [← hw0]; exact ((Below.refl _ w).alloc (Nat.le_refl _) _).alloc (by simp) _
 have k0 : Blk w0 w.heap.size 41 CS := by rw [← hw0]; exact (Blk.new _ _ _).alloc _
 have k1 : Blk w0 (w.heap.size + 1) 44 #[.slice oa' n ca', .slice or n cr, .slice ob' m cb'] := by rw [← hw0]; exact Blk.new_at (by simp)
 have HW0 := Lib.hid hw0
 have HSL : Hid (∀ W, Below w0.heap.size w0 W → (loadVar 32 ⟨w.heap.size, 0, none⟩).run Tryz.prog W = .ok (.slice oa n ca) W ∧ (loadVar 32 ⟨w.heap.size + 1, 0, none⟩).run Tryz.prog W = .ok (.slice oa' n ca') W ∧ (loadVar 42 ⟨w.heap.size + 1, 1, none⟩).run Tryz.prog W = .ok (.slice or n cr) W ∧ (loadVar 39 ⟨w.heap.size, 21, none⟩).run Tryz.prog W = .ok (.slice ob m cb) W ∧ (loadVar 39 ⟨w.heap.size + 1, 2, none⟩).run Tryz.prog W = .ok (.slice ob' m cb') W ∧
  (∀ k, k < 4 → (loadVar 37 ⟨w.heap.size, 1 + k * 5, none⟩).run Tryz.prog W = .ok (.agg (f k).enc.toArray) W) ∧ Below w.heap.size w W) := Lib.hid fun W hW => by
  have q0 := k0.below hW k0.lt
  have q1 := k1.below hW k1.lt
  have q0' := q0
  rw [← hCS] at q0'
  exact ⟨sl_req (q0'.cell 0), sl_req (q1.cell 0), sl_rep (q1.cell 1), sl_hd (q0'.cell 21), sl_hd (q1.cell 2), fun k hk => last_load hk q0', hb0.trans (hW.mono hb0.size)⟩
 have hg1 := k1.lt
 obtain ⟨l0, l1, _, l3, l4, _, _⟩ := HSL.out w0 (Below.refl _ _)
 have hzl : ∀ W : World, (zeroValue 37).run Tryz.prog W = .ok (.agg #[.int .i64 0, .int .i64 0, .int .i64 0, .int .i64 0, .int .i64 0]) W := fun W => by kernel_rfl
 clear hw0 k0 k1 hb0 hCS hA hA' hB hB' hR hf e0 e1 e2 e3 hn hM hi hlen
 go_enter Tryz.func17, Tryz.ntmps17
 go_wp2_with (rw [HW0.out])
 go_loopw [5] (fun i wr => ∃ k : Nat, k ≤ n ∧ i = .int .i64 k ∧ Below w0.heap.size w0 wr) (fun i _ => n - (intOf i).toNat)
 case atStart => exact ⟨0, by omega, rfl, Below.refl _ _⟩
 case round =>
  clear l0 l1 l3 l4
  obtain ⟨k, hk, rfl, hW⟩ := hrel
  obtain ⟨l0, l1, _, l3, l4, _, _⟩ := HSL.out wr hW
  by_cases hlt : k < n
  · have hlt' : (k : Int) < (n : Int) := by omega
    obtain ⟨r, _, g, o, g', o', rfl, rfl, d0, d1, _⟩ := HRQ.out wr.drew (HSL.out wr.drew hW.drew).2.2.2.2.2.2 k hlt
    obtain ⟨rc, rq, rl, rk, rv⟩ := r
    have HW9 := Lib.hid hW.drew
    have HS9 : Hid ((fun W => ((loadVar 32 ⟨w.heap.size, 0, none⟩).run Tryz.prog W = .ok (.slice (some ⟨g, o, none⟩) n ca) W ∧ (loadVar 32 ⟨w.heap.size + 1, 0, none⟩).run Tryz.prog W = .ok (.slice (some ⟨g', o', none⟩) n ca') W) ∧ (loadVar 58 ⟨g, o + k * 5, none⟩).run Tryz.prog W = .ok (.agg #[.int .i64 rc, .int .i64 rq, .string rl, .string rk, .string rv]) W ∧ (loadVar 58 ⟨g', o' + k * 5, none⟩).run Tryz.prog W = .ok (.agg #[.int .i64 rc, .int .i64 rq, .string rl, .string rk, .string rv]) W) wr.drew) := Lib.hid ⟨⟨(HSL.out wr.drew hW.drew).1, (HSL.out wr.drew hW.drew).2.1⟩, d0, d1⟩
    clear hW d0 d1
    go_wp2_with fail
    refine wp_region_held_drew (S := fun W => ((loadVar 32 ⟨w.heap.size, 0, none⟩).run Tryz.prog W = .ok (.slice (some ⟨g, o, none⟩) n ca) W ∧ (loadVar 32 ⟨w.heap.size + 1, 0, none⟩).run Tryz.prog W = .ok (.slice (some ⟨g', o', none⟩) n ca') W) ∧ (loadVar 58 ⟨g, o + k * 5, none⟩).run Tryz.prog W = .ok (.agg #[.int .i64 rc, .int .i64 rq, .string rl, .string rk, .string rv]) W ∧ (loadVar 58 ⟨g', o' + k * 5, none⟩).run Tryz.prog W = .ok (.agg #[.int .i64 rc, .int .i64 rq, .string rl, .string rk, .string rv]) W) (by kernel_rfl) ?_ (fun hHeld0 => ?_)
    · exact HS9.out
    iterate 11 (apply tkF [0, 1, 2, 3, 4, 5, 6, 7, 8, 9, 10] rfl rfl (by kernel_rfl) (fun _ _ _ h => h) (by rfl); (case hy => (intro w hSw; (try dsimp only at hSw); go_simp; try with_reducible rfl)); (case hS => assumption); (try simp only [Act.put, List.setIfInBounds_toArray, List.set_cons_zero, List.set_cons_succ]))
    refine wpAnyH_done (by kernel_rfl) ?_ _
    generalize wr.drew = w9 at *
    go_wp2_with fail
    go_roundw
    case rel => exact ⟨k + 1, by omega, by go_num, HW9.out⟩
    case measure => simp [intOf]; omega
  · obtain rfl : n = k := by omega
    have hlt' : ¬ (n : Int) < (n : Int) := by omega
    go_wp2_with fail
    go_loopw [6] (fun i wr => ∃ k : Nat, k ≤ m ∧ i = .int .i64 k ∧ Below w0.heap.size w0 wr) (fun i _ => m - (intOf i).toNat)
    case atStart => exact ⟨0, by omega, rfl, hW⟩
    case round =>
     clear l0 l1 l3 l4 hW
     obtain ⟨k, hk9, rfl, hW⟩ := hrel
     obtain ⟨l0, l1, _, l3, l4, _, _⟩ := HSL.out wr hW
     by_cases hlt : k < m
     · have hlt' : (k : Int) < (m : Int) := by omega
       obtain ⟨x, g, o, g', o', rfl, rfl, d0, d1⟩ := HHD.out wr.drew (HSL.out wr.drew hW.drew).2.2.2.2.2.2 k hlt
       obtain ⟨hq, hz, ht, hr, hm⟩ := x
       have HW9 := Lib.hid hW.drew
       have HS9 : Hid ((fun W => ((loadVar 39 ⟨w.heap.size, 21, none⟩).run Tryz.prog W = .ok (.slice (some ⟨g, o, none⟩) m cb) W ∧ (loadVar 39 ⟨w.heap.size + 1, 2, none⟩).run Tryz.prog W = .ok (.slice (some ⟨g', o', none⟩) m cb') W) ∧ (loadVar 48 ⟨g, o + k * 5, none⟩).run Tryz.prog W = .ok (.agg #[.int .i64 hq, .int .i64 hz, .int .i64 ht, .string hr, .string hm]) W ∧ (loadVar 48 ⟨g', o' + k * 5, none⟩).run Tryz.prog W = .ok (.agg #[.int .i64 hq, .int .i64 hz, .int .i64 ht, .string hr, .string hm]) W) wr.drew) := Lib.hid ⟨⟨(HSL.out wr.drew hW.drew).2.2.2.1, (HSL.out wr.drew hW.drew).2.2.2.2.1⟩, d0, d1⟩
       clear hW d0 d1
       go_wp2_with fail
       refine wp_region_held_drew (S := fun W => ((loadVar 39 ⟨w.heap.size, 21, none⟩).run Tryz.prog W = .ok (.slice (some ⟨g, o, none⟩) m cb) W ∧ (loadVar 39 ⟨w.heap.size + 1, 2, none⟩).run Tryz.prog W = .ok (.slice (some ⟨g', o', none⟩) m cb') W) ∧ (loadVar 48 ⟨g, o + k * 5, none⟩).run Tryz.prog W = .ok (.agg #[.int .i64 hq, .int .i64 hz, .int .i64 ht, .string hr, .string hm]) W ∧ (loadVar 48 ⟨g', o' + k * 5, none⟩).run Tryz.prog W = .ok (.agg #[.int .i64 hq, .int .i64 hz, .int .i64 ht, .string hr, .string hm]) W) (by kernel_rfl) ?_ (fun hHeld0 => ?_)
       · exact HS9.out
       iterate 11 (apply tkF [0, 1, 2, 3, 4, 5, 6, 7, 8, 9, 10] rfl rfl (by kernel_rfl) (fun _ _ _ h => h) (by rfl); (case hy => (intro w hSw; (try dsimp only at hSw); go_simp; try with_reducible rfl)); (case hS => assumption); (try simp only [Act.put, List.setIfInBounds_toArray, List.set_cons_zero, List.set_cons_succ]))
       refine wpAnyH_done (by kernel_rfl) ?_ _
       generalize wr.drew = w9 at *
       go_wp2_with fail
       go_roundw
       case rel => exact ⟨k + 1, by omega, by go_num, HW9.out⟩
       case measure => simp [intOf]; omega
     · obtain rfl : m = k := by omega
       have hlt' : ¬ (m : Int) < (m : Int) := by omega
       go_wp2_with fail
       clear l0 l1 l3 l4 hlt hlt'
       go_loopw [7] (fun i wr => ∃ c : Nat, c ≤ 4 ∧ i = .int .i64 c ∧ Below w0.heap.size w0 wr) (fun i _ => 4 - (intOf i).toNat)
       case atStart => exact ⟨0, by omega, rfl, hW⟩
       case round =>
        clear hW
        obtain ⟨c, hc9, rfl, hW⟩ := hrel
        by_cases hc4 : c < 4
        · have hc4' : (c : Int) < 4 := by omega
          obtain ⟨wo, hwo⟩ : ∃ wo, wr.alloc (.cells #[.int .i64 0, .int .i64 0, .int .i64 0, .int .i64 0, .int .i64 0] 37) = wo := ⟨_, rfl⟩
          have hbo : Below wr.heap.size wr wo := by rw [← hwo]; exact (Below.refl _ wr).alloc (Nat.le_refl _) _
          have kL : Blk wo wr.heap.size 37 #[.int .i64 0, .int .i64 0, .int .i64 0, .int .i64 0, .int .i64 0] := by rw [← hwo]; exact Blk.new _ _ _
          have hgL : w0.heap.size ≤ wr.heap.size := hW.size
          have hWo := hW.trans (hbo.mono hW.size)
          have HWO := Lib.hid hwo
          obtain ⟨gL, hgl⟩ : ∃ gL, wr.heap.size = gL := ⟨_, rfl⟩
          have HGL := Lib.hid hgl
          rw [hgl] at kL hgL
          clear hwo hbo hW hgl
          go_wp2_with (rw [HWO.out, HGL.out])
          generalize wr = wq at *
          go_loopw [9] (fun i wr => ∃ j : Nat, j ≤ n ∧ i = .int .i64 j ∧ Below w0.heap.size w0 wr ∧ Blk wr gL 37 #[.int .i64 (lstL (c : Int) tk rp j).q, .int .i64 (lstL (c : Int) tk rp j).n, .int .i64 (lstL (c : Int) tk rp j).r.e, .int .i64 (lstL (c : Int) tk rp j).r.i, .int .i64 (lstL (c : Int) tk rp j).r.h]) (fun i _ => n - (intOf i).toNat)
          case atStart => exact ⟨0, by omega, rfl, hWo, by rw [HL0.out]; exact kL⟩
          case round =>
           clear kL hWo
           obtain ⟨j, hj9, rfl, hW, kL⟩ := hrel
           obtain ⟨_, l1, l2, _, _, _, hWw⟩ := HSL.out wr hW
           by_cases hlt : j < n
           · have hlt' : (j : Int) < (n : Int) := by omega
             obtain ⟨r, hr, g, o, g', o', rfl, rfl, _, _, d2, _⟩ := HRQ.out wr hWw j hlt
             obtain ⟨y, hy, gR, oR, rfl, _⟩ := HRP.out wr hWw j hlt
             have HN1 := Lib.hid (HLS.out (c : Int) j)
             have hLn := HLN.out (c : Int) j
             rw [hr, hy] at HN1
             have HK21 : Hid (∀ W, Below w0.heap.size w0 W → ((loadVar 32 ⟨w.heap.size + 1, 0, none⟩).run Tryz.prog W = .ok (.slice (some ⟨g', o', none⟩) n ca') W ∧ (loadVar 42 ⟨w.heap.size + 1, 1, none⟩).run Tryz.prog W = .ok (.slice (some ⟨gR, oR, none⟩) n cr) W) ∧ (loadVar 3 ⟨g', o' + j * 5 + 1, none⟩).run Tryz.prog W = .ok (.int .i64 r.q) W ∧ (loadVar 35 ⟨gR, oR + j * 3, none⟩).run Tryz.prog W = .ok (.agg #[.int .i64 y.e, .int .i64 y.i, .int .i64 y.h]) W) := Lib.hid fun W hW => by
              obtain ⟨_, a1, a2, _, _, _, aw⟩ := HSL.out W hW
              obtain ⟨r', hr', g1, o1, g1', o1', e1, e2, _, _, _, d3⟩ := HRQ.out W aw j hlt
              obtain ⟨y', hy', g2, o2, e3, d4⟩ := HRP.out W aw j hlt
              rw [hr] at hr'
              rw [hy] at hy'
              subst hr' hy'
              injection e2 with e2
              injection e2 with e4 e5
              injection e3 with e3
              injection e3 with e6 e7
              subst e4 e5 e6 e7
              exact ⟨⟨a1, a2⟩, d3, d4⟩
             obtain ⟨rc, rq, rl, rk, rv⟩ := r
             obtain ⟨ye, yi, yh⟩ := y
             dsimp only at d2 HK21 HN1
             obtain ⟨⟨Lq, Ln, ⟨Le, Li, Lh⟩⟩, hL⟩ : ∃ L, lstL (c : Int) tk rp j = L := ⟨_, rfl⟩
             rw [hL] at HN1 kL hLn
             dsimp only at HN1 kL hLn
             have HW9 := Lib.hid hW
             have HKL := Lib.hid kL
             clear hr hy hL hWw hW
             by_cases hc : rc = (c : Int)
             · have hc' : (rc == (c : Int)) = true := by rw [beq_iff_eq]; exact hc
               have hN : lstL (c : Int) tk rp (j + 1) = ⟨rq, Ln + 1, ⟨ye, yi, yh⟩⟩ := by rw [HN1.out, if_pos hc]
               have HNN := Lib.hid hN
               have e6 : IntKind.i64.wrap (Ln + 1) = Ln + 1 := by rw [IntKind.wrap_i64]; omega
               have HC9 := Lib.hid hc
               clear hc hN kL l2
               go_wp2_with fail
               have hWd : Below w0.heap.size w0 wr.drew := HW9.out.drew
               have kL : Blk wr.drew gL 37 #[.int .i64 Lq, .int .i64 Ln, .int .i64 Le, .int .i64 Li, .int .i64 Lh] := HKL.out.drew
               have HKd := Lib.hid kL
               have HWd := Lib.hid hWd
               refine wp_region_held_drew (S := fun W => ((loadVar 32 ⟨w.heap.size + 1, 0, none⟩).run Tryz.prog W = .ok (.slice (some ⟨g', o', none⟩) n ca') W ∧ (loadVar 42 ⟨w.heap.size + 1, 1, none⟩).run Tryz.prog W = .ok (.slice (some ⟨gR, oR, none⟩) n cr) W) ∧ (loadVar 3 ⟨g', o' + j * 5 + 1, none⟩).run Tryz.prog W = .ok (.int .i64 rq) W ∧ (loadVar 35 ⟨gR, oR + j * 3, none⟩).run Tryz.prog W = .ok (.agg #[.int .i64 ye, .int .i64 yi, .int .i64 yh]) W) (by kernel_rfl) ?_ (fun hHeld0 => ?_)
               · exact HK21.out _ hWd
               clear l1 d2 HKL HW9
               generalize wr.drew = w9 at *
               iterate 12 (apply tkF [0, 1, 2, 3, 4, 5, 6, 9, 10, 11, 12, 13] rfl rfl (by kernel_rfl) (fun _ _ _ h => h) (by rfl); (case hy => (intro w hSw; (try dsimp only at hSw); go_simp; try with_reducible rfl)); (case hS => assumption); (try simp only [Act.put, List.setIfInBounds_toArray, List.set_cons_zero, List.set_cons_succ]))
               have hL7 := num_load (kL.cell 1)
               change (loadVar 3 ⟨gL, 1, none⟩).run Tryz.prog w9 = .ok (.int .i64 Ln) w9 at hL7
               refine doH (i := 7) rfl (by kernel_rfl) (by rfl) (fun K hK => ?_)
               go_simp
               refine hK.out _ _ (HK21.out _ HWd.out) (fun hHeld7 => ?_)
               clear hK K hHeld0
               (try simp only [Act.put, List.setIfInBounds_toArray, List.set_cons_zero, List.set_cons_succ])
               iterate 2 (apply tkF [8, 14] rfl rfl (by kernel_rfl) (fun _ _ _ h => h) (by rfl); (case hy => (intro w hSw; (try dsimp only at hSw); go_simp; try with_reducible rfl)); (case hS => assumption); (try simp only [Act.put, List.setIfInBounds_toArray, List.set_cons_zero, List.set_cons_succ]))
               refine doH (i := 15) rfl (by kernel_rfl) (by rfl) (fun K hK => ?_)
               refine wp_store_row 37 _ _ rfl gL #[.int .i64 rq, .int .i64 (Ln + 1), .int .i64 ye, .int .i64 yi, .int .i64 yh] rfl rfl 37 #[.int .i64 Lq, .int .i64 Ln, .int .i64 Le, .int .i64 Li, .int .i64 Lh] HKd.out (by kernel_rfl) rfl (last_one _ _ _ _ _) ?_
               have hW5 : Below w0.heap.size w0 (w9.setRow gL #[.int .i64 rq, .int .i64 (Ln + 1), .int .i64 ye, .int .i64 yi, .int .i64 yh]) := HWd.out.grown (only_setRow (grown_refl w9 (some gL)) _) HWd.out.size (fun q hq => by injection hq with e; omega)
               have k5 : Blk (w9.setRow gL #[.int .i64 rq, .int .i64 (Ln + 1), .int .i64 ye, .int .i64 yi, .int .i64 yh]) gL 37 #[.int .i64 rq, .int .i64 (Ln + 1), .int .i64 ye, .int .i64 yi, .int .i64 yh] := setRow_heap w9 gL #[.int .i64 Lq, .int .i64 Ln, .int .i64 Le, .int .i64 Li, .int .i64 Lh] #[.int .i64 rq, .int .i64 (Ln + 1), .int .i64 ye, .int .i64 yi, .int .i64 yh] 37 (0, 0) HKd.out
               refine hK.out _ _ (HK21.out _ hW5) (fun hHeld15 => ?_)
               clear hK K hHeld7
               (try simp only [Act.put])
               refine wpAnyH_done (by kernel_rfl) ?_ _
               go_wp2_with fail
               go_roundw
               case rel => exact ⟨j + 1, by omega, by go_num, hW5, by rw [HNN.out]; exact k5⟩
               case measure => simp [intOf]; omega
             · have hc' : (rc == (c : Int)) = false := by rw [beq_eq_false_iff_ne]; exact hc
               have HNN : Hid (lstL (c : Int) tk rp (j + 1) = ⟨Lq, Ln, ⟨Le, Li, Lh⟩⟩) := Lib.hid (by rw [HN1.out, if_neg hc])
               clear hc kL
               go_wp2_with fail
               go_roundw
               case rel => exact ⟨j + 1, by omega, by go_num, HW9.out, by rw [HNN.out]; exact HKL.out⟩
               case measure => simp [intOf]; omega
           · obtain rfl : n = j := by omega
             have hlt' : ¬ (n : Int) < (n : Int) := by omega
             have hff := HFF.out c
             obtain ⟨⟨Lq, Ln, ⟨Le, Li, Lh⟩⟩, hL⟩ : ∃ L, lstL (c : Int) tk rp n = L := ⟨_, rfl⟩
             rw [hL] at hff kL
             dsimp only at kL
             have hx := (HSL.out wr.drew hW.drew).2.2.2.2.2.1 c hc4
             rw [hff] at hx
             have HS22 : Hid ((fun W => (loadVar 37 ⟨w.heap.size, 1 + c * 5, none⟩).run Tryz.prog W = .ok (.agg #[.int .i64 Lq, .int .i64 Ln, .int .i64 Le, .int .i64 Li, .int .i64 Lh]) W ∧ (loadVar 37 ⟨gL, 0, none⟩).run Tryz.prog W = .ok (.agg #[.int .i64 Lq, .int .i64 Ln, .int .i64 Le, .int .i64 Li, .int .i64 Lh]) W) wr.drew) := Lib.hid ⟨hx, run_loadVar_row wr.drew gL 37 37 _ (0, 0) _ kL.drew Tryz.underlying37 rfl (by kernel_rfl)⟩
             have HW9 := Lib.hid hW.drew
             clear hx hff hL kL hW
             go_wp2_with fail
             refine wp_region_held_drew (S := fun W => (loadVar 37 ⟨w.heap.size, 1 + c * 5, none⟩).run Tryz.prog W = .ok (.agg #[.int .i64 Lq, .int .i64 Ln, .int .i64 Le, .int .i64 Li, .int .i64 Lh]) W ∧ (loadVar 37 ⟨gL, 0, none⟩).run Tryz.prog W = .ok (.agg #[.int .i64 Lq, .int .i64 Ln, .int .i64 Le, .int .i64 Li, .int .i64 Lh]) W) (by kernel_rfl) ?_ (fun hHeld0 => ?_)
             · exact HS22.out
             iterate 6 (apply tkF [0, 1, 2, 3, 4, 5] rfl rfl (by kernel_rfl) (fun _ _ _ h => h) (by rfl); (case hy => (intro w hSw; (try dsimp only at hSw); go_simp; try with_reducible rfl)); (case hS => assumption); (try simp only [Act.put, List.setIfInBounds_toArray, List.set_cons_zero, List.set_cons_succ]))
             refine wpAnyH_done (by kernel_rfl) ?_ _
             generalize wr.drew = w9 at *
             go_wp2_with fail
             go_roundw
             case rel => exact ⟨c + 1, by omega, by go_num, HW9.out⟩
             case measure => simp [intOf]; omega
        · obtain rfl : 4 = c := by omega
          have hc4' : ¬ ((4 : Nat) : Int) < 4 := by omega
          go_wp2_with fail
          go_ret
          exact ⟨rfl, (HSL.out _ hW).2.2.2.2.2.2⟩
end
end Go.Proofs.YtnbboabaihddbaaGreat
