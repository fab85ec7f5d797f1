/-
 Same: of a state and a world that aren't the same.
-/
import Derived.Test.YtnbboabaihddbaaGreatYSame
namespace Go.Proofs.YtnbboabaihddbaaGreat
open Go.RowKit

theorem toList_injY {a b : ByteArray} (h : a.toList = b.toList) : a = b := by
 rw [ByteArray.toList_eq, ByteArray.toList_eq] at h
 cases a; cases b
 simp_all
theorem req_neq (w : World) (c q : Int) (l k v : ByteArray) (c2 q2 : Int) (l2 k2 v2 : ByteArray) (h : ¬ (c = c2 ∧ q = q2 ∧ l = l2 ∧ k = k2 ∧ v = v2)) : (binOp .neq 58 (.agg #[.int .i64 c, .int .i64 q, .string l, .string k, .string v]) (.agg #[.int .i64 c2, .int .i64 q2, .string l2, .string k2, .string v2])).run Tryz.prog w = .ok (.bool true) w := by
 go_simp
 exact fun h1 h2 h3 h4 h5 => h ⟨h1, h2, toList_injY h3, toList_injY h4, toList_injY h5⟩
theorem hd_neq (w : World) (q z t : Int) (r m : ByteArray) (q2 z2 t2 : Int) (r2 m2 : ByteArray) (h : ¬ (q = q2 ∧ z = z2 ∧ t = t2 ∧ r = r2 ∧ m = m2)) : (binOp .neq 48 (.agg #[.int .i64 q, .int .i64 z, .int .i64 t, .string r, .string m]) (.agg #[.int .i64 q2, .int .i64 z2, .int .i64 t2, .string r2, .string m2])).run Tryz.prog w = .ok (.bool true) w := by
 go_simp
 exact fun h1 h2 h3 h4 h5 => h ⟨h1, h2, h3, toList_injY h4, toList_injY h5⟩
section
attribute [-go_sem] loadVar
set_option maxRecDepth 100000 in
set_option maxHeartbeats 4000000 in
theorem same11_no (P P' : Nat → Prop) (cs ds : Array Value) (W1 W2 : Wd) (hi1 : InvW W1) (hi2 : InvW W2) (hne : W1.tk ≠ W2.tk ∨ W1.hd ≠ W2.hd) (w : World) (hS : StC w P cs W1) (hD : WdC w P' ds W2) :
 Calls Tryz.prog 17 #[.agg cs, .agg ds] w fun e w' => e = .returned (.bool false) ∧ Below w.heap.size w w' := by
 obtain ⟨va, vb, rfl, ⟨oa, ca, rfl, hA, _, _, _⟩, ⟨ob, cb, rfl, hB, _, _, _⟩⟩ := hS
 obtain ⟨va', vr, vb', rfl, ⟨oa', ca', rfl, hA', _, _, _⟩, _, ⟨ob', cb', rfl, hB', _, _, _⟩⟩ := hD
 have hm1 := hi1.most
 have hm2 := hi2.most
 have hh1 := hi1.heads
 have hh2 := hi2.heads
 generalize lastW 0 W1 = f0
 generalize lastW 1 W1 = f1
 generalize lastW 2 W1 = f2
 generalize lastW 3 W1 = f3
 obtain ⟨tk, rp, hd⟩ := W1
 obtain ⟨tk', rp', hd'⟩ := W2
 clear hi1 hi2
 dsimp only at *
 have HNE := Lib.hid hne
 obtain ⟨n, hn⟩ : ∃ n, tk.length = n := ⟨_, rfl⟩
 obtain ⟨m, hM⟩ : ∃ m, hd.length = m := ⟨_, rfl⟩
 obtain ⟨n', hn'⟩ : ∃ n, tk'.length = n := ⟨_, rfl⟩
 obtain ⟨m', hM'⟩ : ∃ m, hd'.length = m := ⟨_, rfl⟩
 have HLL := Lib.hid (And.intro (And.intro hn hn') (And.intro hM hM'))
 have HRQ : Hid (n = n' → ∀ W, Below w.heap.size w W → ∀ k, k < n → ∃ r1 r2 : Req, tk[k]? = some r1 ∧ tk'[k]? = some r2 ∧ ∃ g o g' o', oa = some ⟨g, o, none⟩ ∧ oa' = some ⟨g', o', none⟩ ∧ (loadVar 58 ⟨g, o + k * 5, none⟩).run Tryz.prog W = .ok (.agg #[.int .i64 r1.c, .int .i64 r1.q, .string r1.l, .string r1.k, .string r1.v]) W ∧ (loadVar 58 ⟨g', o' + k * 5, none⟩).run Tryz.prog W = .ok (.agg #[.int .i64 r2.c, .int .i64 r2.q, .string r2.l, .string r2.k, .string r2.v]) W) := Lib.hid fun e W hW k hk => by
  obtain ⟨g, o, h1, h2, _⟩ := req_at hA (i := k) (by omega)
  obtain ⟨g', o', h1', h2', _⟩ := req_at hA' (i := k) (by omega)
  refine ⟨tk[k]'(by omega), tk'[k]'(by omega), List.getElem?_eq_getElem _, List.getElem?_eq_getElem _, g, o, g', o', h1, h1', ?_, ?_⟩
  · have := hA.below hW
    rw [h1] at this
    exact RowG.load reqOk this (List.getElem?_eq_getElem (by omega))
  · have := hA'.below hW
    rw [h1'] at this
    exact RowG.load reqOk this (List.getElem?_eq_getElem (by omega))
 have HHD : Hid (m = m' → ∀ W, Below w.heap.size w W → ∀ k, k < m → ∃ x1 x2 : Hd, hd[k]? = some x1 ∧ hd'[k]? = some x2 ∧ ∃ g o g' o', ob = some ⟨g, o, none⟩ ∧ ob' = some ⟨g', o', none⟩ ∧ (loadVar 48 ⟨g, o + k * 5, none⟩).run Tryz.prog W = .ok (.agg #[.int .i64 x1.q, .int .i64 x1.z, .int .i64 x1.t, .string x1.r, .string x1.m]) W ∧ (loadVar 48 ⟨g', o' + k * 5, none⟩).run Tryz.prog W = .ok (.agg #[.int .i64 x2.q, .int .i64 x2.z, .int .i64 x2.t, .string x2.r, .string x2.m]) W) := Lib.hid fun e W hW k hk => by
  obtain ⟨g, o, h1, h2, _⟩ := hd_at hB (i := k) (by omega)
  obtain ⟨g', o', h1', h2', _⟩ := hd_at hB' (i := k) (by omega)
  refine ⟨hd[k]'(by omega), hd'[k]'(by omega), List.getElem?_eq_getElem _, List.getElem?_eq_getElem _, g, o, g', o', h1, h1', ?_, ?_⟩
  · have := hB.below hW
    rw [h1] at this
    exact RowG.load hdOk this (List.getElem?_eq_getElem (by omega))
  · have := hB'.below hW
    rw [h1'] at this
    exact RowG.load hdOk this (List.getElem?_eq_getElem (by omega))
 rw [hn, hM, hn', hM']
 rw [hn] at hm1 hh1
 rw [hM] at hh1
 obtain ⟨CS, hCS⟩ : ∃ CS, cellsS (.slice oa n ca) f0 f1 f2 f3 (.slice ob m cb) = CS := ⟨_, rfl⟩
 rw [hCS]
 obtain ⟨w0, hw0⟩ : ∃ w0, (w.alloc (.cells CS 41)).alloc (.cells #[.slice oa' n' ca', vr, .slice ob' m' cb'] 44) = w0 := ⟨_, rfl⟩
 have hb0 : Below w.heap.size w w0 := by rw [← hw0]; exact ((Below.refl _ w).alloc (Nat.le_refl _) _).alloc (by simp) _
 have k0 : Blk w0 w.heap.size 41 CS := by rw [← hw0]; exact (Blk.new _ _ _).alloc _
 have k1 : Blk w0 (w.heap.size + 1) 44 #[.slice oa' n' ca', vr, .slice ob' m' cb'] := by rw [← hw0]; exact Blk.new_at (by simp)
 have HW0 := Lib.hid hw0
 have HSL : Hid (∀ W, Below w0.heap.size w0 W → (loadVar 32 ⟨w.heap.size, 0, none⟩).run Tryz.prog W = .ok (.slice oa n ca) W ∧ (loadVar 32 ⟨w.heap.size + 1, 0, none⟩).run Tryz.prog W = .ok (.slice oa' n' ca') W ∧ (loadVar 39 ⟨w.heap.size, 21, none⟩).run Tryz.prog W = .ok (.slice ob m cb) W ∧ (loadVar 39 ⟨w.heap.size + 1, 2, none⟩).run Tryz.prog W = .ok (.slice ob' m' cb') W ∧ Below w.heap.size w W) := Lib.hid fun W hW => by
  have q0 := k0.below hW k0.lt
  have q1 := k1.below hW k1.lt
  rw [← hCS] at q0
  exact ⟨sl_req (q0.cell 0), sl_req (q1.cell 0), sl_hd (q0.cell 21), sl_hd (q1.cell 2), hb0.trans (hW.mono hb0.size)⟩
 have HB0 := Lib.hid hb0
 obtain ⟨l0, l1, l3, l4, _⟩ := HSL.out w0 (Below.refl _ _)
 clear hw0 k0 k1 hb0 hCS hA hA' hB hB' hn hM hn' hM' hne
 by_cases en : n = n'
 · subst en
   by_cases em : m = m'
   · subst em
     have en' : ((n : Int) != (n : Int)) = false := by simp
     go_enter Tryz.func17, Tryz.ntmps17
     go_wp2_with (rw [HW0.out])
     go_loopw [5] (fun i wr => ∃ k : Nat, k ≤ n ∧ i = .int .i64 k ∧ Hid (tk.take k = tk'.take k) ∧ Below w0.heap.size w0 wr) (fun i _ => n - (intOf i).toNat)
     case atStart => exact ⟨0, by omega, rfl, Lib.hid rfl, Below.refl _ _⟩
     case round =>
      clear l0 l1 l3 l4
      obtain ⟨k, hk, rfl, HT, hW⟩ := hrel
      obtain ⟨l0, l1, l3, l4, _⟩ := HSL.out wr hW
      by_cases hlt : k < n
      · have hlt' : (k : Int) < (n : Int) := by omega
        obtain ⟨r1, r2, e1, e2, g, o, g', o', rfl, rfl, d0, d1⟩ := HRQ.out (by trivial) wr.drew (HSL.out wr.drew hW.drew).2.2.2.2 k hlt
        have HE := Lib.hid (And.intro e1 e2)
        have HTK : Hid (r1 = r2 → tk.take (k + 1) = tk'.take (k + 1)) := Lib.hid fun e => by
         rw [List.take_add_one, List.take_add_one, HT.out, HE.out.1, HE.out.2, e]
        obtain ⟨rc1, rq1, rl1, rk1, rv1⟩ := r1
        obtain ⟨rc2, rq2, rl2, rk2, rv2⟩ := r2
        dsimp only at d0 d1
        have HW9 := Lib.hid hW.drew
        have HS9 : Hid ((fun W => ((loadVar 32 ⟨w.heap.size, 0, none⟩).run Tryz.prog W = .ok (.slice (some ⟨g, o, none⟩) n ca) W ∧ (loadVar 32 ⟨w.heap.size + 1, 0, none⟩).run Tryz.prog W = .ok (.slice (some ⟨g', o', none⟩) n ca') W) ∧ (loadVar 58 ⟨g, o + k * 5, none⟩).run Tryz.prog W = .ok (.agg #[.int .i64 rc1, .int .i64 rq1, .string rl1, .string rk1, .string rv1]) W ∧ (loadVar 58 ⟨g', o' + k * 5, none⟩).run Tryz.prog W = .ok (.agg #[.int .i64 rc2, .int .i64 rq2, .string rl2, .string rk2, .string rv2]) W) wr.drew) := Lib.hid ⟨⟨(HSL.out wr.drew hW.drew).1, (HSL.out wr.drew hW.drew).2.1⟩, d0, d1⟩
        clear hW d0 d1 e1 e2
        by_cases he : rc1 = rc2 ∧ rq1 = rq2 ∧ rl1 = rl2 ∧ rk1 = rk2 ∧ rv1 = rv2
        · obtain ⟨rfl, rfl, rfl, rfl, rfl⟩ := he
          have HT2 := Lib.hid (HTK.out rfl)
          go_wp2_with fail
          refine wp_region_held_drew (S := fun W => ((loadVar 32 ⟨w.heap.size, 0, none⟩).run Tryz.prog W = .ok (.slice (some ⟨g, o, none⟩) n ca) W ∧ (loadVar 32 ⟨w.heap.size + 1, 0, none⟩).run Tryz.prog W = .ok (.slice (some ⟨g', o', none⟩) n ca') W) ∧ (loadVar 58 ⟨g, o + k * 5, none⟩).run Tryz.prog W = .ok (.agg #[.int .i64 rc1, .int .i64 rq1, .string rl1, .string rk1, .string rv1]) W ∧ (loadVar 58 ⟨g', o' + k * 5, none⟩).run Tryz.prog W = .ok (.agg #[.int .i64 rc1, .int .i64 rq1, .string rl1, .string rk1, .string rv1]) W) (by kernel_rfl) ?_ (fun hHeld0 => ?_)
          · exact HS9.out
          iterate 11 (apply tkF [0, 1, 2, 3, 4, 5, 6, 7, 8, 9, 10] rfl rfl (by kernel_rfl) (fun _ _ _ h => h) (by rfl); (case hy => (intro w hSw; (try dsimp only at hSw); go_simp; try with_reducible rfl)); (case hS => assumption); (try simp only [Act.put, List.setIfInBounds_toArray, List.set_cons_zero, List.set_cons_succ]))
          refine wpAnyH_done (by kernel_rfl) ?_ _
          generalize wr.drew = w9 at *
          go_wp2_with fail
          go_roundw
          case rel => exact ⟨k + 1, by omega, by go_num, HT2, HW9.out⟩
          case measure => simp [intOf]; omega
        · have hq := fun W => req_neq W rc1 rq1 rl1 rk1 rv1 rc2 rq2 rl2 rk2 rv2 he
          have hB9 := (HSL.out wr.drew HW9.out).2.2.2.2
          clear he
          go_wp2_with fail
          refine wp_region_held_drew (S := fun W => ((loadVar 32 ⟨w.heap.size, 0, none⟩).run Tryz.prog W = .ok (.slice (some ⟨g, o, none⟩) n ca) W ∧ (loadVar 32 ⟨w.heap.size + 1, 0, none⟩).run Tryz.prog W = .ok (.slice (some ⟨g', o', none⟩) n ca') W) ∧ (loadVar 58 ⟨g, o + k * 5, none⟩).run Tryz.prog W = .ok (.agg #[.int .i64 rc1, .int .i64 rq1, .string rl1, .string rk1, .string rv1]) W ∧ (loadVar 58 ⟨g', o' + k * 5, none⟩).run Tryz.prog W = .ok (.agg #[.int .i64 rc2, .int .i64 rq2, .string rl2, .string rk2, .string rv2]) W) (by kernel_rfl) ?_ (fun hHeld0 => ?_)
          · exact HS9.out
          iterate 11 (apply tkF [0, 1, 2, 3, 4, 5, 6, 7, 8, 9, 10] rfl rfl (by kernel_rfl) (fun _ _ _ h => h) (by rfl); (case hy => (intro w hSw; (try dsimp only at hSw); go_simp; try with_reducible rfl)); (case hS => assumption); (try simp only [Act.put, List.setIfInBounds_toArray, List.set_cons_zero, List.set_cons_succ]))
          refine wpAnyH_done (by kernel_rfl) ?_ _
          generalize wr.drew = w9 at *
          go_wp2_with fail
          go_ret
          exact ⟨rfl, hB9⟩
      · obtain rfl : n = k := by omega
        have hltN : ¬ (n : Int) < (n : Int) := by omega
        have HHN : Hid (hd ≠ hd') := Lib.hid (HNE.out.resolve_left (fun h => h (by
         have := HT.out
         rwa [List.take_of_length_le (by rw [HLL.out.1.1]; exact Nat.le_refl _), List.take_of_length_le (by rw [HLL.out.1.2]; exact Nat.le_refl _)] at this)))
        clear HT hlt
        go_wp2_with fail
        go_loopw [6] (fun i wr => ∃ k : Nat, k ≤ m ∧ i = .int .i64 k ∧ Hid (hd.take k = hd'.take k) ∧ Below w0.heap.size w0 wr) (fun i _ => m - (intOf i).toNat)
        case atStart => exact ⟨0, by omega, rfl, Lib.hid rfl, hW⟩
        case round =>
         clear l0 l1 l3 l4 hW
         obtain ⟨k, hk9, rfl, HT, hW⟩ := hrel
         obtain ⟨l0, l1, l3, l4, _⟩ := HSL.out wr hW
         by_cases hlt : k < m
         · have hlt' : (k : Int) < (m : Int) := by omega
           obtain ⟨x1, x2, e1, e2, g, o, g', o', rfl, rfl, d0, d1⟩ := HHD.out (by trivial) wr.drew (HSL.out wr.drew hW.drew).2.2.2.2 k hlt
           have HE := Lib.hid (And.intro e1 e2)
           have HTK : Hid (x1 = x2 → hd.take (k + 1) = hd'.take (k + 1)) := Lib.hid fun e => by
            rw [List.take_add_one, List.take_add_one, HT.out, HE.out.1, HE.out.2, e]
           obtain ⟨hq1, hz1, ht1, hr1, hm1⟩ := x1
           obtain ⟨hq2, hz2, ht2, hr2, hm2⟩ := x2
           dsimp only at d0 d1
           have HW9 := Lib.hid hW.drew
           have HS9 : Hid ((fun W => ((loadVar 39 ⟨w.heap.size, 21, none⟩).run Tryz.prog W = .ok (.slice (some ⟨g, o, none⟩) m cb) W ∧ (loadVar 39 ⟨w.heap.size + 1, 2, none⟩).run Tryz.prog W = .ok (.slice (some ⟨g', o', none⟩) m cb') W) ∧ (loadVar 48 ⟨g, o + k * 5, none⟩).run Tryz.prog W = .ok (.agg #[.int .i64 hq1, .int .i64 hz1, .int .i64 ht1, .string hr1, .string hm1]) W ∧ (loadVar 48 ⟨g', o' + k * 5, none⟩).run Tryz.prog W = .ok (.agg #[.int .i64 hq2, .int .i64 hz2, .int .i64 ht2, .string hr2, .string hm2]) W) wr.drew) := Lib.hid ⟨⟨(HSL.out wr.drew hW.drew).2.2.1, (HSL.out wr.drew hW.drew).2.2.2.1⟩, d0, d1⟩
           clear hW d0 d1 e1 e2
           by_cases he : hq1 = hq2 ∧ hz1 = hz2 ∧ ht1 = ht2 ∧ hr1 = hr2 ∧ hm1 = hm2
           · obtain ⟨rfl, rfl, rfl, rfl, rfl⟩ := he
             have HT2 := Lib.hid (HTK.out rfl)
             go_wp2_with fail
             refine wp_region_held_drew (S := fun W => ((loadVar 39 ⟨w.heap.size, 21, none⟩).run Tryz.prog W = .ok (.slice (some ⟨g, o, none⟩) m cb) W ∧ (loadVar 39 ⟨w.heap.size + 1, 2, none⟩).run Tryz.prog W = .ok (.slice (some ⟨g', o', none⟩) m cb') W) ∧ (loadVar 48 ⟨g, o + k * 5, none⟩).run Tryz.prog W = .ok (.agg #[.int .i64 hq1, .int .i64 hz1, .int .i64 ht1, .string hr1, .string hm1]) W ∧ (loadVar 48 ⟨g', o' + k * 5, none⟩).run Tryz.prog W = .ok (.agg #[.int .i64 hq1, .int .i64 hz1, .int .i64 ht1, .string hr1, .string hm1]) W) (by kernel_rfl) ?_ (fun hHeld0 => ?_)
             · exact HS9.out
             iterate 11 (apply tkF [0, 1, 2, 3, 4, 5, 6, 7, 8, 9, 10] rfl rfl (by kernel_rfl) (fun _ _ _ h => h) (by rfl); (case hy => (intro w hSw; (try dsimp only at hSw); go_simp; try with_reducible rfl)); (case hS => assumption); (try simp only [Act.put, List.setIfInBounds_toArray, List.set_cons_zero, List.set_cons_succ]))
             refine wpAnyH_done (by kernel_rfl) ?_ _
             generalize wr.drew = w9 at *
             go_wp2_with fail
             go_roundw
             case rel => exact ⟨k + 1, by omega, by go_num, HT2, HW9.out⟩
             case measure => simp [intOf]; omega
           · have hqq := fun W => hd_neq W hq1 hz1 ht1 hr1 hm1 hq2 hz2 ht2 hr2 hm2 he
             have hB9 := (HSL.out wr.drew HW9.out).2.2.2.2
             clear he
             go_wp2_with fail
             refine wp_region_held_drew (S := fun W => ((loadVar 39 ⟨w.heap.size, 21, none⟩).run Tryz.prog W = .ok (.slice (some ⟨g, o, none⟩) m cb) W ∧ (loadVar 39 ⟨w.heap.size + 1, 2, none⟩).run Tryz.prog W = .ok (.slice (some ⟨g', o', none⟩) m cb') W) ∧ (loadVar 48 ⟨g, o + k * 5, none⟩).run Tryz.prog W = .ok (.agg #[.int .i64 hq1, .int .i64 hz1, .int .i64 ht1, .string hr1, .string hm1]) W ∧ (loadVar 48 ⟨g', o' + k * 5, none⟩).run Tryz.prog W = .ok (.agg #[.int .i64 hq2, .int .i64 hz2, .int .i64 ht2, .string hr2, .string hm2]) W) (by kernel_rfl) ?_ (fun hHeld0 => ?_)
             · exact HS9.out
             iterate 11 (apply tkF [0, 1, 2, 3, 4, 5, 6, 7, 8, 9, 10] rfl rfl (by kernel_rfl) (fun _ _ _ h => h) (by rfl); (case hy => (intro w hSw; (try dsimp only at hSw); go_simp; try with_reducible rfl)); (case hS => assumption); (try simp only [Act.put, List.setIfInBounds_toArray, List.set_cons_zero, List.set_cons_succ]))
             refine wpAnyH_done (by kernel_rfl) ?_ _
             generalize wr.drew = w9 at *
             go_wp2_with fail
             go_ret
             exact ⟨rfl, hB9⟩
         · obtain rfl : m = k := by omega
           refine absurd ?_ HHN.out
           have := HT.out
           rwa [List.take_of_length_le (by rw [HLL.out.2.1]; exact Nat.le_refl _), List.take_of_length_le (by rw [HLL.out.2.2]; exact Nat.le_refl _)] at this
   · have em' : ((m : Int) == (m' : Int)) = false := by rw [beq_eq_false_iff_ne]; omega
     go_enter Tryz.func17, Tryz.ntmps17
     go_wp2_with (rw [HW0.out])
     go_ret
     exact ⟨rfl, HB0.out⟩
 · have en' : ((n : Int) == (n' : Int)) = false := by rw [beq_eq_false_iff_ne]; omega
   go_enter Tryz.func17, Tryz.ntmps17
   go_wp2_with (rw [HW0.out])
   go_ret
   exact ⟨rfl, HB0.out⟩
end
end Go.Proofs.YtnbboabaihddbaaGreat
