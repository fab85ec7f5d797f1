/-
  A leaf's hash: the program's. Leaves: the program's; the hashes of the first requests.
-/
import Derived.Test.YtjmjkcgldencoaaGreatMMathMRootMRefL
import Derived.Test.YtjmjkcgldencoaaGreatYCloneYCopiedYFirst
import Derived.Test.YtjmjkcgldencoaaGreatYRef1YRef2YRef3
import Derived.Test.YtjmjkcgldencoaaGreatHStep
namespace Go.Proofs.YtjmjkcgldencoaaGreat
open Go.RowKit

section
attribute [-go_sem] loadVar
set_option maxRecDepth 100000 in
set_option maxHeartbeats 1000000 in
theorem mleaf_any (b : ByteArray) (hb : b.size ≤ 1073741824) (w : World) :
    Calls Tryz.prog 33 #[.agg tabV, .string b] w fun e w' => e = .returned (.string (leafM b)) ∧ Below w.heap.size w w' := by
  have z0 : (⟨#[0]⟩ : ByteArray).size = 1 := rfl
  have a1 : ¬ (⟨#[0]⟩ : ByteArray).size + b.size > 9223372036854775807 := by omega
  have HS := Lib.hid (fun W => hsum_any (⟨#[0]⟩ ++ b) (by simp only [ByteArray.size_append]; omega) W)
  change Hid (∀ W, Calls Tryz.prog 49 _ W fun e w' => e = .returned (.string (leafM b)) ∧ Below W.heap.size W w') at HS
  generalize leafM b = R at *
  have hB0 := (Below.refl _ w).alloc (Nat.le_refl _) (.cells tabV 47)
  have hT := tab_run (Blk.new w 47 tabV)
  clear z0
  go_enter Tryz.func33, Tryz.ntmps33
  go_wp2_with fail
  refine (HS.out _).mono ?_
  rintro e w' ⟨rfl, hB⟩
  have hB2 := hB0.trans (hB.mono hB0.size)
  go_wp2
  go_ret
  exact ⟨rfl, hB2⟩
end
end Go.Proofs.YtjmjkcgldencoaaGreat
namespace Go.Proofs.YtjmjkcgldencoaaGreat
open Go.RowKit

section
attribute [-go_sem] loadVar
set_option maxRecDepth 100000 in
set_option maxHeartbeats 1000000 in
theorem leavesS_any (oa : Option Addr) (N ca : Nat) (x y z u : Lst) (vb : Value) (n : Int) (tk : List Req) (hN : tk.length = N) (hle : N ≤ ca) (hN2 : N ≤ 1000) (hn : -9223372036854775808 ≤ n ∧ n ≤ 9223372036854775807) (hz : SzQ tk) (w : World) (hP : RowG reqK w oa tk) :
    Calls Tryz.prog 18 #[.agg (cellsS (.slice oa N ca) x y z u vb), .agg tabV, .int .i64 n] w (RT ((tk.take (nearN n N)).map leafQ) w) := by
  have HF1 : Hid (∀ W, Calls Tryz.prog 31 #[.agg (cellsS (.slice oa N ca) x y z u vb), .int .i64 n] W fun e w' => e = .returned (.slice oa (nearN n N) ca) ∧ Below W.heap.size W w') := Lib.hid fun W => first_any oa N ca x y z u vb n hle (by omega) hn W
  have hk := nearN_le n N
  obtain ⟨m, hm⟩ : ∃ m, nearN n N = m := ⟨_, rfl⟩
  rw [hm] at hk HF1 ⊢
  have HRT := Lib.hid (show ∀ e w', RT ((tk.take m).map leafQ) w e w' = ∃ v, e = .returned v ∧ Own w' w.heap.size v ((tk.take m).map leafQ) ∧ Below w.heap.size w w' from fun _ _ => rfl)
  have HLM : Hid ((fun k => (tk.take k).map leafQ) m = (tk.take m).map leafQ) := Lib.hid rfl
  have HF0 := Lib.hid (show (tk.take 0).map leafQ = [] from rfl)
  have HFL := Lib.hid (show ∀ k, k ≤ m → ((tk.take k).map leafQ).length = k from fun k hk => by rw [List.length_map, List.length_take]; omega)
  have HFS : Hid (∀ k, k < m → ∃ r : Req, smallB r = true ∧ (tk.take (k + 1)).map leafQ = (tk.take k).map leafQ ++ [leafQ r] ∧ ∃ g o, oa = some ⟨g, o, none⟩ ∧ ∀ W, Below w.heap.size w W → (loadVar 24 ⟨g, o + k * 5, none⟩).run Tryz.prog W = .ok (.agg #[.int .i64 r.c, .int .i64 r.q, .string r.l, .string r.k, .string r.v]) W) := Lib.hid fun k hk => by
    obtain ⟨g, o, h1, h2, _⟩ := req_at hP (i := k) (by omega)
    refine ⟨tk[k]'(by omega), hz _ (List.getElem_mem _), by rw [List.take_succ_eq_append_getElem (by omega), List.map_append]; rfl, g, o, h1, fun W hW => ?_⟩
    have := hP.below hW
    rw [h1] at this
    exact RowG.load reqOk this (List.getElem?_eq_getElem (by omega))
  have HRQ : Hid (∀ (r : Req), smallB r = true → ∀ W, Calls Tryz.prog 34 #[.agg #[.int .i64 r.c, .int .i64 r.q, .string r.l, .string r.k, .string r.v]] W fun e w' => e = .returned (.string (reqQ r)) ∧ Below W.heap.size W w') := Lib.hid fun r hr W => by
    have := of_decide_eq_true hr
    exact request_any r.c r.q r.l r.k r.v (by omega) (by omega) (by omega) W
  have HLF : Hid (∀ (r : Req), smallB r = true → ∀ W, Calls Tryz.prog 33 #[.agg tabV, .string (reqQ r)] W fun e w' => e = .returned (.string (leafQ r)) ∧ Below W.heap.size W w') := Lib.hid fun r hr W => by
    have := of_decide_eq_true hr
    exact mleaf_any (reqQ r) (by unfold reqQ; rw [reqB_size]; omega) W
  obtain ⟨w0, hw0⟩ : ∃ w0, (w.alloc (.cells (cellsS (.slice oa N ca) x y z u vb) 37)).alloc (.cells tabV 47) = w0 := ⟨_, rfl⟩
  have hb0 : Below w.heap.size w w0 := by rw [← hw0]; exact ((Below.refl _ w).alloc (Nat.le_refl _) _).alloc (by simp) _
  have k0 : Blk w0 w.heap.size 37 (cellsS (.slice oa N ca) x y z u vb) := by rw [← hw0]; exact (Blk.new _ _ _).alloc _
  have k1 : Blk w0 (w.heap.size + 1) 47 tabV := by rw [← hw0]; exact Blk.new_at (by simp)
  have HW0 := Lib.hid hw0
  have l0 := st_load (cellsS_size _ _ _ _ _ _) k0
  generalize RT ((tk.take m).map leafQ) w = PO at *
  generalize (tk.take m).map leafQ = L at *
  generalize hF : (fun k => (tk.take k).map leafQ) = F at *
  have hF' : ∀ k, (tk.take k).map leafQ = F k := fun k => by rw [← hF]
  simp only [hF'] at HF0 HFS HFL
  clear hF hF' hz hP hN hw0 hm
  go_enter Tryz.func18, Tryz.ntmps18
  go_wp2_with (rw [HW0.out])
  refine (HF1.out w0).mono ?_
  rintro e w1 ⟨rfl, hb1⟩
  have k1 := k1.below hb1 k1.lt
  have hb01 := hb0.trans (hb1.mono hb0.size)
  clear l0 k0 hb0 hb1
  go_wp2_with fail
  have hlt1 : w.heap.size + 1 < w1.heap.size := k1.lt
  go_loopw [7, 14] (fun v i wr => ∃ k : Nat, k ≤ m ∧ i = .int .i64 k ∧ Own wr w1.heap.size v (F k) ∧ Below w1.heap.size w1 wr) (fun _ i _ => m - (intOf i).toNat)
  case atStart => exact ⟨0, by omega, rfl, by rw [HF0.out]; exact own_nil _ _, Below.refl _ _⟩
  case round =>
    obtain ⟨k, hkm, rfl, hown, hB⟩ := hrel
    by_cases hlt : k < m
    · have hlt' : (k : Int) < (m : Int) := by omega
      obtain ⟨r, hr, hfs, g, o, rfl, hld⟩ := HFS.out k hlt
      have d0 := hld wr (hb01.trans (hB.mono hb01.size))
      have HQ := Lib.hid (HRQ.out r hr)
      have HL := Lib.hid (HLF.out r hr)
      have HFK := Lib.hid hfs
      have HFKL := Lib.hid (HFL.out k hkm)
      have hlen : (F k).length ≤ 1073741824 := by rw [HFL.out k hkm]; omega
      generalize reqQ r = RR at *
      generalize leafQ r = LL at *
      obtain ⟨rc, rq, rl, rk, rv⟩ := r
      dsimp only at d0 HQ
      obtain ⟨w2, hw2⟩ : ∃ w2, wr.alloc (.cells #[.int .i64 rc, .int .i64 rq, .string rl, .string rk, .string rv] 24) = w2 := ⟨_, rfl⟩
      have hb2 : Below wr.heap.size wr w2 := by rw [← hw2]; exact (Below.refl _ wr).alloc (Nat.le_refl _) _
      have k9 : Blk w2 wr.heap.size 24 #[.int .i64 rc, .int .i64 rq, .string rl, .string rk, .string rv] := by rw [← hw2]; exact Blk.new _ _ _
      have HKT := Lib.hid ((k1.below hB k1.lt).below hb2 (by have := hB.size; omega))
      have HOW := Lib.hid (hown.below hb2)
      have HBW := Lib.hid (hB.trans (hb2.mono hB.size))
      have HK9 := Lib.hid k9
      have HW2 := Lib.hid hw2
      obtain ⟨g9, hg9⟩ : ∃ g9, wr.heap.size = g9 := ⟨_, rfl⟩
      have HG9 := Lib.hid hg9
      have HN1 : Hid (∀ q, q < w1.heap.size → some q ≠ u7.ownBlock) := Lib.hid fun q hq e => by have := (World.ownsRow.lt HOW.out q e.symm).1; omega
      have HN9 : Hid (some wr.heap.size ≠ u7.ownBlock) := Lib.hid fun e => by have := (World.ownsRow.lt hown _ e.symm).2; omega
      have HKP : Hid (∀ W, w2.grownBy W u7.ownBlock → ((loadVar 47 ⟨w.heap.size + 1, 0, none⟩).run Tryz.prog W = .ok (.agg tabV) W ∧ (loadVar 24 ⟨g9, 0, none⟩).run Tryz.prog W = .ok (.agg #[.int .i64 rc, .int .i64 rq, .string rl, .string rk, .string rv]) W) ∧ w2.grownBy W u7.ownBlock) := Lib.hid fun W hW => ⟨⟨tab_run (HKT.out.grown hW (HN1.out _ hlt1)), by rw [← HG9.out]; exact req_load5 (HK9.out.grown hW HN9.out)⟩, hW⟩
      have hle2 : w1.heap.size ≤ w2.heap.size := HBW.out.size
      clear hfs hr hld hown hB hw2 hb2 k9 hg9
      go_wp2_with (rw [HW2.out, HG9.out])
      clear d0
      go_region_held3 (fun w' => ((loadVar 47 ⟨w.heap.size + 1, 0, none⟩).run Tryz.prog w' = .ok (.agg tabV) w' ∧ (loadVar 24 ⟨g9, 0, none⟩).run Tryz.prog w' = .ok (.agg #[.int .i64 rc, .int .i64 rq, .string rl, .string rk, .string rv]) w') ∧ w2.grownBy w' u7.ownBlock)
        ((refine HKP.out _ ?_; first | exact hG3 | exact grown_alloc hG2 _ | exact hG2 | exact hG1 | exact only_drew (grown_refl _ _) | exact grown_refl _ _))
        (first
          | (have := hb1; go_at_call 33; refine (HL.out _).mono ?_; rintro e w3 ⟨rfl, hb3⟩; have hb3' := hb1.trans (hb3.mono hb1.size); have hG2 : w2.grownBy w3 u7.ownBlock := only_of_below hb3' _)
          | (go_at_call 34; refine (HQ.out _).mono ?_; rintro e w4 ⟨rfl, hb4⟩; have hb1 : Below w2.heap.size w2 w4 := (Below.refl _ _).drew.trans hb4; have hG1 : w2.grownBy w4 u7.ownBlock := only_of_below hb1 _)
          | (have := hG2; (refine step_append_txt (by rfl) _ _ (by rfl) w1.heap.size u7 (F k) (by rfl) (HOW.out.below hb3') LL (by rfl) hlen (Nat.le_trans hle2 hG2.size) ?_; intro g2 cap2 w5 hown2 hgr2; have hG3 : w2.grownBy w5 u7.ownBlock := grown_trans hG2 hgr2)))
      rw [HFKL.out, ← HFK.out] at hown2
      have hB5 := HBW.out.grown hG3 hle2 (fun q hq => (World.ownsRow.lt HOW.out q hq).1)
      rw [HFKL.out]
      rename_i hHeld
      clear hHeld hG1 hG2 hG3 hgr2 hb1 hb3 hb3' hb4 HKP HN1 HN9 HOW HBW HKT HK9 HQ HL
      go_wp2
      go_roundw
      case rel => exact ⟨k + 1, by omega, by go_num, hown2, hB5⟩
      case measure => simp [intOf]; omega
    · obtain rfl : k = m := by omega
      have hlt' : ¬ (k : Int) < (k : Int) := by omega
      go_wp2
      rw [HRT.out]
      exact ⟨_, rfl, by rw [← HLM.out]; exact hown.mono (by omega), hb01.trans (hB.mono hb01.size)⟩
end
end Go.Proofs.YtjmjkcgldencoaaGreat
