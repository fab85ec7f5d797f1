/-
  Map: the program's; the map behind the first requests.
-/
import Derived.Test.YtjmjkcgldencoaaGreatYCloneYCopiedYFirst
import Derived.Test.YtjmjkcgldencoaaGreatYRef1YRef2YRef3
import Derived.Test.YtjmjkcgldencoaaGreatSMapR
namespace Go.Proofs.YtjmjkcgldencoaaGreat
open Go.RowKit Go.Maps

section
attribute [-go_sem] loadVar
set_option maxRecDepth 100000 in
set_option maxHeartbeats 2000000 in
theorem mapS_any (oa : Option Addr) (N ca : Nat) (x y z u : Lst) (vb : Value) (n : Int) (tk : List Req) (hN : tk.length = N) (hle : N ≤ ca) (hN2 : N ≤ 1000) (hn : -9223372036854775808 ≤ n ∧ n ≤ 9223372036854775807) (hz : SzQ tk) (w : World) (hP : RowG reqK w oa tk) :
    Calls Tryz.prog 15 #[.agg (cellsS (.slice oa N ca) x y z u vb), .int .i64 n] w (RM (prsQ (tk.take (nearN n N))) w) := by
  have HF1 : Hid (∀ W, Calls Tryz.prog 31 #[.agg (cellsS (.slice oa N ca) x y z u vb), .int .i64 n] W fun e w' => e = .returned (.slice oa (nearN n N) ca) ∧ Below W.heap.size W w') := Lib.hid fun W => first_any oa N ca x y z u vb n hle (by omega) hn W
  have hk := nearN_le n N
  obtain ⟨m, hm⟩ : ∃ m, nearN n N = m := ⟨_, rfl⟩
  rw [hm] at hk HF1 ⊢
  have HRM : Hid (∀ e w', RM (prsQ (tk.take m)) w e w' = ∃ b, e = .returned (.map (some b)) ∧ w.heap.size ≤ b ∧ MapAt w' b (prsQ (tk.take m)) ∧ Below w.heap.size w w') := Lib.hid fun _ _ => rfl
  have HLM : Hid ((fun k => prsQ (tk.take k)) m = prsQ (tk.take m)) := Lib.hid rfl
  have HF0 := Lib.hid (show prsQ (tk.take 0) = [] from rfl)
  have HFL := Lib.hid (show ∀ k, k ≤ m → (prsQ (tk.take k)).length ≤ k from fun k hk => by have := prsQ_len (tk.take k); rw [List.length_take] at this; omega)
  have HFS : Hid (∀ k, k < m → ∃ r : Req, (r.k.size ≤ 100 ∧ r.v.size ≤ 150) ∧ prsQ (tk.take (k + 1)) = prsQ (tk.take k) ++ (if r.k.toList.isEmpty then [] else [(r.k, r.v)]) ∧ ∃ g o, oa = some ⟨g, o, none⟩ ∧ ∀ W, Below w.heap.size w W → (loadVar 24 ⟨g, o + k * 5, none⟩).run Tryz.prog W = .ok (.agg #[.int .i64 r.c, .int .i64 r.q, .string r.l, .string r.k, .string r.v]) W) := Lib.hid fun k hk => by
    obtain ⟨g, o, h1, h2, _⟩ := req_at hP (i := k) (by omega)
    refine ⟨tk[k]'(by omega), (hz.get (by omega)).2, prsQ_take tk k (by omega), g, o, h1, fun W hW => ?_⟩
    have := hP.below hW
    rw [h1] at this
    exact RowG.load reqOk this (List.getElem?_eq_getElem (by omega))
  have hmm := @run_makeMap Tryz.prog
  obtain ⟨w0, hw0⟩ : ∃ w0, w.alloc (.cells (cellsS (.slice oa N ca) x y z u vb) 37) = w0 := ⟨_, rfl⟩
  have hb0 : Below w.heap.size w w0 := by rw [← hw0]; exact (Below.refl _ w).alloc (Nat.le_refl _) _
  have k0 : Blk w0 w.heap.size 37 (cellsS (.slice oa N ca) x y z u vb) := by rw [← hw0]; exact Blk.new _ _ _
  obtain ⟨w1, hw1⟩ : ∃ w1, w0.alloc (.map #[] 0) = w1 := ⟨_, rfl⟩
  have hb01 : Below w0.heap.size w0 w1 := by rw [← hw1]; exact (Below.refl _ w0).alloc (Nat.le_refl _) _
  have hm0 : MapAt w1 w0.heap.size [] := by rw [← hw1]; exact World.ownsMap_made w0 _ _ _
  have hb1 := hb0.trans (hb01.mono hb0.size)
  have l0 := st_load (cellsS_size _ _ _ _ _ _) (k0.below hb01 k0.lt)
  have hs0 : w.heap.size < w0.heap.size := k0.lt
  have HW0 := Lib.hid hw0
  have HW1 := Lib.hid hw1
  generalize RM (prsQ (tk.take m)) w = PO at *
  generalize prsQ (tk.take m) = L at *
  generalize hF : (fun k => prsQ (tk.take k)) = F at *
  have hF' : ∀ k, prsQ (tk.take k) = F k := fun k => by rw [← hF]
  simp only [hF'] at HF0 HFS HFL
  clear hF hF' hz hP hN hw0 hm hw1 k0 hb01
  obtain ⟨gm, hgm⟩ : ∃ gm, w0.heap.size = gm := ⟨_, rfl⟩
  have HGM := Lib.hid hgm
  rw [hgm] at hm0 hs0
  clear hgm
  go_enter Tryz.func15, Tryz.ntmps15
  go_wp2_with (first | rw [HW0.out] | rw [HW1.out, HGM.out])
  refine (HF1.out w1).mono ?_
  rintro e w2 ⟨rfl, hb2⟩
  have hm2 := hm0.below hb2
  have hb02 := hb1.trans (hb2.mono hb1.size)
  clear hm0 hb1 hb2 l0 hmm
  go_wp2_with fail
  go_loopw [13] (fun i wr => ∃ k : Nat, k ≤ m ∧ i = .int .i64 k ∧ MapAt wr gm (F k) ∧ Below w.heap.size w wr) (fun i _ => m - (intOf i).toNat)
  case atStart => exact ⟨0, by omega, rfl, by rw [HF0.out]; exact hm2, hb02⟩
  case round =>
    clear hm2 hb02
    obtain ⟨k, hkm, rfl, hmap, hB⟩ := hrel
    by_cases hlt : k < m
    · have hlt' : (k : Int) < (m : Int) := by omega
      obtain ⟨r, hr, hfs, g, o, rfl, hld⟩ := HFS.out k hlt
      have d0 := hld wr hB
      have HFK := Lib.hid hfs
      have hfl := HFL.out k hkm
      obtain ⟨rc, rq, rl, rk, rv⟩ := r
      dsimp only at d0 hr HFK
      obtain ⟨w3, hw3⟩ : ∃ w3, wr.alloc (.cells #[.int .i64 rc, .int .i64 rq, .string rl, .string rk, .string rv] 24) = w3 := ⟨_, rfl⟩
      have hb3 : Below wr.heap.size wr w3 := by rw [← hw3]; exact (Below.refl _ wr).alloc (Nat.le_refl _) _
      have k9 : Blk w3 wr.heap.size 24 #[.int .i64 rc, .int .i64 rq, .string rl, .string rk, .string rv] := by rw [← hw3]; exact Blk.new _ _ _
      have d3 := txt_load (k9.cell 3)
      have d4 := txt_load (k9.cell 4)
      change (loadVar 9 ⟨wr.heap.size, 3, none⟩).run Tryz.prog w3 = .ok (.string rk) w3 at d3
      change (loadVar 9 ⟨wr.heap.size, 4, none⟩).run Tryz.prog w3 = .ok (.string rv) w3 at d4
      have hm3 := hmap.below hb3
      have hB3 := hB.trans (hb3.mono hB.size)
      have HW3 := Lib.hid hw3
      clear hfs hld hw3 hb3 k9 hmap hB
      cases he : rk.toList.isEmpty with
      | true =>
        rw [if_pos he, List.append_nil] at HFK
        go_wp2_with (rw [HW3.out])
        go_roundw
        case rel => exact ⟨k + 1, by omega, by go_num, by rw [HFK.out]; exact hm3, hB3⟩
        case measure => simp [intOf]; omega
      | false =>
        rw [if_neg (by rw [he]; decide)] at HFK
        obtain ⟨w4, hrun, hown4, hg4⟩ := World.ownsMap.update hm3 keyed Tryz.underlying55 (by unfold maxLen; omega) (Go.WideMaps.keyOf_string_mk Tryz.underlying9 (s := rk) (by unfold maxLen; omega)) (plainElem_string (H := Unit) Tryz.underlying9 (s := rv) (by unfold maxLen; omega))
        have hB4 : Below w.heap.size w w4 := hB3.grown hg4 hB3.size (fun i hi => by injection hi; omega)
        have HM4 : Hid (MapAt w4 gm (F (k + 1))) := Lib.hid (by
          unfold MapAt
          rw [HFK.out, madeL_snoc, List.length_append]
          exact hown4)
        clear hown4 hg4
        go_wp2_with (rw [HW3.out])
        go_roundw
        case rel => exact ⟨k + 1, by omega, by go_num, HM4.out, hB4⟩
        case measure => simp [intOf]; omega
    · obtain rfl : k = m := by omega
      have hlt' : ¬ (k : Int) < (k : Int) := by omega
      go_wp2
      rw [HRM.out]
      exact ⟨gm, rfl, by omega, by rw [← HLM.out]; exact hmap, hB⟩
end
end Go.Proofs.YtjmjkcgldencoaaGreat
