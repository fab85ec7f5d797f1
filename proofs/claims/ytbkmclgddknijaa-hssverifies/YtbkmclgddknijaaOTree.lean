/-
  Leaves, nodes that go together, paths that are climbed: the program's.
-/
import Derived.Test.YtbkmclgddknijaaOChain
import Derived.Test.YtbkmclgddknijaaODig
import Derived.Test.YtbkmclgddknijaaOJoin
import Derived.Deep.AppendLies
import Derived.Deep.Onto
namespace Go.Proofs.Ytbkmclgddknijaa
open Go.RowKit

section
attribute [-go_sem] loadVar
set_option maxRecDepth 100000 in
set_option maxHeartbeats 1000000 in
theorem join_any (l r : ByteArray) (hl : l.size ≤ 1073741824) (hr : r.size ≤ 1073741824) (w : World) :
    Calls Try.prog 43 #[.agg tabV, .string l, .string r] w fun e w' => e = .returned (.string (joinB l r)) ∧ Below w.heap.size w w' := by
  have z0 : (⟨#[116]⟩ : ByteArray).size = 1 := rfl
  have a1 : ¬ (⟨#[116]⟩ : ByteArray).size + l.size > 9223372036854775807 := by omega
  have a2 : ¬ ((⟨#[116]⟩ : ByteArray) ++ l).size + r.size > 9223372036854775807 := by simp only [ByteArray.size_append]; omega
  have HS := Lib.hid (fun W => hsum_any (⟨#[116]⟩ ++ l ++ r) (by simp only [ByteArray.size_append]; omega) W)
  change Hid (∀ W, Calls Try.prog 45 _ W fun e w' => e = .returned (.string (joinB l r)) ∧ Below W.heap.size W w') at HS
  generalize joinB l r = R at *
  have hB0 := (Below.refl _ w).alloc (Nat.le_refl _) (.cells tabV 27)
  have hT := tab_run (Blk.new w 27 tabV)
  clear z0
  go_enter Try.func43, Try.ntmps43
  go_wp2_with fail
  refine (HS.out _).mono ?_
  rintro e w' ⟨rfl, hB⟩
  have hB2 := hB0.trans (hB.mono hB0.size)
  go_wp2
  go_ret
  exact ⟨rfl, hB2⟩

set_option maxRecDepth 100000 in
set_option maxHeartbeats 2000000 in
theorem leaf_any (q g n cap : Nat) (vs : List ByteArray) (hn : vs.length = n) (hn2 : 2 ≤ n) (hn3 : n ≤ 1048576) (hcap : n ≤ cap) (hv : (catB vs).size ≤ 1073741824) (hpos : 0 < (catB vs).size) (w : World) (hc : Row w g 0 vs) :
    Calls Try.prog 40 #[.agg tabV, .int .i64 q, .slice (some ⟨g, 0, none⟩) n cap] w fun e w' => e = .returned (.string (leafB q vs)) ∧ Below w.heap.size w w' := by
  have HQ := Lib.hid (fun W => number_any q W)
  have HJ := Lib.hid (fun W hW => sjoin_any g n cap vs hn hn2 (by omega) hcap (by omega) hpos W hW)
  have HL := Lib.hid (show leafB q vs = hB (⟨#[112]⟩ ++ num4 q ++ catB vs) from rfl)
  have z1 := num4_size q
  generalize num4 (q : Int) = N1 at *; generalize catB vs = N2 at *
  have z0 : (⟨#[112]⟩ : ByteArray).size = 1 := rfl
  have r1 := addRun (a := ⟨#[112]⟩) (b := N1) (by omega)
  have r2 := addRun (a := ⟨#[112]⟩ ++ N1) (b := N2) (by simp only [ByteArray.size_append]; omega)
  have HS := Lib.hid (fun W => hsum_any (⟨#[112]⟩ ++ N1 ++ N2) (by simp only [ByteArray.size_append]; omega) W)
  rw [← HL.out] at HS
  generalize leafB q vs = R at *
  have hB0 := (Below.refl _ w).alloc (Nat.le_refl _) (.cells tabV 27)
  have hT : Blk (w.alloc (.cells tabV 27)) w.heap.size 27 tabV := Blk.new _ _ _
  have hc0 := hc.below hB0 hc.1
  clear z0 z1 hv hpos hn hn2 hn3 hcap HL hc
  go_enter Try.func40, Try.ntmps40
  go_wp2
  generalize w.alloc (.cells tabV 27) = w0 at *
  obtain ⟨B, hBB⟩ : ∃ B, w.heap.size = B := ⟨_, rfl⟩
  rw [hBB] at hB0 hT ⊢
  have HBB := Lib.hid hBB
  clear hBB
  have HC := Lib.hid hc0
  have HKP : Hid (∀ W, Below w0.heap.size w0 W → (loadVar 27 ⟨B, 0, none⟩).run Try.prog W = .ok (.agg tabV) W ∧ Below w0.heap.size w0 W) := Lib.hid fun W hW => ⟨tab_run (hT.below hW hT.lt), hW⟩
  clear hT hc0
  go_region_held3 (fun w' => (loadVar 27 ⟨B, 0, none⟩).run Try.prog w' = .ok (.agg tabV) w' ∧ Below w0.heap.size w0 w')
    ((refine HKP.out _ ?_; first | exact hB3' | exact hB2' | exact hB1' | exact (Below.refl _ _).drew | exact Below.refl _ _))
    (first
      | (have := hB2'; go_at_call 45; refine (HS.out _).mono ?_; rintro e w3 ⟨rfl, hb3⟩; have hB3' : Below w0.heap.size w0 w3 := hB2'.trans (hb3.mono hB2'.size))
      | (have := hB1'; go_at_call 47; refine (HJ.out _ (HC.out.below hB1' HC.out.1)).mono ?_; rintro e w2 ⟨rfl, hb2⟩; have hB2' : Below w0.heap.size w0 w2 := hB1'.trans (hb2.mono hB1'.size))
      | (go_at_call 22; refine (HQ.out _).mono ?_; rintro e w1 ⟨rfl, hb1⟩; have hB1' : Below w0.heap.size w0 w1 := (Below.refl _ _).drew.trans hb1))
  have hB6 := hB0.trans (hB3'.mono (by have := hB0.size; have := HBB.out; omega))
  rw [← HBB.out] at hB6
  go_wp2
  go_ret
  exact ⟨rfl, hB6⟩

theorem togB_take (ns : List ByteArray) (k : Nat) : fstN (fun i => joinB (ns.getD (2 * i) ByteArray.empty) (ns.getD (2 * i + 1) ByteArray.empty)) (k + 1) = fstN (fun i => joinB (ns.getD (2 * i) ByteArray.empty) (ns.getD (2 * i + 1) ByteArray.empty)) k ++ [joinB (ns.getD (2 * k) ByteArray.empty) (ns.getD (2 * k + 1) ByteArray.empty)] := fstN_succ _ _

set_option maxRecDepth 100000 in
set_option maxHeartbeats 2000000 in
theorem together_any (g n cap : Nat) (ns : List ByteArray) (hn : ns.length = n) (hn2 : n ≤ 1048576) (hsz : ∀ i, (ns.getD i ByteArray.empty).size ≤ 1073741824) (w : World) (hc : Row w g 0 ns) :
    Calls Try.prog 26 #[.agg tabV, .slice (some ⟨g, 0, none⟩) n cap] w (RT (togB ns) w) := by
  have HRT := Lib.hid (show ∀ e w', RT (togB ns) w e w' = ∃ v, e = .returned v ∧ Own w' w.heap.size v (togB ns) ∧ Below w.heap.size w w' from fun _ _ => rfl)
  have HTG := Lib.hid (show togB ns = fstN (fun i => joinB (ns.getD (2 * i) ByteArray.empty) (ns.getD (2 * i + 1) ByteArray.empty)) (n / 2) by unfold togB; rw [hn])
  have HTK := Lib.hid (togB_take ns)
  have HTL := Lib.hid (show ∀ k, (fstN (fun i => joinB (ns.getD (2 * i) ByteArray.empty) (ns.getD (2 * i + 1) ByteArray.empty)) k).length = k from fun k => fstN_length _ k)
  have HT0 := Lib.hid (show fstN (fun i => joinB (ns.getD (2 * i) ByteArray.empty) (ns.getD (2 * i + 1) ByteArray.empty)) 0 = [] from rfl)
  have HSZ := Lib.hid hsz
  have HN := Lib.hid hn
  generalize RT (togB ns) w = PO at *
  generalize togB ns = TT at *
  generalize fstN (fun i => joinB (ns.getD (2 * i) ByteArray.empty) (ns.getD (2 * i + 1) ByteArray.empty)) = F at *
  have hB0 := (Below.refl _ w).alloc (Nat.le_refl _) (.cells tabV 27)
  have hT : Blk (w.alloc (.cells tabV 27)) w.heap.size 27 tabV := Blk.new _ _ _
  have hgw := hc.1
  have HC := Lib.hid hc
  clear hsz hn hc
  go_enter Try.func26, Try.ntmps26
  go_wp2
  generalize w.alloc (.cells tabV 27) = w0 at *
  obtain ⟨B, hBB⟩ : ∃ B, w.heap.size = B := ⟨_, rfl⟩
  rw [hBB] at hB0 hT hgw ⊢
  have HBB := Lib.hid hBB
  clear hBB
  go_loopw [5, 6] (fun v i wr => ∃ k : Nat, 2 * k ≤ n ∧ i = .int .i64 (2 * k : Nat) ∧ Own wr (B + 1) v (F k) ∧ Blk wr B 27 tabV ∧ Below B w wr) (fun _ i _ => n - (intOf i).toNat)
  case atStart => exact ⟨0, by omega, rfl, by rw [HT0.out]; exact own_nil _ _, hT, hB0⟩
  case round =>
    clear hT hB0
    obtain ⟨k, hk, rfl, hown, hT, hB⟩ := hrel
    obtain ⟨j, hj⟩ : ∃ j, 2 * k = j := ⟨_, rfl⟩
    rw [hj]
    by_cases hlt : j + 1 < n
    · have hlt' : (j : Int) + 1 < (n : Int) := by omega
      have hlt1 : (j : Int) < (n : Int) := by omega
      have hlt0 : (0 : Int) ≤ (j : Int) := by omega
      have hlt2 : (0 : Int) ≤ (j : Int) + 1 := by omega
      have hlen : (F k).length ≤ 1073741824 := by rw [HTL.out]; omega
      have hl1 : j < ns.length := by have := HN.out; omega
      have hl2 : j + 1 < ns.length := by have := HN.out; omega
      have HJ := Lib.hid (fun W => join_any (ns.getD j ByteArray.empty) (ns.getD (j + 1) ByteArray.empty) (HSZ.out j) (HSZ.out (j + 1)) W)
      have HF := Lib.hid (HTK.out k)
      have HFL := Lib.hid (HTL.out k)
      rw [hj] at HF
      have hRow : Row wr g 0 ns := HC.out.below hB hgw
      have hnb : some B ≠ u5.ownBlock := fun h => by have := (World.ownsRow.lt hown B h.symm).1; omega
      have hng : some g ≠ u5.ownBlock := fun h => by have := (World.ownsRow.lt hown g h.symm).1; omega
      have HKP : Hid (∀ W, wr.grownBy W u5.ownBlock → ((loadVar 27 ⟨B, 0, none⟩).run Try.prog W = .ok (.agg tabV) W ∧ (loadVar 9 ⟨g, j, none⟩).run Try.prog W = .ok (.string (ns.getD j ByteArray.empty)) W ∧ (loadVar 9 ⟨g, j + 1, none⟩).run Try.prog W = .ok (.string (ns.getD (j + 1) ByteArray.empty)) W) ∧ wr.grownBy W u5.ownBlock) :=
        Lib.hid fun W hW => ⟨⟨tab_run (hT.grown hW hnb), txt_load (by have := (hRow.grown hW hng).2 j hl1; rw [Nat.zero_add] at this; exact this), txt_load (by have := (hRow.grown hW hng).2 (j + 1) hl2; rw [Nat.zero_add] at this; exact this)⟩, hW⟩
      generalize ns.getD j ByteArray.empty = x at *
      generalize ns.getD (j + 1) ByteArray.empty = y at *
      generalize joinB x y = R at *
      have HOW := Lib.hid hown
      have HT := Lib.hid hT
      have HNB := Lib.hid hnb
      have hBs := hB.size
      clear hRow hnb hng hl1 hl2 hT
      go_wp2
      obtain ⟨j1, hj1⟩ : ∃ j1, j + 1 = j1 := ⟨_, rfl⟩
      rw [hj1] at HKP
      have hwr : IntKind.i64.wrap ((j : Int) + 1) = (j1 : Int) := by rw [IntKind.wrap_i64]; omega
      have hj10 : (0 : Int) ≤ (j1 : Int) := by omega
      have hj1n : (j1 : Int) < (n : Int) := by omega
      clear hj1
      go_region_held3 (fun w' => ((loadVar 27 ⟨B, 0, none⟩).run Try.prog w' = .ok (.agg tabV) w' ∧ (loadVar 9 ⟨g, j, none⟩).run Try.prog w' = .ok (.string x) w' ∧ (loadVar 9 ⟨g, j1, none⟩).run Try.prog w' = .ok (.string y) w') ∧ wr.grownBy w' u5.ownBlock)
        ((refine HKP.out _ ?_; first | exact hG2 | exact grown_alloc hG1 _ | exact hG1 | exact only_drew (grown_refl _ _) | exact grown_refl _ _))
        (first
          | (go_at_call 43; refine (HJ.out _).mono ?_; rintro e w1 ⟨rfl, hb1⟩; have hG1 : wr.grownBy w1 u5.ownBlock := only_of_below ((Below.refl _ _).drew.trans hb1) _)
          | (have := hG1; (refine step_append_txt (by rfl) _ _ (by rfl) (B + 1) u5 (F k) (by rfl) (HOW.out.below ((Below.refl _ _).drew.trans hb1)) R (by rfl) hlen (Nat.le_trans HT.out.lt hG1.size) ?_; intro g2 cap2 w2 hown2 hgr2; have hG2 : wr.grownBy w2 u5.ownBlock := grown_trans hG1 hgr2)))
      rw [HFL.out, ← HF.out] at hown2
      have hT2 := HT.out.grown hG2 HNB.out
      have hB2 := hB.grown hG2 (by have := HBB.out; omega) (fun q hq => by have := (World.ownsRow.lt HOW.out q hq).1; omega)
      clear hown hB hG1 hG2 hb1 hgr2 HKP HJ HOW HT HNB hwr
      rename_i hHeld
      clear hHeld
      rw [HFL.out]
      go_wp2
      go_roundw
      case rel => exact ⟨k + 1, by omega, by go_num, hown2, hT2, hB2⟩
      case measure => simp [intOf]; omega
    · have hlt' : ¬ (j : Int) + 1 < (n : Int) := by omega
      obtain rfl : k = n / 2 := by omega
      rw [← HTG.out] at hown
      clear hlt hk
      go_wp2
      rw [HRT.out]
      exact ⟨_, rfl, by rw [HBB.out]; exact hown.mono (Nat.le_succ _), by rw [HBB.out]; exact hB⟩

theorem firstB_size (seed : ByteArray) (q i : Nat) : (firstB seed q i).size = 32 := hB_size _
set_option maxRecDepth 100000 in
set_option maxHeartbeats 4000000 in
theorem leaves_any (seed : ByteArray) (hs : seed.size ≤ 1073741824) (w : World) :
    Calls Try.prog 25 #[.agg tabV, .string seed] w (RT (levelB seed 0 8) w) := by
  have HRT := Lib.hid (show ∀ e w', RT (levelB seed 0 8) w e w' = ∃ v, e = .returned v ∧ Own w' w.heap.size v (levelB seed 0 8) ∧ Below w.heap.size w w' from fun _ _ => rfl)
  have HL0 := Lib.hid (show levelB seed 0 0 = [] from rfl)
  have HLS := Lib.hid (show ∀ k, levelB seed 0 (k + 1) = levelB seed 0 k ++ [leafB k (fstN (fun i => valB seed k i 15) 67)] from fun k => fstN_succ _ k)
  have HLL := Lib.hid (show ∀ k, (levelB seed 0 k).length = k from fun k => fstN_length _ k)
  have HS := Lib.hid hs
  generalize RT (levelB seed 0 8) w = PO at *
  generalize levelB seed 0 = F at *
  have hB0 := (Below.refl _ w).alloc (Nat.le_refl _) (.cells tabV 27)
  have hT : Blk (w.alloc (.cells tabV 27)) w.heap.size 27 tabV := Blk.new _ _ _
  clear hs
  go_enter Try.func25, Try.ntmps25
  go_wp2
  generalize w.alloc (.cells tabV 27) = w0 at *
  obtain ⟨B, hBB⟩ : ∃ B, w.heap.size = B := ⟨_, rfl⟩
  rw [hBB] at hB0 hT ⊢
  have HBB := Lib.hid hBB
  clear hBB
  go_loopw [5, 9] (fun v i wr => ∃ k : Nat, k ≤ 8 ∧ i = .int .i64 k ∧ Own wr (B + 1) v (F k) ∧ Blk wr B 27 tabV ∧ Below B w wr) (fun _ i _ => 8 - (intOf i).toNat)
  case atStart => exact ⟨0, by omega, rfl, by rw [HL0.out]; exact own_nil _ _, hT, hB0⟩
  case round =>
    clear hT hB0
    obtain ⟨q, hq, rfl, hown, hT, hB⟩ := hrel
    by_cases hlt : q < 8
    · have hlt' : (q : Int) < 8 := by omega
      have HFS := Lib.hid (HLS.out q)
      have HFL := Lib.hid (HLL.out q)
      have HV0 := Lib.hid (show fstN (fun i => valB seed q i 15) 0 = [] from rfl)
      have HVS := Lib.hid (show ∀ k, fstN (fun i => valB seed q i 15) (k + 1) = fstN (fun i => valB seed q i 15) k ++ [walkB q k 0 (firstB seed q k) 15] from fun k => fstN_succ _ k)
      have HVL := Lib.hid (show ∀ k, (fstN (fun i => valB seed q i 15) k).length = k from fun k => fstN_length _ k)
      have HVZ := Lib.hid (show (catB (fstN (fun i => valB seed q i 15) 67)).size = 2144 from fstN_size (fun i => valB_size _ _ _ _) 67)
      generalize fstN (fun i => valB seed q i 15) = V at *
      have hlt5 : u5.ownBlock = none ∨ ∃ gg, u5.ownBlock = some gg ∧ gg < wr.heap.size ∧ B + 1 ≤ gg := by
        cases e : u5.ownBlock with
        | none => exact .inl rfl
        | some gg => exact .inr ⟨gg, rfl, (World.ownsRow.lt hown gg e).2, (World.ownsRow.lt hown gg e).1⟩
      obtain ⟨wo, hwo⟩ : ∃ wo : World, wo = wr := ⟨_, rfl⟩
      have hBo := hB
      have HBw := Lib.hid (show B < wr.heap.size from hT.lt)
      rw [← hwo] at HBw hlt5
      have hown' := hown
      have HWO := Lib.hid hwo
      have H5 := Lib.hid hlt5
      clear hown hwo hlt5 hBo
      go_wp2
      go_loopw [7, 12] (fun v i wr => ∃ k : Nat, k ≤ 67 ∧ i = .int .i64 k ∧ Own wr wo.heap.size v (V k) ∧ Own wr (B + 1) u5 (F q) ∧ Blk wr B 27 tabV ∧ Below B w wr ∧ wo.heap.size ≤ wr.heap.size) (fun _ i _ => 67 - (intOf i).toNat)
      case atStart => exact ⟨0, by omega, rfl, by rw [HV0.out]; exact own_nil _ _, hown', hT, hB, by rw [HWO.out]; exact Nat.le_refl _⟩
      case round =>
        clear hown' hT hB
        obtain ⟨k, hk, rfl, hv, ho, hT, hB, hwr⟩ := hrel
        by_cases hltk : k < 67
        · have hltk' : (k : Int) < 67 := by omega
          have HF1 := Lib.hid (fun W => first_any seed HS.out q k W)
          have HW1 := Lib.hid (fun W => walk_any q k 0 15 15 (firstB seed q k) (by rw [firstB_size]; decide) rfl (by decide) W)
          have HVK := Lib.hid (HVS.out k)
          have HVLK := Lib.hid (HVL.out k)
          have hlen : (V k).length ≤ 1073741824 := by rw [HVL.out]; omega
          generalize walkB q k 0 (firstB seed q k) 15 = R at *
          generalize firstB seed q k = X at *
          have hnb : some B ≠ u7.ownBlock := fun h => by have := (World.ownsRow.lt hv B h.symm).1; have := HBw.out; omega
          have hn5 : u5.ownBlock = none ∨ u5.ownBlock ≠ u7.ownBlock := by
            rcases H5.out with h | ⟨gg, h1, h2, h3⟩
            · exact .inl h
            · refine .inr fun h => ?_
              have := (World.ownsRow.lt hv gg (h ▸ h1)).1
              omega
          have HKP : Hid (∀ W, wr.grownBy W u7.ownBlock → (loadVar 27 ⟨B, 0, none⟩).run Try.prog W = .ok (.agg tabV) W ∧ wr.grownBy W u7.ownBlock) :=
            Lib.hid fun W hW => ⟨tab_run (hT.grown hW hnb), hW⟩
          have HOW := Lib.hid hv
          have HO := Lib.hid ho
          have HT := Lib.hid hT
          have HNB := Lib.hid hnb
          have HN5 := Lib.hid hn5
          have hBs := hB.size
          clear hnb hn5 hT ho
          go_wp2
          go_region_held3 (fun w' => (loadVar 27 ⟨B, 0, none⟩).run Try.prog w' = .ok (.agg tabV) w' ∧ wr.grownBy w' u7.ownBlock)
            ((refine HKP.out _ ?_; first | exact hG3 | exact grown_alloc hG2 _ | exact hG2 | exact hG1 | exact only_drew (grown_refl _ _) | exact grown_refl _ _))
            (first
              | (have := hb1; go_at_call 33; refine (HW1.out _).mono ?_; rintro e w2 ⟨rfl, hb2⟩; have hb2' := hb1.trans (hb2.mono hb1.size); have hG2 : wr.grownBy w2 u7.ownBlock := only_of_below hb2' _)
              | (go_at_call 34; refine (HF1.out _).mono ?_; rintro e w1 ⟨rfl, hb0⟩; have hb1 : Below wr.heap.size wr w1 := (Below.refl _ _).drew.trans hb0; have hG1 : wr.grownBy w1 u7.ownBlock := only_of_below hb1 _)
              | (have := hG2; (refine step_append_txt (by rfl) _ _ (by rfl) wo.heap.size u7 (V k) (by rfl) (HOW.out.below hb2') R (by rfl) hlen (Nat.le_trans hwr hG2.size) ?_; intro g2 cap2 w3 hown2 hgr2; have hG3 : wr.grownBy w3 u7.ownBlock := grown_trans hG2 hgr2)))
          rw [HVLK.out, ← HVK.out] at hown2
          have hT2 := HT.out.grown hG3 HNB.out
          have ho2 : Own w3 (B + 1) u5 (F q) := World.ownsRow.kept HO.out hG3 HN5.out
          have hB2 := hB.grown hG3 (by have := HBB.out; omega) (fun z hz => by have := (World.ownsRow.lt HOW.out z hz).1; have := HBw.out; omega)
          have hwr3 := Nat.le_trans hwr hG3.size
          clear hv hB hG1 hG2 hG3 hb0 hb1 hb2 hb2' hgr2 HKP HF1 HW1 HOW HT HNB HN5 HO hwr
          rename_i hHeld
          clear hHeld
          rw [HVLK.out]
          go_wp2
          go_roundw
          case rel => exact ⟨k + 1, by omega, by go_num, hown2, ho2, hT2, hB2, hwr3⟩
          case measure => simp [intOf]; omega
        · obtain rfl : k = 67 := by omega
          clear hltk hk
          obtain ⟨gv, cv, rfl, hgv, hcv, hRow⟩ := hv.row (by rw [HVL.out]; decide)
          rw [HVL.out] at hcv ⊢
          have HLF := Lib.hid (fun W hW => leaf_any q gv 67 cv (V 67) (HVL.out 67) (by decide) (by decide) hcv (by rw [HVZ.out]; decide) (by rw [HVZ.out]; decide) W hW)
          rw [show ((67 : Nat) : Int) = 67 from rfl]
          have hlen : (F q).length ≤ 1073741824 := by rw [HLL.out]; omega
          have hT1 := tab_run hT
          generalize leafB q (V 67) = R at *
          go_wp2_with fail
          refine (HLF.out _ hRow).mono ?_
          rintro e w4 ⟨rfl, hb4⟩
          have ho4 := ho.below hb4
          have hT4 := hT.below hb4 hT.lt
          have hB4 := hB.trans (hb4.mono (by have := hB.size; have := HBB.out; omega))
          clear ho hT hB hv hRow hT1 hgv hcv HLF
          go_wp2_with (at_builtin; refine wpList_append_txt rfl _ _ rfl (B + 1) u5 (F q) rfl ho4 R rfl hlen hT4.lt ?_)
          intro g5 c5 w5 hown5 hg5
          rw [HFL.out, ← HFS.out] at hown5
          have hT5 := hT4.grown hg5 (fun h => by have := (World.ownsRow.lt ho4 B h.symm).1; omega)
          have hB5 := hB4.grown hg5 (by have := hB4.size; have := HBB.out; omega) (fun z hz => by have := (World.ownsRow.lt ho4 z hz).1; omega)
          clear ho4 hT4 hB4 hg5
          rw [HFL.out]
          go_wp2
          go_roundw
          case rel => exact ⟨q + 1, by omega, by go_num, hown5, hT5, hB5⟩
          case measure => simp [intOf]; omega
    · obtain rfl : q = 8 := by omega
      clear hlt hq
      go_wp2
      rw [HRT.out]
      exact ⟨_, rfl, by rw [HBB.out]; exact hown.mono (Nat.le_succ _), by rw [HBB.out]; exact hB⟩
end
end Go.Proofs.Ytbkmclgddknijaa
