/-
 Bytes that are cut: cut, number, cutList.
-/
import Derived.Test.YtnbboabaihddbaaGreatECutM
import Derived.Test.YtnbboabaihddbaaGreatWBldWStrsWListWBeWCut
import Derived.BigQuiet
namespace Go.Proofs.YtnbboabaihddbaaGreat
open Go.RowKit

set_option maxRecDepth 100000 in
set_option maxHeartbeats 1000000 in
theorem ecut_any (n : Nat) (b : ByteArray) (_ : n ≤ 4611686018427387904) (_ : b.size ≤ 4611686018427387904) (w : World) :
 Calls Tryz.prog 58 #[.string b, .int .i64 n] w fun e w' => e = .returned (.tuple #[.string (frE n b), .string (rsE n b)]) ∧ Below w.heap.size w w' := by
 by_cases h : n ≤ b.size
 · have e1 : frE n b = b.extract 0 n := by unfold frE; rw [Nat.min_eq_left h]
   have e2 : rsE n b = b.extract n b.size := by unfold rsE; rw [Nat.min_eq_left h]
   rw [e1, e2]
   clear e1 e2
   have hm : min (n : Int) (b.size : Int) = (n : Int) := by omega
   go_enter Tryz.func58, Tryz.ntmps58
   go_wp2
   go_quiet (fail)
   go_wp2
   go_ret2
   exact ⟨rfl, below_drewN (Below.refl _ _) _⟩
 · have e1 : frE n b = b := by unfold frE; rw [Nat.min_eq_right (by omega)]; apply ByteArray.ext; simp
   have e2 : rsE n b = ByteArray.empty := by unfold rsE; rw [Nat.min_eq_right (by omega)]; apply ByteArray.ext; simp
   rw [e1, e2]
   clear e1 e2
   have hm : min (n : Int) (b.size : Int) = (b.size : Int) := by omega
   go_enter Tryz.func58, Tryz.ntmps58
   go_wp2
   go_quiet (fail)
   go_wp2
   go_ret2
   exact ⟨rfl, below_drewN (Below.refl _ _) _⟩
/-- a number of bytes: any number; of at most four just theirs -/
def NumE (b : ByteArray) (w : World) (e : Ending) (w' : World) : Prop := ∃ v : Int, e = .returned (.int .i64 v) ∧ (-9223372036854775808 ≤ v ∧ v ≤ 9223372036854775807) ∧ (b.size ≤ 4 → v = numV b) ∧ Below w.heap.size w w'
set_option maxRecDepth 100000 in
set_option maxHeartbeats 1000000 in
theorem enumber_any (x : ByteArray) (hx : x.size ≤ 4611686018427387904) (w : World) :
 Calls Tryz.prog 62 #[.string x] w (NumE x w) := by
 have HNE := Lib.hid (show ∀ e w', NumE x w e w' = ∃ v : Int, e = .returned (.int .i64 v) ∧ (-9223372036854775808 ≤ v ∧ v ≤ 9223372036854775807) ∧ (x.size ≤ 4 → v = numV x) ∧ Below w.heap.size w w' from fun _ _ => rfl)
 generalize NumE x w = PO at *
 go_enter Tryz.func62, Tryz.ntmps62
 obtain ⟨w2, cap, hrun, hrow, hB2⟩ := run_bytes_brow (P := Tryz.prog) w 9 66 5 x Tryz.underlying9 Tryz.underlying66 Tryz.underlying5
 have HN := Lib.hid (nums_length x)
 have HR := Lib.hid hrow
 generalize w.heap.size = gb at *
 clear hrow
 go_wp2
 clear hrun
 go_loop [3, 9] (fun t i => ∃ k : Nat, ∃ v : Int, k ≤ x.size ∧ i = .int .i64 k ∧ t = .int .i64 v ∧ (-9223372036854775808 ≤ v ∧ v ≤ 9223372036854775807) ∧ Hid (k ≤ 4 → v = (beV ((nums x).take k) : Nat))) (fun _ i => x.size - (intOf i).toNat)
 case atStart => exact ⟨0, 0, by omega, rfl, rfl, by omega, Lib.hid fun _ => rfl⟩
 case round =>
  obtain ⟨k, v, hk, rfl, rfl, hv, HV⟩ := hrel
  by_cases hlt : k < x.size
  · have hlt' : (k : Int) < (x.size : Int) := by omega
    have hcell := HR.out.cells k (by rw [HN.out]; exact hlt)
    have HT := Lib.hid (show beV ((nums x).take (k + 1)) = beV ((nums x).take k) * 256 + (nums x).getD k 0 by
     rw [List.take_succ_eq_append_getElem (by rw [HN.out]; exact hlt), beV_snoc]
     congr 1
     rw [List.getD_eq_getElem?_getD, List.getElem?_eq_getElem (by rw [HN.out]; exact hlt)]
     rfl)
    have HB := Lib.hid (show (nums x).getD k 0 < 256 by
     rw [List.getD_eq_getElem?_getD, List.getElem?_eq_getElem (by rw [HN.out]; exact hlt)]
     exact nums_lt x _ (List.getElem_mem _))
    have HL := Lib.hid (fun h => beV_take_lt x k h)
    unfold U8 at hcell
    generalize (nums x).getD k 0 = b at *
    have HV2 : Hid (k ≤ 3 → bits .or .i64 (wrap64 (v * 256)) (wrap64 (b : Int)) = ((beV ((nums x).take (k + 1)) : Nat) : Int)) := Lib.hid fun h => by
     have hb := HB.out
     have hl := HL.out h
     rw [HT.out, HV.out (by omega)]
     generalize beV ((nums x).take k) = V at *
     rw [IntWalk.wrap64_in _ (by omega), IntWalk.wrap64_in _ (by omega)]
     exact or_low V b hl hb
    have HVB : Hid (-9223372036854775808 ≤ bits .or .i64 (wrap64 (v * 256)) (wrap64 (b : Int)) ∧ bits .or .i64 (wrap64 (v * 256)) (wrap64 (b : Int)) ≤ 9223372036854775807) := Lib.hid (by
     show -9223372036854775808 ≤ IntKind.i64.wrap _ ∧ IntKind.i64.wrap _ ≤ _
     rw [IntKind.wrap_i64]
     omega)
    go_wp2
    generalize bits .or .i64 (wrap64 (v * 256)) (wrap64 (b : Int)) = v2 at *
    go_round
    case rel => exact ⟨k + 1, v2, by omega, by go_num, rfl, HVB.out, Lib.hid fun h => HV2.out (by omega)⟩
    case measure => simp [intOf]; omega
  · have hkx : k = x.size := by omega
    have hge : ¬ (k : Int) < (x.size : Int) := by omega
    have HF := Lib.hid (show beV ((nums x).take k) = numV x by
     unfold numV
     rw [List.take_of_length_le (by rw [HN.out]; omega)])
    clear hlt
    go_wp2
    rw [HNE.out]
    exact ⟨v, rfl, hv, fun h => by rw [← HF.out]; exact HV.out (by omega), hB2⟩
set_option maxRecDepth 100000 in
set_option maxHeartbeats 1000000 in
theorem ecutList_any (b : ByteArray) (hb : b.size ≤ 1099511627776) (w : World) :
 Calls Tryz.prog 59 #[.string b] w fun e w' => e = .returned (.tuple #[.string (lfE b), .string (lcE b)]) ∧ Below w.heap.size w w' := by
 have s1 := rsE_size 1 b
 have s2 := rsE_size 4 (rsE 1 b)
 have f2 := frE_size 4 (rsE 1 b)
 have H1 := Lib.hid (fun W => ecut_any 1 b (by omega) (by omega) W)
 have H2 := Lib.hid (fun W => ecut_any 4 (rsE 1 b) (by omega) (by omega) W)
 have H3 := Lib.hid (fun W => enumber_any (frE 4 (rsE 1 b)) (by omega) W)
 have HC := Lib.hid (show lcE b = skE (numV (frE 4 (rsE 1 b))) (rsE 4 (rsE 1 b)) from rfl)
 have HF := Lib.hid (show lfE b = b.extract 0 (b.size - (lcE b).size) from rfl)
 have hS := lcE_size b
 have HNL : Hid (numV (frE 4 (rsE 1 b)) < 4294967296) := Lib.hid (by
  have := beV_lt (nums (frE 4 (rsE 1 b))) (nums_lt _)
  rw [nums_length] at this
  refine Nat.lt_of_lt_of_le this ?_
  show _ ≤ 256 ^ 4
  exact Nat.pow_le_pow_right (by decide) (by omega))
 change Hid (∀ W, Calls Tryz.prog 62 _ W fun e w' => ∃ v : Int, e = .returned (.int .i64 v) ∧ _ ∧ (_ → v = (numV (frE 4 (rsE 1 b)) : Nat)) ∧ Below W.heap.size W w') at H3
 have hsz : (rsE 4 (rsE 1 b)).size ≤ 1099511627776 := by omega
 have f2' : (frE 4 (rsE 1 b)).size ≤ 4 := by omega
 generalize lfE b = LF at *
 generalize lcE b = LC at *
 generalize numV (frE 4 (rsE 1 b)) = N at *
 generalize frE 4 (rsE 1 b) = X4 at *
 generalize rsE 4 (rsE 1 b) = s at *
 generalize rsE 1 b = x1 at *
 generalize frE 1 b = x0 at *
 clear s1 s2 f2
 go_enter Tryz.func59, Tryz.ntmps59
 go_wp2_with fail
 refine (H1.out _).mono ?_
 rintro e w1 ⟨rfl, hb1⟩
 go_wp2_with fail
 refine (H2.out _).mono ?_
 rintro e w2 ⟨rfl, hb2⟩
 have hb3 := hb1.trans (hb2.mono hb1.size)
 go_wp2_with fail
 refine (H3.out _).mono ?_
 rintro e w3 ⟨v, rfl, _, hv, hb4⟩
 obtain rfl := hv f2'
 have hb5 := hb3.trans (hb4.mono hb3.size)
 rename_i hw0
 clear hb1 hb2 hb3 hb4 H1 H2 H3 hv hw0
 go_wp2
 go_loopw [5, 3] (fun a r wr => ∃ k : Nat, k ≤ N ∧ a = .int .i64 ((N : Int) - k) ∧ r = .string (skE k s) ∧ Below w.heap.size w wr) (fun a _ _ => (intOf a).toNat)
 case atStart => exact ⟨0, by omega, by simp, rfl, hb5⟩
 case round =>
  clear hb5
  obtain ⟨k, hk, rfl, rfl, hB⟩ := hrel
  have hks := skE_size s k
  have HSN := Lib.hid (fun h => skE_none s k h)
  have HSK := Lib.hid (show skE (k + 1) s = rsE (numV (frE 4 (skE k s))) (rsE 4 (skE k s)) from rfl)
  have hN := HNL.out
  by_cases hlt : k < N
  · have hlt' : (0 : Int) < (N : Int) - k := by omega
    have f4 := frE_size 4 (skE k s)
    have r4 := rsE_size 4 (skE k s)
    have H6 := Lib.hid (fun W => ecut_any 4 (skE k s) (by omega) (by omega) W)
    have H7 := Lib.hid (fun W => enumber_any (frE 4 (skE k s)) (by omega) W)
    have HNV : Hid (numV (frE 4 (skE k s)) < 4294967296) := Lib.hid (by
     have := beV_lt (nums (frE 4 (skE k s))) (nums_lt _)
     rw [nums_length] at this
     refine Nat.lt_of_lt_of_le this ?_
     show _ ≤ 256 ^ 4
     exact Nat.pow_le_pow_right (by decide) (by omega))
    have H8 := Lib.hid (fun W => ecut_any (numV (frE 4 (skE k s))) (rsE 4 (skE k s)) (by have := HNV.out; omega) (by omega) W)
    rw [← HSK.out] at H8
    change Hid (∀ W, Calls Tryz.prog 62 _ W fun e w' => ∃ v : Int, e = .returned (.int .i64 v) ∧ _ ∧ (_ → v = (numV (frE 4 (skE k s)) : Nat)) ∧ Below W.heap.size W w') at H7
    generalize hX : skE k s = X at *
    generalize numV (frE 4 X) = L at *
    by_cases hz : X.size = 0
    · have hx0 : X = ⟨#[]⟩ := by
       apply ByteArray.ext
       exact Array.size_eq_zero_iff.1 hz
      subst hx0
      have HE : Hid (LC = ⟨#[]⟩) := Lib.hid (by
       rw [HC.out]
       have := HSN.out hz (N - k)
       rw [show k + (N - k) = N by omega] at this
       exact this)
      clear HSN hz hX HSK
      go_wp2_with fail
      go_ret2
      refine ⟨?_, hB⟩
      rw [HF.out, HE.out]
      rw [show b.extract 0 (b.size - (⟨#[]⟩ : ByteArray).size) = b by show b.extract 0 (b.size - 0) = b; rw [Nat.sub_zero]; apply ByteArray.ext; simp]
      rfl
    · have hne : X.toList.isEmpty = false := by
       rw [ByteArray.toList_eq]
       rw [List.isEmpty_eq_false_iff]
       intro h
       exact hz (by have := congrArg List.length h; simpa using this)
      clear HSN hz hX
      go_wp2_with fail
      refine (H6.out _).mono ?_
      rintro e w5 ⟨rfl, hb6⟩
      have hB6 := hB.trans (hb6.mono hB.size)
      go_wp2_with fail
      refine (H7.out _).mono ?_
      rintro e w6 ⟨v, rfl, hvb, hv, hb7⟩
      obtain rfl := hv (by omega)
      have hB7 := hB6.trans (hb7.mono hB6.size)
      clear hb6 hb7 hB6 hvb hv
      go_wp2_with fail
      refine (H8.out _).mono ?_
      rintro e w7 ⟨rfl, hb8⟩
      have hB8 := hB7.trans (hb8.mono hB7.size)
      clear hb8 hB7
      go_wp2
      go_roundw
      case rel => exact ⟨k + 1, by omega, by go_num, rfl, hB8⟩
      case measure => simp [intOf]; omega
  · obtain rfl : N = k := by omega
    rw [← HC.out] at hks ⊢
    have hlt' : ¬ (0 : Int) < (N : Int) - N := by omega
    have hq : LC.size ≤ b.size ∧ (b.size : Int) - (LC.size : Int) ≤ (b.size : Int) := by omega
    have hq0 : (0 : Int) ≤ (b.size : Int) - (LC.size : Int) := by omega
    clear HSN HSK
    go_wp2_with fail
    go_ret2
    rw [HF.out]
    exact ⟨rfl, hB⟩
end Go.Proofs.YtnbboabaihddbaaGreat
