/-
  Inclusion, Consistency: the program's, of whatever numbers. Texts appended to texts. Lists of texts as bytes: the program's List. The proofs that are asked of the leaves' tree.
-/
import Derived.Test.YtakgolbgeeoioaaGreatLoadsSProveMPath
import Derived.Test.YtakgolbgeeoioaaGreatMSubMSzWHeadWStrsWBound
import Derived.Test.YtakgolbgeeoioaaGreatTxtGRow
import Derived.Lib.AppendZerosOnto
import Derived.Test.YtakgolbgeeoioaaGreatSEnt2SMapRYMapPSvSt
namespace Go.Proofs.YtakgolbgeeoioaaGreat
open Go.RowKit

/-- what Inclusion and Consistency answer -/
def RPm (ss : List ByteArray) (w : World) (e : Ending) (w' : World) : Prop := ∃ v, e = .returned (.tuple #[v, .int .i64 0]) ∧ Own w' w.heap.size v ss ∧ Below w.heap.size w w'
section
attribute [-go_sem] loadVar
set_option maxRecDepth 100000 in
set_option maxHeartbeats 1000000 in
theorem inclusion_out (i : Int) (oa : Option Addr) (n cap : Nat) (h : i < 0 ∨ (n : Int) ≤ i) (w : World) :
    Calls Tryz.prog 56 #[.agg tabV, .slice oa n cap, .int .i64 i] w fun e w' => e = .returned (.tuple #[.slice none 0 0, .int .i64 5]) ∧ Below w.heap.size w w' := by
  have hB0 := (Below.refl _ w).alloc (Nat.le_refl _) (.cells tabV 29)
  by_cases h1 : i < 0
  · clear h
    go_enter Tryz.func56, Tryz.ntmps56
    go_wp2
    go_ret2
    exact ⟨rfl, hB0⟩
  · have h2 : (n : Int) ≤ i := by omega
    clear h
    go_enter Tryz.func56, Tryz.ntmps56
    go_wp2
    go_ret2
    exact ⟨rfl, hB0⟩
set_option maxRecDepth 100000 in
set_option maxHeartbeats 1000000 in
theorem inclusion_in (i : Nat) (oa : Option Addr) (n cap : Nat) (ss : List ByteArray) (hn : ss.length = n) (hm : n ≤ 256) (hcap : n ≤ cap) (hi : i < n) (hz : Sz ss) (w : World) (hc : Strs w oa ss) :
    Calls Tryz.prog 56 #[.agg tabV, .slice oa n cap, .int .i64 i] w (RPm (incM ss i) w) := by
  have HRT := Lib.hid (show ∀ e w', RPm (incM ss i) w e w' = ∃ v, e = .returned (.tuple #[v, .int .i64 0]) ∧ Own w' w.heap.size v (incM ss i) ∧ Below w.heap.size w w' from fun _ _ => rfl)
  generalize RPm (incM ss i) w = PO at *
  have hB0 := (Below.refl _ w).alloc (Nat.le_refl _) (.cells tabV 29)
  have hT := tab_run (Blk.new w 29 tabV)
  have HC := Lib.hid (hc.below hB0)
  have HP := Lib.hid (fun W hW => mpath_any n oa cap i ss hn (by omega) hm hcap hi hz W hW)
  generalize incM ss i = R at *
  have a1 : ¬ (i : Int) < 0 := by omega
  have a2 : ¬ (n : Int) ≤ (i : Int) := by omega
  clear hn hz hc
  go_enter Tryz.func56, Tryz.ntmps56
  go_wp2_with fail
  refine (HP.out _ HC.out).mono ?_
  rintro e w1 ⟨v, rfl, hown, hb1⟩
  have hB1 := hB0.trans (hb1.mono hB0.size)
  have hown1 := hown.mono (B' := w.heap.size) hB0.size
  clear HC hB0 hb1 hT HP hown
  go_wp2
  rw [HRT.out]
  exact ⟨_, rfl, hown1, hB1⟩
set_option maxRecDepth 100000 in
set_option maxHeartbeats 1000000 in
theorem consistency_out (m : Int) (oa : Option Addr) (n cap : Nat) (h : m < 1 ∨ (n : Int) < m) (w : World) :
    Calls Tryz.prog 59 #[.agg tabV, .slice oa n cap, .int .i64 m] w fun e w' => e = .returned (.tuple #[.slice none 0 0, .int .i64 5]) ∧ Below w.heap.size w w' := by
  have hB0 := (Below.refl _ w).alloc (Nat.le_refl _) (.cells tabV 29)
  by_cases h1 : m < 1
  · clear h
    go_enter Tryz.func59, Tryz.ntmps59
    go_wp2
    go_ret2
    exact ⟨rfl, hB0⟩
  · have h2 : (n : Int) < m := by omega
    clear h
    go_enter Tryz.func59, Tryz.ntmps59
    go_wp2
    go_ret2
    exact ⟨rfl, hB0⟩
set_option maxRecDepth 100000 in
set_option maxHeartbeats 1000000 in
theorem consistency_in (m : Nat) (oa : Option Addr) (n cap : Nat) (ss : List ByteArray) (hn : ss.length = n) (hm : n ≤ 256) (hcap : n ≤ cap) (hm1 : 1 ≤ m) (hmn : m ≤ n) (hz : Sz ss) (w : World) (hc : Strs w oa ss) :
    Calls Tryz.prog 59 #[.agg tabV, .slice oa n cap, .int .i64 m] w (RPm (conM ss m true) w) := by
  have HRT := Lib.hid (show ∀ e w', RPm (conM ss m true) w e w' = ∃ v, e = .returned (.tuple #[v, .int .i64 0]) ∧ Own w' w.heap.size v (conM ss m true) ∧ Below w.heap.size w w' from fun _ _ => rfl)
  generalize RPm (conM ss m true) w = PO at *
  have hB0 := (Below.refl _ w).alloc (Nat.le_refl _) (.cells tabV 29)
  have hT := tab_run (Blk.new w 29 tabV)
  have HC := Lib.hid (hc.below hB0)
  have HP := Lib.hid (fun W hW => sub_any n oa cap m true ss hn (by omega) hm hcap hm1 hmn hz W hW)
  generalize conM ss m true = R at *
  have a1 : ¬ (m : Int) < 1 := by omega
  have a2 : ¬ (n : Int) < (m : Int) := by omega
  clear hn hz hc
  go_enter Tryz.func59, Tryz.ntmps59
  go_wp2_with fail
  refine (HP.out _ HC.out).mono ?_
  rintro e w1 ⟨v, rfl, hown, hb1⟩
  have hB1 := hB0.trans (hb1.mono hB0.size)
  have hown1 := hown.mono (B' := w.heap.size) hB0.size
  clear HC hB0 hb1 hT HP hown
  go_wp2
  rw [HRT.out]
  exact ⟨_, rfl, hown1, hB1⟩
end
end Go.Proofs.YtakgolbgeeoioaaGreat
namespace Go.Proofs.YtakgolbgeeoioaaGreat
open Go.RowKit

theorem Own.formd {w : World} {B : Nat} {v : Value} {ss : List ByteArray} (h : Own w B v ss) : ∃ oa cap, v = .slice oa ss.length cap ∧ Strs w oa ss ∧ ss.length ≤ cap ∧ (oa = none → ss.length = 0 ∧ cap = 0) := by
  have h0 := h
  obtain ⟨oa, cap, hv, hs⟩ := h.form
  refine ⟨oa, cap, hv, hs, ?_⟩
  rcases h.2 with ⟨h1, hn⟩ | ⟨g, cap', cur, h1, hg, hk, hc1, _⟩
  · rw [h1] at hv
    injection hv with h2 h3 h4
    exact ⟨by omega, fun _ => ⟨hn, h4.symm⟩⟩
  · rw [h1] at hv
    injection hv with h2 _ h3
    exact ⟨by omega, fun h => by rw [h] at h2; cases h2⟩
/-- append(v, ts...) -/
theorem append_strs {W : World} {B : Nat} {v : Value} {ss ts : List ByteArray} (hown : Own W B v ss) (oa : Option Addr) (m c : Nat) (hm : ts.length = m) (hs : Strs W oa ts) (hnil : oa = none → m = 0 ∧ c = 0) (hlen : ss.length + m ≤ 1073741824) (hB : B ≤ W.heap.size) :
    ∃ v' w', (Builtin.append_ #[86, 86] 86 #[v, .slice oa m c]).run Tryz.prog W = .ok v' w' ∧ Own w' B v' (ss ++ ts) ∧ W.grownBy w' v.ownBlock ∧ (v ≠ .slice none 0 0 → v' ≠ .slice none 0 0) := by
  obtain ⟨i0, hi, hz0, hz1, hz2⟩ := info_parts strInfo
  cases oa with
  | some a =>
    obtain ⟨v', w', hr, h2, h3, h4⟩ := run_append_own (P := Tryz.prog) W B 86 86 9 i0 (.string ⟨#[]⟩) 1 16 Tryz.underlying86 hi hz0 hz1 hz2 rfl (by decide) v ss.length (ss.map .string) hown a m c (ts.map .string) (by rw [List.length_map]; omega) (fun j u hj => by
        have hj2 : j < ts.length := by have := (List.getElem?_eq_some_iff.1 hj).1; rwa [List.length_map] at this
        obtain ⟨a', he, _, hc⟩ := hs j hj2
        cases he
        rw [hc]
        rw [List.getElem?_map, List.getElem?_eq_getElem hj2] at hj
        rw [List.getD_eq_getElem?_getD, List.getElem?_eq_getElem hj2]
        exact hj) (by intro u hu; obtain ⟨x, _, rfl⟩ := List.mem_map.1 hu; rfl) (by unfold maxLen; omega) (by omega) hB
    refine ⟨v', w', hr, ?_, h3, fun h k => h (h4.1 k).1⟩
    unfold Own
    rw [List.length_append, List.map_append, hm]
    exact h2
  | none =>
    obtain ⟨rfl, rfl⟩ := hnil rfl
    obtain rfl : ts = [] := List.length_eq_zero_iff.1 hm
    refine ⟨v, W, ?_, by rw [List.append_nil]; exact hown, grown_refl _ _, fun h => h⟩
    rcases hown.2 with ⟨rfl, hn⟩ | ⟨g, cap, cur, rfl, hg, hk, hc1, hc2, hc3, hc4⟩
    · simp [Builtin.append_, run_underlying Tryz.underlying86, sizeOf, typeInfo, hi, Builtin.lenOf, Builtin.firstCells]
    · simp [Builtin.append_, run_underlying Tryz.underlying86, sizeOf, typeInfo, hi, Builtin.lenOf, Builtin.firstCells, hc1, storeCells]
end Go.Proofs.YtakgolbgeeoioaaGreat
namespace Go.Proofs.YtakgolbgeeoioaaGreat
open Go.RowKit

set_option maxRecDepth 100000 in
set_option maxHeartbeats 1000000 in
theorem list_any (oa : Option Addr) (n cap : Nat) (ss : List ByteArray) (hn : ss.length = n) (hsz : (txts ss).size ≤ 1099511627776) (hn2 : n ≤ 1099511627776) (w : World) (hc : Strs w oa ss) :
 Calls Tryz.prog 57 #[.slice oa n cap] w fun e w' => e = .returned (.string (listB ss)) ∧ Below w.heap.size w w' := by
 have HC := Lib.hid hc
 have HN := Lib.hid hn
 have HM := Lib.hid (fun W => number_any (n : Int) W)
 have h4 := num4_size (n : Int)
 obtain ⟨N, hN⟩ : ∃ N, num4 (n : Int) = N := ⟨_, rfl⟩
 rw [hN] at HM h4
 have HNN := Lib.hid hN
 have H4 := Lib.hid h4
 clear hc hn hN h4
 go_enter Tryz.func57, Tryz.ntmps57
 go_wp2_with fail
 refine (bld_write w.heap.size w.heap.size [] ⟨#[76]⟩ _ (bld_new w) (by decide) (by simp)).mono ?_
 rintro e w1 ⟨rfl, hb1, hB1⟩
 have hB1' : Below w.heap.size w w1 := ((Below.refl _ w).alloc (Nat.le_refl _) _).trans hB1
 clear hB1
 go_wp2_with fail
 refine (HM.out _).mono ?_
 rintro e w2 ⟨rfl, hB2⟩
 have hb2 := hb1.below hB2
 have hB2' := hB1'.trans (hB2.mono hB1'.size)
 clear hb1 hB1' hB2
 go_wp2_with fail
 refine (bld_write w.heap.size w.heap.size _ N _ hb2 (by have := H4.out; simp; omega) hB2'.size).mono ?_
 rintro e w3 ⟨rfl, hb3, hB3⟩
 have hB3' := hB2'.trans hB3
 clear hb2 hB2' hB3
 have HE := Lib.hid (show ∀ k, (([] : List UInt8) ++ [76] ++ N.data.toList ++ (txts (ss.take k)).data.toList).length = 5 + (txts (ss.take k)).size by
  intro k
  have := H4.out
  simp only [List.length_append, Array.length_toList]
  show 0 + 1 + N.size + (txts (ss.take k)).size = _
  omega)
 have hz0 : Bld w3 w.heap.size w.heap.size (([] : List UInt8) ++ [76] ++ N.data.toList ++ (txts (ss.take 0)).data.toList) := by
  have e : (txts (ss.take 0)).data.toList = [] := rfl
  rw [e, List.append_nil]
  exact hb3
 have HF := Lib.hid (show (⟨(([] : List UInt8) ++ [76] ++ N.data.toList ++ (txts ss).data.toList).toArray⟩ : ByteArray) = listB ss by
  unfold listB
  rw [HN.out, HNN.out, ← of_toList (⟨#[76]⟩ ++ N ++ txts ss), toList_append, toList_append]
  rfl)
 clear hb3
 generalize ([] : List UInt8) ++ [76] ++ N.data.toList = l0 at *
 go_wp2
 go_loopw [13] (fun i wr => ∃ k : Nat, k ≤ n ∧ i = .int .i64 k ∧ Bld wr w.heap.size w.heap.size (l0 ++ (txts (ss.take k)).data.toList) ∧ Below w.heap.size w wr) (fun i _ => n - (intOf i).toNat)
 case atStart => exact ⟨0, by omega, rfl, hz0, hB3'⟩
 case round =>
  clear hz0 hB3'
  obtain ⟨k, hk, rfl, hb, hB⟩ := hrel
  by_cases hlt : k < n
  · have hlt' : (k : Int) < (n : Int) := by omega
    have hkl : k < ss.length := by have := HN.out; omega
    obtain ⟨a, rfl, hab, hc0⟩ := HC.out k hkl
    have hc : wr.cell? (a.add k) = some (.string (ss.getD k ByteArray.empty)) := (hB.cell (by rw [add_block]; exact hab)).trans hc0
    have HT := Lib.hid (txts_take ss k hkl)
    have hts := txts_get_size ss k
    have htk := txts_take_size ss (k + 1)
    rw [HT.out, ByteArray.size_append] at htk
    have HX := Lib.hid (fun W => text_any (ss.getD k ByteArray.empty) (by omega) W)
    generalize ss.getD k ByteArray.empty = x at *
    clear hc0 hkl
    go_wp2_with fail
    refine (HX.out _).mono ?_
    rintro e w5 ⟨rfl, hB5⟩
    have hb5 := hb.below hB5
    have hB5' := hB.trans (hB5.mono hB.size)
    generalize txt x = X at *
    clear hb hB hB5 hc
    go_wp2_with fail
    refine (bld_write w.heap.size w.heap.size _ X _ hb5 (by rw [HE.out]; omega) hB5'.size).mono ?_
    rintro e w6 ⟨rfl, hb6, hB6⟩
    have hB6' := hB5'.trans hB6
    rw [List.append_assoc, ← toList_append, ← HT.out] at hb6
    clear hb5 hB5' hB6
    go_wp2
    go_roundw
    case rel => exact ⟨k + 1, by omega, by go_num, hb6, hB6'⟩
    case measure => simp [intOf]; omega
  · obtain rfl : k = n := by omega
    have hall : ss.take k = ss := by rw [List.take_of_length_le]; have := HN.out; omega
    rw [hall] at hb
    clear hall hlt
    go_wp2_with fail
    refine (bld_string w.heap.size w.heap.size _ _ hb hB.size).mono ?_
    rintro e w7 ⟨rfl, hB7⟩
    have hB7' := hB.trans hB7
    rw [HF.out]
    go_wp2
    go_ret
    exact ⟨rfl, hB7'⟩
end Go.Proofs.YtakgolbgeeoioaaGreat
namespace Go.Proofs.YtakgolbgeeoioaaGreat
open Go.RowKit

/-- leaves, as a call wants them -/
theorem leaves_row {w : World} {P : Nat → Prop} {cs : Array Value} {W : Wd} (hi : InvW W) (hS : StC w P cs W) (a : Int) : Calls Tryz.prog 48 #[.agg cs, .agg tabV, .int .i64 (zQ W.hd a : Int)] w fun e w' => ∃ oa cap, e = .returned (.slice oa (zQ W.hd a) cap) ∧ zQ W.hd a ≤ cap ∧ Strs w' oa (lfsQ W.tk W.hd a) ∧ Below w.heap.size w w' := by
 refine (leaves_of hi hS a).mono ?_
 rintro e w' ⟨v, rfl, hv, hb⟩
 obtain ⟨ol, cl, rfl, hs, hc⟩ := hv.formY
 rw [lfsQ_len hi] at hc ⊢
 exact ⟨ol, cl, rfl, hc, hs, hb⟩
/-- Consistency of a head's leaves: what it answers -/
theorem cons_of {W : Wd} (hi : InvW W) (a b : Int) : ∃ (PF : List ByteArray) (x : Int), (∀ oa cap X, zQ W.hd b ≤ cap → Strs X oa (lfsQ W.tk W.hd b) → Calls Tryz.prog 59 #[.agg tabV, .slice oa (zQ W.hd b) cap, .int .i64 (zQ W.hd a : Int)] X fun e w' => ∃ op cp, e = .returned (.tuple #[.slice op PF.length cp, .int .i64 x]) ∧ Strs w' op PF ∧ PF.length ≤ cp ∧ Below X.heap.size X w') ∧
  ((x = 0 ∧ AnsB W.tk W.hd a b (listB PF) 0) ∨ (x = 5 ∧ AnsB W.tk W.hd a b ⟨#[]⟩ 5)) ∧ PF.length ≤ 100 ∧ (txts PF).size ≤ 1099511627776 := by
 have h64 := hi.most
 have hz := (hi.zQ b).2.1
 by_cases hc : 1 ≤ zQ W.hd a ∧ zQ W.hd a ≤ zQ W.hd b
 · have hl : (conM (lfsQ W.tk W.hd b) (zQ W.hd a) true).length ≤ 65 := by
    rw [conM_length, lfsQ_len hi]
    have := lenM_le (zQ W.hd b) (zQ W.hd a) true
    omega
   refine ⟨conM (lfsQ W.tk W.hd b) (zQ W.hd a) true, 0, fun oa cap X h1 h2 => ?_, .inl ⟨rfl, ?_⟩, by omega, ?_⟩
   · refine (consistency_in (zQ W.hd a) oa (zQ W.hd b) cap _ (lfsQ_len hi b) (by omega) h1 hc.1 hc.2 (lfsQ_sz _ _ _) X h2).mono ?_
     rintro e w' ⟨v, rfl, hv, hb⟩
     obtain ⟨op, cp, rfl, hs, hcp⟩ := hv.formY
     exact ⟨op, cp, rfl, hs, hcp, hb⟩
   · unfold AnsB
     rw [if_pos hc]
     exact ⟨rfl, rfl⟩
   · have := txts_bound (conM_sz (lfsQ_sz W.tk W.hd b) (zQ W.hd a) true)
     have h2 := Nat.mul_le_mul hl (Nat.le_refl (4 + 1073741824))
     omega
 · refine ⟨[], 5, fun oa cap X _ _ => ?_, .inr ⟨rfl, ?_⟩, by decide, by decide⟩
   · refine (consistency_out (zQ W.hd a : Int) oa (zQ W.hd b) cap (by omega) X).mono ?_
     rintro e w' ⟨rfl, hb⟩
     exact ⟨none, 0, rfl, fun i hi => by simp at hi, Nat.le_refl _, hb⟩
   · unfold AnsB
     rw [if_neg hc]
     exact ⟨rfl, rfl⟩
/-- Inclusion of a leaf: what it answers -/
theorem inc_of {W : Wd} (hi : InvW W) (i q : Int) : ∃ (PF : List ByteArray) (x : Int), (∀ oa cap X, zQ W.hd q ≤ cap → Strs X oa (lfsQ W.tk W.hd q) → Calls Tryz.prog 56 #[.agg tabV, .slice oa (zQ W.hd q) cap, .int .i64 i] X fun e w' => ∃ v, e = .returned (.tuple #[v, .int .i64 x]) ∧ Own w' X.heap.size v PF ∧ Below X.heap.size X w') ∧
  ((x = 0 ∧ 0 ≤ i ∧ i < (W.tk.length : Int) ∧ AnsL W.tk W.hd i q (listB (reqQ (W.tk.getD i.toNat default) :: PF)) 0) ∨ (x = 5 ∧ AnsL W.tk W.hd i q ⟨#[]⟩ 5)) ∧ PF.length ≤ 100 ∧ (txts PF).size ≤ 549755813888 := by
 have h64 := hi.most
 have hz := (hi.zQ q).2.1
 by_cases hc : 0 ≤ i ∧ i < (zQ W.hd q : Int)
 · obtain ⟨j, rfl⟩ : ∃ j : Nat, i = j := ⟨i.toNat, by omega⟩
   have hl : (incM (lfsQ W.tk W.hd q) j).length ≤ 64 := by
    rw [incM_length, lfsQ_len hi]
    have := depM_le (zQ W.hd q) j
    omega
   refine ⟨incM (lfsQ W.tk W.hd q) j, 0, fun oa cap X h1 h2 => ?_, .inl ⟨rfl, by omega, by omega, ?_⟩, by omega, ?_⟩
   · exact inclusion_in j oa (zQ W.hd q) cap _ (lfsQ_len hi q) (by omega) h1 (by omega) (lfsQ_sz _ _ _) X h2
   · unfold AnsL
     rw [if_pos hc]
     exact ⟨rfl, rfl⟩
   · have := txts_bound (incM_sz (lfsQ_sz W.tk W.hd q) j)
     have h2 := Nat.mul_le_mul hl (Nat.le_refl (4 + 1073741824))
     omega
 · refine ⟨[], 5, fun oa cap X _ _ => ?_, .inr ⟨rfl, ?_⟩, by decide, by decide⟩
   · refine (inclusion_out i oa (zQ W.hd q) cap (by omega) X).mono ?_
     rintro e w' ⟨rfl, hb⟩
     exact ⟨_, rfl, own_nil w' X.heap.size, hb⟩
   · unfold AnsL
     rw [if_neg hc]
     exact ⟨rfl, rfl⟩
end Go.Proofs.YtakgolbgeeoioaaGreat
