/-
  Included, Consistent, Inclusion, Consistency: the program's, of whatever numbers.
-/
import Derived.Test.YtigmkhgaoamdkaaMBoth
namespace Go.Proofs.Ytigmkhgaoamdkaa
open Go.RowKit

theorem beqB (a b : ByteArray) : (a.toList == b.toList) = decide (a = b) := by
  rw [Bool.eq_iff_iff, beq_iff_eq, decide_eq_true_iff, ByteArray.toList_eq, ByteArray.toList_eq]
  exact ⟨fun h => ByteArray.ext (Array.toList_inj.1 h), fun h => by rw [h]⟩
/-- what Inclusion and Consistency answer -/
def RP (ss : List ByteArray) (w : World) (e : Ending) (w' : World) : Prop := ∃ v, e = .returned (.tuple #[v, .int .i64 0]) ∧ Own w' w.heap.size v ss ∧ Below w.heap.size w w'
section
attribute [-go_sem] loadVar
set_option maxRecDepth 100000 in
set_option maxHeartbeats 1000000 in
theorem included_out (leaf root : ByteArray) (i n : Int) (oa : Option Addr) (m cap : Nat) (h : i < 0 ∨ n ≤ i ∨ 64 < n) (w : World) :
    Calls Try.prog 16 #[.agg tabV, .string leaf, .int .i64 i, .int .i64 n, .slice oa m cap, .string root] w fun e w' => e = .returned (.bool false) ∧ Below w.heap.size w w' := by
  have hB0 := (Below.refl _ w).alloc (Nat.le_refl _) (.cells tabV 30)
  by_cases h1 : i < 0
  · clear h
    go_enter Try.func16, Try.ntmps16
    go_wp2
    go_ret
    exact ⟨rfl, hB0⟩
  · by_cases h2 : n ≤ i
    · clear h
      go_enter Try.func16, Try.ntmps16
      go_wp2
      go_ret
      exact ⟨rfl, hB0⟩
    · have h3 : 64 < n := by omega
      clear h
      go_enter Try.func16, Try.ntmps16
      go_wp2
      go_ret
      exact ⟨rfl, hB0⟩
set_option maxRecDepth 100000 in
set_option maxHeartbeats 1000000 in
theorem included_in (leaf root : ByteArray) (i n : Nat) (oa : Option Addr) (m cap : Nat) (p : List ByteArray) (hl : leaf.size ≤ 1073741824) (hi : i < n) (hn : n ≤ 64) (hm : p.length = m) (hm2 : m ≤ 1073741824) (hcap : m ≤ cap) (hz : Sz p) (w : World) (hc : Strs w oa p) :
    Calls Try.prog 16 #[.agg tabV, .string leaf, .int .i64 i, .int .i64 n, .slice oa m cap, .string root] w fun e w' => e = .returned (.bool (decide (p.length = depM i n ∧ (rebM leaf i n p).1 = root))) ∧ Below w.heap.size w w' := by
  have hB0 := (Below.refl _ w).alloc (Nat.le_refl _) (.cells tabV 30)
  have hT := tab_run (Blk.new w 30 tabV)
  have HC := Lib.hid (hc.below hB0)
  have HR := Lib.hid (fun W hW => rebuild_any n leaf i oa m cap p hl hi (by omega) hm hm2 hcap hz W hW)
  rw [rebM_two] at HR
  generalize (rebM leaf i n p).1 = r at *
  have a1 : ¬ (i : Int) < 0 := by omega
  have a2 : ¬ (n : Int) ≤ (i : Int) := by omega
  have a3 : ¬ (64 : Int) < (n : Int) := by omega
  clear hc hl hm hm2 hcap hz
  by_cases hd : p.length = depM i n
  · rw [decide_eq_true hd] at HR
    have HX := Lib.hid (show decide (p.length = depM i n ∧ r = root) = decide (r = root) from decide_eq_decide.2 ⟨fun h => h.2, fun h => ⟨hd, h⟩⟩)
    rw [HX.out]
    clear hd HX
    go_enter Try.func16, Try.ntmps16
    go_wp2_with fail
    refine (HR.out _ HC.out).mono ?_
    rintro e w1 ⟨rfl, hb1⟩
    have hB1 := hB0.trans (hb1.mono hB0.size)
    clear HC hB0 hb1 hT HR
    go_wp2
    go_ret
    exact ⟨boolEq (beqB r root), hB1⟩
  · rw [decide_eq_false hd] at HR
    rw [decide_eq_false (fun h => hd h.1)]
    clear hd
    go_enter Try.func16, Try.ntmps16
    go_wp2_with fail
    refine (HR.out _ HC.out).mono ?_
    rintro e w1 ⟨rfl, hb1⟩
    have hB1 := hB0.trans (hb1.mono hB0.size)
    clear HC hB0 hb1 hT HR
    go_wp2
    go_ret
    exact ⟨rfl, hB1⟩
set_option maxRecDepth 100000 in
set_option maxHeartbeats 1000000 in
theorem consistent_out (first second : ByteArray) (m n : Int) (oa : Option Addr) (q cap : Nat) (h : m < 1 ∨ n < m ∨ 64 < n) (w : World) :
    Calls Try.prog 13 #[.agg tabV, .int .i64 m, .int .i64 n, .string first, .string second, .slice oa q cap] w fun e w' => e = .returned (.bool false) ∧ Below w.heap.size w w' := by
  have hB0 := (Below.refl _ w).alloc (Nat.le_refl _) (.cells tabV 30)
  by_cases h1 : m < 1
  · clear h
    go_enter Try.func13, Try.ntmps13
    go_wp2
    go_ret
    exact ⟨rfl, hB0⟩
  · by_cases h2 : n < m
    · clear h
      go_enter Try.func13, Try.ntmps13
      go_wp2
      go_ret
      exact ⟨rfl, hB0⟩
    · have h3 : 64 < n := by omega
      clear h
      go_enter Try.func13, Try.ntmps13
      go_wp2
      go_ret
      exact ⟨rfl, hB0⟩
set_option maxRecDepth 100000 in
set_option maxHeartbeats 1000000 in
theorem consistent_in (first second : ByteArray) (m n : Nat) (oa : Option Addr) (q cap : Nat) (p : List ByteArray) (hl : first.size ≤ 1073741824) (hm1 : 1 ≤ m) (hmn : m ≤ n) (hn : n ≤ 64) (hq : p.length = q) (hq2 : q ≤ 1073741824) (hcap : q ≤ cap) (hz : Sz p) (w : World) (hc : Strs w oa p) :
    Calls Try.prog 13 #[.agg tabV, .int .i64 m, .int .i64 n, .string first, .string second, .slice oa q cap] w fun e w' => e = .returned (.bool (decide (p.length = lenM m n true ∧ (botM m n first true p).1 = first ∧ (botM m n first true p).2.1 = second))) ∧ Below w.heap.size w w' := by
  have hB0 := (Below.refl _ w).alloc (Nat.le_refl _) (.cells tabV 30)
  have hT := tab_run (Blk.new w 30 tabV)
  have HC := Lib.hid (hc.below hB0)
  have HR := Lib.hid (fun W hW => rebuildBoth_any n m first true oa q cap p hl hm1 hmn (by omega) hq hq2 hcap hz W hW)
  rw [botM_two m n first true p hm1 hmn] at HR
  generalize (botM m n first true p).1 = r at *
  generalize (botM m n first true p).2.1 = s at *
  have a1 : ¬ (m : Int) < 1 := by omega
  have a2 : ¬ (n : Int) < (m : Int) := by omega
  have a3 : ¬ (64 : Int) < (n : Int) := by omega
  clear hc hl hq hq2 hcap hz
  by_cases hd : p.length = lenM m n true
  · rw [decide_eq_true hd] at HR
    by_cases hr : r = first
    · have HX := Lib.hid (show decide (p.length = lenM m n true ∧ r = first ∧ s = second) = decide (s = second) from decide_eq_decide.2 ⟨fun h => h.2.2, fun h => ⟨hd, hr, h⟩⟩)
      rw [HX.out]
      have hrr : (r.toList == first.toList) = true := by rw [beqB]; exact decide_eq_true hr
      clear hd HX hr
      go_enter Try.func13, Try.ntmps13
      go_wp2_with fail
      refine (HR.out _ HC.out).mono ?_
      rintro e w1 ⟨rfl, hb1⟩
      have hB1 := hB0.trans (hb1.mono hB0.size)
      clear HC hB0 hb1 hT HR
      go_wp2
      go_ret
      exact ⟨boolEq (beqB s second), hB1⟩
    · rw [decide_eq_false (fun h => hr h.2.1)]
      have hrr : (r.toList == first.toList) = false := by rw [beqB]; exact decide_eq_false hr
      clear hd hr
      go_enter Try.func13, Try.ntmps13
      go_wp2_with fail
      refine (HR.out _ HC.out).mono ?_
      rintro e w1 ⟨rfl, hb1⟩
      have hB1 := hB0.trans (hb1.mono hB0.size)
      clear HC hB0 hb1 hT HR
      go_wp2
      go_ret
      exact ⟨rfl, hB1⟩
  · rw [decide_eq_false hd] at HR
    rw [decide_eq_false (fun h => hd h.1)]
    clear hd
    go_enter Try.func13, Try.ntmps13
    go_wp2_with fail
    refine (HR.out _ HC.out).mono ?_
    rintro e w1 ⟨rfl, hb1⟩
    have hB1 := hB0.trans (hb1.mono hB0.size)
    clear HC hB0 hb1 hT HR
    go_wp2
    go_ret
    exact ⟨rfl, hB1⟩

set_option maxRecDepth 100000 in
set_option maxHeartbeats 1000000 in
theorem inclusion_out (i : Int) (oa : Option Addr) (n cap : Nat) (h : i < 0 ∨ (n : Int) ≤ i) (w : World) :
    Calls Try.prog 15 #[.agg tabV, .slice oa n cap, .int .i64 i] w fun e w' => e = .returned (.tuple #[.slice none 0 0, .int .i64 5]) ∧ Below w.heap.size w w' := by
  have hB0 := (Below.refl _ w).alloc (Nat.le_refl _) (.cells tabV 30)
  by_cases h1 : i < 0
  · clear h
    go_enter Try.func15, Try.ntmps15
    go_wp2
    go_ret2
    exact ⟨rfl, hB0⟩
  · have h2 : (n : Int) ≤ i := by omega
    clear h
    go_enter Try.func15, Try.ntmps15
    go_wp2
    go_ret2
    exact ⟨rfl, hB0⟩
set_option maxRecDepth 100000 in
set_option maxHeartbeats 1000000 in
theorem inclusion_in (i : Nat) (oa : Option Addr) (n cap : Nat) (ss : List ByteArray) (hn : ss.length = n) (hm : n ≤ 256) (hcap : n ≤ cap) (hi : i < n) (hz : Sz ss) (w : World) (hc : Strs w oa ss) :
    Calls Try.prog 15 #[.agg tabV, .slice oa n cap, .int .i64 i] w (RP (incM ss i) w) := by
  have HRT := Lib.hid (show ∀ e w', RP (incM ss i) w e w' = ∃ v, e = .returned (.tuple #[v, .int .i64 0]) ∧ Own w' w.heap.size v (incM ss i) ∧ Below w.heap.size w w' from fun _ _ => rfl)
  generalize RP (incM ss i) w = PO at *
  have hB0 := (Below.refl _ w).alloc (Nat.le_refl _) (.cells tabV 30)
  have hT := tab_run (Blk.new w 30 tabV)
  have HC := Lib.hid (hc.below hB0)
  have HP := Lib.hid (fun W hW => path_any n oa cap i ss hn (by omega) hm hcap hi hz W hW)
  generalize incM ss i = R at *
  have a1 : ¬ (i : Int) < 0 := by omega
  have a2 : ¬ (n : Int) ≤ (i : Int) := by omega
  clear hn hz hc
  go_enter Try.func15, Try.ntmps15
  go_wp2_with fail
  refine (HP.out _ HC.out).mono ?_
  rintro e w1 ⟨v, rfl, hown, hb1⟩
  have hB1 := hB0.trans (hb1.mono hB0.size)
  have hown1 := hown.mono (B' := w.heap.size) hB0.size
  clear HC hB0 hb1 hT HP hown
  go_wp2
  rw [HRT.out]
  exact ⟨_, rfl, hown1, hB1⟩
set_option maxRecDepth 100000 in
set_option maxHeartbeats 1000000 in
theorem consistency_out (m : Int) (oa : Option Addr) (n cap : Nat) (h : m < 1 ∨ (n : Int) < m) (w : World) :
    Calls Try.prog 12 #[.agg tabV, .slice oa n cap, .int .i64 m] w fun e w' => e = .returned (.tuple #[.slice none 0 0, .int .i64 5]) ∧ Below w.heap.size w w' := by
  have hB0 := (Below.refl _ w).alloc (Nat.le_refl _) (.cells tabV 30)
  by_cases h1 : m < 1
  · clear h
    go_enter Try.func12, Try.ntmps12
    go_wp2
    go_ret2
    exact ⟨rfl, hB0⟩
  · have h2 : (n : Int) < m := by omega
    clear h
    go_enter Try.func12, Try.ntmps12
    go_wp2
    go_ret2
    exact ⟨rfl, hB0⟩
set_option maxRecDepth 100000 in
set_option maxHeartbeats 1000000 in
theorem consistency_in (m : Nat) (oa : Option Addr) (n cap : Nat) (ss : List ByteArray) (hn : ss.length = n) (hm : n ≤ 256) (hcap : n ≤ cap) (hm1 : 1 ≤ m) (hmn : m ≤ n) (hz : Sz ss) (w : World) (hc : Strs w oa ss) :
    Calls Try.prog 12 #[.agg tabV, .slice oa n cap, .int .i64 m] w (RP (conM ss m true) w) := by
  have HRT := Lib.hid (show ∀ e w', RP (conM ss m true) w e w' = ∃ v, e = .returned (.tuple #[v, .int .i64 0]) ∧ Own w' w.heap.size v (conM ss m true) ∧ Below w.heap.size w w' from fun _ _ => rfl)
  generalize RP (conM ss m true) w = PO at *
  have hB0 := (Below.refl _ w).alloc (Nat.le_refl _) (.cells tabV 30)
  have hT := tab_run (Blk.new w 30 tabV)
  have HC := Lib.hid (hc.below hB0)
  have HP := Lib.hid (fun W hW => sub_any n oa cap m true ss hn (by omega) hm hcap hm1 hmn hz W hW)
  generalize conM ss m true = R at *
  have a1 : ¬ (m : Int) < 1 := by omega
  have a2 : ¬ (n : Int) < (m : Int) := by omega
  clear hn hz hc
  go_enter Try.func12, Try.ntmps12
  go_wp2_with fail
  refine (HP.out _ HC.out).mono ?_
  rintro e w1 ⟨v, rfl, hown, hb1⟩
  have hB1 := hB0.trans (hb1.mono hB0.size)
  have hown1 := hown.mono (B' := w.heap.size) hB0.size
  clear HC hB0 hb1 hT HP hown
  go_wp2
  rw [HRT.out]
  exact ⟨_, rfl, hown1, hB1⟩
end
end Go.Proofs.Ytigmkhgaoamdkaa
