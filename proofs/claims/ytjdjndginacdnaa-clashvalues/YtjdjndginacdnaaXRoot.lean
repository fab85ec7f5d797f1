/-
  Layer 9: the root of an answer; whether two contradict each other; whether a way leads to a root.
-/
import Derived.Test.YtjdjndginacdnaaXClimb
import Derived.Test.YtjdjndginacdnaaCTail
namespace Go.Proofs.Ytjdjndginacdnaa
open Go.RowKit

theorem climb9_any {g : Nat} {h : ByteArray → ByteArray} (H : Hsh g h) (k : ByteArray) (th : Bool) (v s : ByteArray) (hk : k.size ≤ 300) (hv : v.size ≤ 300) (hs : s.size ≤ 10000) (w : World) :
    Calls Try.prog 31 #[.func (.func g) #[] #[], .string k, .agg (ansA th v s)] w (RC9 (way9 h k th v s) w) := by
  unfold way9
  cases hm : may9 k th v s with
  | false => exact climb9_no k th v s hk hv hs hm w
  | true => exact climb9_yes H k th v s hs hm w
theorem way9_top {h : ByteArray → ByteArray} {k : ByteArray} {th : Bool} {v s : ByteArray} (hm : may9 k th v s = true) : ∃ hl : 256 < (way9 h k th v s).length, (way9 h k th v s)[256].2 = rt9 h k th v s := by
  have e : way9 h k th v s = wy9 h (pa9 h k) s (ow9 k th v) 257 := by unfold way9; rw [hm]; rfl
  have hl : 256 < (way9 h k th v s).length := by rw [e, wy9_len]; decide
  refine ⟨hl, ?_⟩
  unfold rt9
  rw [hm]
  have e2 : (way9 h k th v s)[256] = (wy9 h (pa9 h k) s (ow9 k th v) 257)[256]'(by rw [wy9_len]; decide) := by congr 1
  rw [e2, wy9_get]
  rfl
set_option maxRecDepth 100000 in
set_option maxHeartbeats 1000000 in
theorem root9_any {g : Nat} {h : ByteArray → ByteArray} (H : Hsh g h) (k : ByteArray) (th : Bool) (v s : ByteArray) (hk : k.size ≤ 300) (hv : v.size ≤ 300) (hs : s.size ≤ 10000) (w : World) :
    Calls Try.prog 15 #[.func (.func g) #[] #[], .string k, .agg (ansA th v s)] w fun e w' => e = .returned (.tuple #[.string (rt9 h k th v s), .bool (may9 k th v s)]) ∧ Below w.heap.size w w' := by
  have HC := Lib.hid (fun W => climb9_any H k th v s hk hv hs W)
  unfold RC9 at HC
  obtain ⟨w0, hw0⟩ : ∃ w0, w.alloc (.cells (ansA th v s) 23) = w0 := ⟨_, rfl⟩
  have b0 : Blk w0 w.heap.size 23 (ansA th v s) := by rw [← hw0]; exact Blk.new _ _ _
  have hB0 : Below w.heap.size w w0 := by rw [← hw0]; exact (Below.refl _ w).alloc (Nat.le_refl _) _
  have q0 : w0.cell? ⟨w.heap.size, 0, none⟩ = some (.bool th) := b0.cell 0
  have q1 : w0.cell? ⟨w.heap.size, 1, none⟩ = some (.string v) := b0.cell 1
  have q2 : w0.cell? ⟨w.heap.size, 2, none⟩ = some (.string s) := b0.cell 2
  have HW : Hid (w.alloc (.cells #[.bool th, .string v, .string s] 23) = w0) := Lib.hid hw0
  change Hid (∀ W, Calls _ _ #[_, _, .agg #[.bool th, .string v, .string s]] W _) at HC
  show Calls _ _ #[_, _, .agg #[.bool th, .string v, .string s]] _ _
  clear hw0 b0
  cases hm : may9 k th v s with
  | false =>
    have HN : Hid (rt9 h k th v s = ⟨#[]⟩) := Lib.hid (by unfold rt9; rw [hm]; rfl)
    rw [HN.out]
    rw [show way9 h k th v s = [] by unfold way9; rw [hm]; rfl] at HC
    clear HN hm
    go_enter Try.func15, Try.ntmps15
    go_wp2_with (rw [HW.out])
    refine (HC.out _).mono ?_
    rintro e w2 ⟨vv, rfl, hown, hb⟩
    have hB2 := hB0.trans (hb.mono hB0.size)
    obtain ⟨oa, cap, rfl, _, _⟩ := hown.form
    clear hown hb hB0 q0 q1 q2
    rw [show ([] : List (ByteArray × ByteArray)).length = 0 from rfl]
    go_wp2
    go_ret2
    exact ⟨rfl, hB2⟩
  | true =>
    obtain ⟨hl, ht⟩ := way9_top (h := h) hm
    have HL : Hid ((way9 h k th v s).length = 257) := Lib.hid (by unfold way9; rw [hm]; exact wy9_len h _ _ _ _)
    generalize rt9 h k th v s = R at *
    generalize way9 h k th v s = L at *
    have HT : Hid (∀ oa cap W, Prs W oa L → Calls Try.prog 32 #[.slice oa 257 cap] W fun e w' => e = .returned (.string R) ∧ w' = W) := Lib.hid fun oa cap W hP => by
      have := top9_any oa 256 cap (by decide) L hl W hP
      rwa [ht] at this
    clear ht hl hm
    go_enter Try.func15, Try.ntmps15
    go_wp2_with (rw [HW.out])
    refine (HC.out _).mono ?_
    rintro e w2 ⟨vv, rfl, hown, hb⟩
    have hB2 := hB0.trans (hb.mono hB0.size)
    obtain ⟨oa, cap, rfl, _, hP⟩ := hown.form
    rw [HL.out]
    clear hown hb hB0 q0 q1 q2
    go_wp2_with fail
    refine (HT.out _ _ _ hP).mono ?_
    rintro e w' ⟨rfl, hw'⟩; rw [hw']; clear hw' w'
    go_wp2
    go_ret2
    exact ⟨rfl, hB2⟩
def dif9 (ta : Bool) (va : ByteArray) (tb : Bool) (vb : ByteArray) : Bool := decide (ta ≠ tb ∨ va ≠ vb)
set_option maxRecDepth 100000 in
set_option maxHeartbeats 1000000 in
theorem contra9_any (ta : Bool) (va sa : ByteArray) (tb : Bool) (vb sb : ByteArray) (w : World) :
    Calls Try.prog 43 #[.agg (ansA ta va sa), .agg (ansA tb vb sb)] w fun e w' => e = .returned (.bool (dif9 ta va tb vb)) ∧ Below w.heap.size w w' := by
  obtain ⟨w0, hw0⟩ : ∃ w0, w.alloc (.cells (ansA ta va sa) 23) = w0 := ⟨_, rfl⟩
  obtain ⟨w1, hw1⟩ : ∃ w1, w0.alloc (.cells (ansA tb vb sb) 23) = w1 := ⟨_, rfl⟩
  have z0 : w0.heap.size = w.heap.size + 1 := by rw [← hw0]; simp
  have kA : Blk w1 w.heap.size 23 (ansA ta va sa) := by rw [← hw1, ← hw0]; exact (Blk.new _ _ _).alloc _
  have kB : Blk w1 (w.heap.size + 1) 23 (ansA tb vb sb) := by rw [← hw1]; exact Blk.new_at z0.symm
  have hB1 : Below w.heap.size w w1 := by rw [← hw1, ← hw0]; exact ((Below.refl _ w).alloc (Nat.le_refl _) _).alloc (by simp) _
  have x0 : w1.cell? ⟨w.heap.size, 0, none⟩ = some (.bool ta) := kA.cell 0
  have x1 : w1.cell? ⟨w.heap.size, 1, none⟩ = some (.string va) := kA.cell 1
  have y0 : w1.cell? ⟨w.heap.size + 1, 0, none⟩ = some (.bool tb) := kB.cell 0
  have y1 : w1.cell? ⟨w.heap.size + 1, 1, none⟩ = some (.string vb) := kB.cell 1
  have HW0 : Hid (w.alloc (.cells #[.bool ta, .string va, .string sa] 23) = w0) := Lib.hid hw0
  have HW1 : Hid (w0.alloc (.cells #[.bool tb, .string vb, .string sb] 23) = w1) := Lib.hid hw1
  have HB1 := Lib.hid hB1
  obtain ⟨c, hc⟩ : ∃ c, dif9 ta va tb vb = c := ⟨_, rfl⟩
  have HC := Lib.hid hc
  rw [hc]
  show Calls _ _ #[.agg #[.bool ta, .string va, .string sa], .agg #[.bool tb, .string vb, .string sb]] _ _
  clear hw0 hw1 kA kB hB1 hc
  cases ta <;> cases tb
  · by_cases hv : va = vb
    · obtain ⟨f1, f2⟩ := eqT9 hv
      have HF := Lib.hid (show c = false by rw [← HC.out]; exact decide_eq_false (by rw [hv]; simp))
      clear hv
      go_enter Try.func43, Try.ntmps43
      go_wp2_with (first | rw [HW0.out] | rw [HW1.out])
      go_ret
      exact ⟨by rw [HF.out]; rfl, HB1.out⟩
    · obtain ⟨f1, f2⟩ := eqF9 hv
      have HF := Lib.hid (show c = true by rw [← HC.out]; exact decide_eq_true (.inr hv))
      clear hv
      go_enter Try.func43, Try.ntmps43
      go_wp2_with (first | rw [HW0.out] | rw [HW1.out])
      go_ret
      exact ⟨by rw [HF.out]; rfl, HB1.out⟩
  · have HF := Lib.hid (show c = true by rw [← HC.out]; exact decide_eq_true (.inl (by decide)))
    go_enter Try.func43, Try.ntmps43
    go_wp2_with (first | rw [HW0.out] | rw [HW1.out])
    go_ret
    exact ⟨by rw [HF.out]; rfl, HB1.out⟩
  · have HF := Lib.hid (show c = true by rw [← HC.out]; exact decide_eq_true (.inl (by decide)))
    go_enter Try.func43, Try.ntmps43
    go_wp2_with (first | rw [HW0.out] | rw [HW1.out])
    go_ret
    exact ⟨by rw [HF.out]; rfl, HB1.out⟩
  · by_cases hv : va = vb
    · obtain ⟨f1, f2⟩ := eqT9 hv
      have HF := Lib.hid (show c = false by rw [← HC.out]; exact decide_eq_false (by rw [hv]; simp))
      clear hv
      go_enter Try.func43, Try.ntmps43
      go_wp2_with (first | rw [HW0.out] | rw [HW1.out])
      go_ret
      exact ⟨by rw [HF.out]; rfl, HB1.out⟩
    · obtain ⟨f1, f2⟩ := eqF9 hv
      have HF := Lib.hid (show c = true by rw [← HC.out]; exact decide_eq_true (.inr hv))
      clear hv
      go_enter Try.func43, Try.ntmps43
      go_wp2_with (first | rw [HW0.out] | rw [HW1.out])
      go_ret
      exact ⟨by rw [HF.out]; rfl, HB1.out⟩
/-- does a way lead to the root? -/
def led9 (L : List (ByteArray × ByteArray)) (r : ByteArray) : Bool := match L.getLast? with
  | none => false
  | some x => decide (x.2 = r)
set_option maxRecDepth 100000 in
set_option maxHeartbeats 1000000 in
theorem leads9_any (oa : Option Addr) (cap : Nat) (L : List (ByteArray × ByteArray)) (hl : L.length ≤ 1000) (r : ByteArray) (w : World) (hP : Prs w oa L) :
    Calls Try.prog 44 #[.slice oa L.length cap, .string r] w fun e w' => e = .returned (.bool (led9 L r)) ∧ w' = w := by
  match hL : L, hl, hP with
  | [], _, _ =>
    rw [show led9 [] r = false from rfl, show ([] : List (ByteArray × ByteArray)).length = 0 from rfl]
    go_enter Try.func44, Try.ntmps44
    go_wp2
    go_ret
    exact ⟨rfl, rfl⟩
  | a :: N, hl, hP =>
    have HT := Lib.hid (top9_any oa N.length cap (by simp at hl; omega) (a :: N) (by simp) w hP)
    have e : led9 (a :: N) r = decide (((a :: N)[N.length]'(by simp)).2 = r) := by
      unfold led9
      rw [List.getLast?_eq_getElem?, List.getElem?_eq_getElem (by simp)]
      rfl
    rw [e]
    generalize ((a :: N)[N.length]'(by simp)).2 = x at *
    rw [show (a :: N).length = N.length + 1 from rfl]
    have hm1 : (0 : Int) < ((N.length + 1 : Nat) : Int) := by omega
    generalize N.length = m at *
    clear hP e hl
    by_cases hx : x = r
    · obtain ⟨f1, f2⟩ := eqT9 hx
      have HF := Lib.hid (show decide (x = r) = true from decide_eq_true hx)
      rw [HF.out]
      clear hx HF hL
      go_enter Try.func44, Try.ntmps44
      go_wp2_with fail
      refine HT.out.mono ?_
      rintro e w' ⟨rfl, hw'⟩; rw [hw']; clear hw' w'
      go_wp2
      go_ret
      exact ⟨rfl, rfl⟩
    · obtain ⟨f1, f2⟩ := eqF9 hx
      have HF := Lib.hid (show decide (x = r) = false from decide_eq_false hx)
      rw [HF.out]
      clear hx HF hL
      go_enter Try.func44, Try.ntmps44
      go_wp2_with fail
      refine HT.out.mono ?_
      rintro e w' ⟨rfl, hw'⟩; rw [hw']; clear hw' w'
      go_wp2
      go_ret
      exact ⟨rfl, rfl⟩
end Go.Proofs.Ytjdjndginacdnaa
