/-
  Layer 9: the reference's Few and Root.
-/
import Derived.Test.YtjdjndginacdnaaXMay
import Derived.Test.YtjdjndginacdnaaSRefAM
import Derived.Test.YtjdjndginacdnaaCWeakF
import Derived.Deep.DeepCutAuto
namespace Go.Proofs.Ytjdjndginacdnaa
open Go.RowKit

def few9 (k v s : ByteArray) : Bool := decide (k.size ≤ 300) && decide (v.size ≤ 300) && decide (s.size ≤ 10000)
theorem few9_parts {k v s : ByteArray} (h : few9 k v s = true) : k.size ≤ 300 ∧ v.size ≤ 300 ∧ s.size ≤ 10000 := by
  unfold few9 at h
  simp only [Bool.and_eq_true, decide_eq_true_eq] at h
  exact ⟨h.1.1, h.1.2, h.2⟩
set_option maxRecDepth 100000 in
set_option maxHeartbeats 1000000 in
theorem few9_any (k : ByteArray) (th : Bool) (v s : ByteArray) (w : World) :
    Calls Try.prog 7 #[.string k, .agg (ansA th v s)] w fun e w' => e = .returned (.bool (few9 k v s)) ∧ Below w.heap.size w w' := by
  obtain ⟨w0, hw0⟩ : ∃ w0, w.alloc (.cells (ansA th v s) 23) = w0 := ⟨_, rfl⟩
  have b0 : Blk w0 w.heap.size 23 (ansA th v s) := by rw [← hw0]; exact Blk.new _ _ _
  have hB0 : Below w.heap.size w w0 := by rw [← hw0]; exact (Below.refl _ w).alloc (Nat.le_refl _) _
  have q1 : w0.cell? ⟨w.heap.size, 1, none⟩ = some (.string v) := b0.cell 1
  have q2 : w0.cell? ⟨w.heap.size, 2, none⟩ = some (.string s) := b0.cell 2
  have HB0 := Lib.hid hB0
  have HW : Hid (w.alloc (.cells #[.bool th, .string v, .string s] 23) = w0) := Lib.hid hw0
  obtain ⟨F, hF⟩ : ∃ F, few9 k v s = F := ⟨_, rfl⟩
  have HF := Lib.hid hF
  rw [hF]
  show Calls _ _ #[_, .agg #[.bool th, .string v, .string s]] _ _
  clear hw0 b0 hB0 hF
  unfold few9 at HF
  by_cases h1 : k.size ≤ 300
  · have h1' : (k.size : Int) ≤ 300 := by omega
    by_cases h2 : v.size ≤ 300
    · have h2' : (v.size : Int) ≤ 300 := by omega
      by_cases h3 : s.size ≤ 10000
      · have h3' : (s.size : Int) ≤ 10000 := by omega
        have HE := Lib.hid (show F = true by rw [← HF.out, decide_eq_true h1, decide_eq_true h2, decide_eq_true h3]; rfl)
        clear HF
        go_enter Try.func7, Try.ntmps7
        go_wp2_with (rw [HW.out])
        go_ret
        exact ⟨by rw [HE.out]; rfl, HB0.out⟩
      · have h3' : ¬ (s.size : Int) ≤ 10000 := by omega
        have HE := Lib.hid (show F = false by rw [← HF.out, decide_eq_true h1, decide_eq_true h2, decide_eq_false h3]; rfl)
        clear HF
        go_enter Try.func7, Try.ntmps7
        go_wp2_with (rw [HW.out])
        go_ret
        exact ⟨by rw [HE.out]; rfl, HB0.out⟩
    · have h2' : ¬ (v.size : Int) ≤ 300 := by omega
      have HE := Lib.hid (show F = false by rw [← HF.out, decide_eq_true h1, decide_eq_false h2]; rfl)
      clear HF
      go_enter Try.func7, Try.ntmps7
      go_wp2_with (rw [HW.out])
      go_ret
      exact ⟨by rw [HE.out]; rfl, HB0.out⟩
  · have h1' : ¬ (k.size : Int) ≤ 300 := by omega
    have HE := Lib.hid (show F = false by rw [← HF.out, decide_eq_false h1]; rfl)
    clear HF
    go_enter Try.func7, Try.ntmps7
    go_wp2_with (rw [HW.out])
    go_ret
    exact ⟨by rw [HE.out]; rfl, HB0.out⟩
/-- the empty roots from the depth k on -/
def emU9 (h : ByteArray → ByteArray) (k d : Nat) : ByteArray := if k ≤ d then em9 h (256 - d) else ⟨#[]⟩
theorem rt9_no {h : ByteArray → ByteArray} {k : ByteArray} {th : Bool} {v s : ByteArray} (hm : may9 k th v s = false) : rt9 h k th v s = ⟨#[]⟩ := by unfold rt9; rw [hm]; rfl
theorem wf9_off {s : ByteArray} (h : s.size ≠ (1 + ct9 s 256) * 32) : wfS s = false := by
  rw [Bool.eq_false_iff]
  exact fun e => h (wf9_size e)
theorem wf9_on {s : ByteArray} (h : s.size = (1 + ct9 s 256) * 32) : wfS s = true := by
  unfold wfS
  rw [← ct9_all, Bool.and_eq_true, decide_eq_true_iff, decide_eq_true_iff]
  exact ⟨by omega, h⟩
/-- what Root answers -/
def RR9 (h : ByteArray → ByteArray) (k : ByteArray) (th : Bool) (v s : ByteArray) (w : World) (e : Ending) (w' : World) : Prop := e = .returned (.tuple #[.string (rt9 h k th v s), .bool (may9 k th v s)]) ∧ Below w.heap.size w w'
set_option maxRecDepth 100000 in
set_option maxHeartbeats 1000000 in
theorem rroot9_k (q : Nat) (k : ByteArray) (th : Bool) (v s : ByteArray) (hk : 255 < k.size) (w : World) :
    Calls Try.prog 9 #[.int .u8 q, .string k, .agg (ansA th v s)] w fun e w' => e = .returned (.tuple #[.string (rt9 (hF q) k th v s), .bool (may9 k th v s)]) ∧ Below w.heap.size w w' := by
  obtain ⟨w0, hw0⟩ : ∃ w0, w.alloc (.cells (ansA th v s) 23) = w0 := ⟨_, rfl⟩
  have b0 : Blk w0 w.heap.size 23 (ansA th v s) := by rw [← hw0]; exact Blk.new _ _ _
  have hB0 : Below w.heap.size w w0 := by rw [← hw0]; exact (Below.refl _ w).alloc (Nat.le_refl _) _
  have q0 : w0.cell? ⟨w.heap.size, 0, none⟩ = some (.bool th) := b0.cell 0
  have q1 : w0.cell? ⟨w.heap.size, 1, none⟩ = some (.string v) := b0.cell 1
  have q2 : w0.cell? ⟨w.heap.size, 2, none⟩ = some (.string s) := b0.cell 2
  have HB0 := Lib.hid hB0
  have HW : Hid (w.alloc (.cells #[.bool th, .string v, .string s] 23) = w0) := Lib.hid hw0
  show Calls _ _ #[_, _, .agg #[.bool th, .string v, .string s]] _ _
  have HN : Hid (may9 k th v s = false) := Lib.hid (may9_false (.inl hk))
  have HR := Lib.hid (rt9_no (h := hF q) HN.out)
  rw [HN.out, HR.out]
  clear HN HR hw0 b0 hB0
  have f1 : (255 : Int) < (k.size : Int) := by omega
  go_enter Try.func9, Try.ntmps9
  go_wp2_with (rw [HW.out])
  go_ret2
  exact ⟨rfl, HB0.out⟩
set_option maxRecDepth 100000 in
set_option maxHeartbeats 1000000 in
theorem rroot9_v (q : Nat) (k : ByteArray) (th : Bool) (v s : ByteArray) (hk : k.size ≤ 255) (hv : 255 < v.size) (w : World) :
    Calls Try.prog 9 #[.int .u8 q, .string k, .agg (ansA th v s)] w fun e w' => e = .returned (.tuple #[.string (rt9 (hF q) k th v s), .bool (may9 k th v s)]) ∧ Below w.heap.size w w' := by
  obtain ⟨w0, hw0⟩ : ∃ w0, w.alloc (.cells (ansA th v s) 23) = w0 := ⟨_, rfl⟩
  have b0 : Blk w0 w.heap.size 23 (ansA th v s) := by rw [← hw0]; exact Blk.new _ _ _
  have hB0 : Below w.heap.size w w0 := by rw [← hw0]; exact (Below.refl _ w).alloc (Nat.le_refl _) _
  have q0 : w0.cell? ⟨w.heap.size, 0, none⟩ = some (.bool th) := b0.cell 0
  have q1 : w0.cell? ⟨w.heap.size, 1, none⟩ = some (.string v) := b0.cell 1
  have q2 : w0.cell? ⟨w.heap.size, 2, none⟩ = some (.string s) := b0.cell 2
  have HB0 := Lib.hid hB0
  have HW : Hid (w.alloc (.cells #[.bool th, .string v, .string s] 23) = w0) := Lib.hid hw0
  show Calls _ _ #[_, _, .agg #[.bool th, .string v, .string s]] _ _
  have HN : Hid (may9 k th v s = false) := Lib.hid (may9_false (.inr (.inl hv)))
  have HR := Lib.hid (rt9_no (h := hF q) HN.out)
  rw [HN.out, HR.out]
  clear HN HR hw0 b0 hB0
  have f1 : ¬ (255 : Int) < (k.size : Int) := by omega
  have f2 : (255 : Int) < (v.size : Int) := by omega
  go_enter Try.func9, Try.ntmps9
  go_wp2_with (rw [HW.out])
  go_ret2
  exact ⟨rfl, HB0.out⟩
set_option maxRecDepth 100000 in
set_option maxHeartbeats 1000000 in
theorem rroot9_n (q : Nat) (k : ByteArray) (th : Bool) (v s : ByteArray) (hk : k.size ≤ 255) (hv : v.size ≤ 255) (hth : th = false) (hz : v.size ≠ 0) (w : World) :
    Calls Try.prog 9 #[.int .u8 q, .string k, .agg (ansA th v s)] w fun e w' => e = .returned (.tuple #[.string (rt9 (hF q) k th v s), .bool (may9 k th v s)]) ∧ Below w.heap.size w w' := by
  obtain ⟨w0, hw0⟩ : ∃ w0, w.alloc (.cells (ansA th v s) 23) = w0 := ⟨_, rfl⟩
  have b0 : Blk w0 w.heap.size 23 (ansA th v s) := by rw [← hw0]; exact Blk.new _ _ _
  have hB0 : Below w.heap.size w w0 := by rw [← hw0]; exact (Below.refl _ w).alloc (Nat.le_refl _) _
  have q0 : w0.cell? ⟨w.heap.size, 0, none⟩ = some (.bool th) := b0.cell 0
  have q1 : w0.cell? ⟨w.heap.size, 1, none⟩ = some (.string v) := b0.cell 1
  have q2 : w0.cell? ⟨w.heap.size, 2, none⟩ = some (.string s) := b0.cell 2
  have HB0 := Lib.hid hB0
  have HW : Hid (w.alloc (.cells #[.bool th, .string v, .string s] 23) = w0) := Lib.hid hw0
  show Calls _ _ #[_, _, .agg #[.bool th, .string v, .string s]] _ _
  have HN : Hid (may9 k th v s = false) := Lib.hid (may9_false (.inr (.inr ⟨hth, hz⟩)))
  have HR := Lib.hid (rt9_no (h := hF q) HN.out)
  rw [HN.out, HR.out]
  clear HN HR hw0 b0 hB0
  have f1 : ¬ (255 : Int) < (k.size : Int) := by omega
  have f2 : ¬ (255 : Int) < (v.size : Int) := by omega
  have f3 : (0 : Int) < (v.size : Int) := by omega
  subst hth
  go_enter Try.func9, Try.ntmps9
  go_wp2_with (rw [HW.out])
  go_ret2
  exact ⟨rfl, HB0.out⟩
set_option maxRecDepth 100000 in
set_option maxHeartbeats 1000000 in
theorem rroot9_s (q : Nat) (k : ByteArray) (th : Bool) (v s : ByteArray) (hk : k.size ≤ 255) (hv : v.size ≤ 255) (hz : th = true ∨ v.size = 0) (hs : s.size < 32) (w : World) :
    Calls Try.prog 9 #[.int .u8 q, .string k, .agg (ansA th v s)] w fun e w' => e = .returned (.tuple #[.string (rt9 (hF q) k th v s), .bool (may9 k th v s)]) ∧ Below w.heap.size w w' := by
  obtain ⟨w0, hw0⟩ : ∃ w0, w.alloc (.cells (ansA th v s) 23) = w0 := ⟨_, rfl⟩
  have b0 : Blk w0 w.heap.size 23 (ansA th v s) := by rw [← hw0]; exact Blk.new _ _ _
  have hB0 : Below w.heap.size w w0 := by rw [← hw0]; exact (Below.refl _ w).alloc (Nat.le_refl _) _
  have q0 : w0.cell? ⟨w.heap.size, 0, none⟩ = some (.bool th) := b0.cell 0
  have q1 : w0.cell? ⟨w.heap.size, 1, none⟩ = some (.string v) := b0.cell 1
  have q2 : w0.cell? ⟨w.heap.size, 2, none⟩ = some (.string s) := b0.cell 2
  have HB0 := Lib.hid hB0
  have HW : Hid (w.alloc (.cells #[.bool th, .string v, .string s] 23) = w0) := Lib.hid hw0
  show Calls _ _ #[_, _, .agg #[.bool th, .string v, .string s]] _ _
  have HN : Hid (may9 k th v s = false) := Lib.hid ((may9_wf hk hv hz).trans (wf9_off (by omega)))
  have HR := Lib.hid (rt9_no (h := hF q) HN.out)
  rw [HN.out, HR.out]
  clear HN HR hw0 b0 hB0
  have f1 : ¬ (255 : Int) < (k.size : Int) := by omega
  have f2 : ¬ (255 : Int) < (v.size : Int) := by omega
  have f4 : (s.size : Int) < 32 := by omega
  cases th
  · have hz0 : v.size = 0 := by rcases hz with h | h; cases h; exact h
    clear hz
    go_enter Try.func9, Try.ntmps9
    go_wp2_with (rw [HW.out])
    go_ret2
    exact ⟨rfl, HB0.out⟩
  · clear hz
    go_enter Try.func9, Try.ntmps9
    go_wp2_with (rw [HW.out])
    go_ret2
    exact ⟨rfl, HB0.out⟩
set_option maxRecDepth 100000 in
set_option maxHeartbeats 1000000 in
theorem rroot9_m (q : Nat) (k : ByteArray) (th : Bool) (v s : ByteArray) (hk : k.size ≤ 255) (hv : v.size ≤ 255) (hz : th = true ∨ v.size = 0) (hs : 32 ≤ s.size) (hm : s.size % 32 ≠ 0) (w : World) :
    Calls Try.prog 9 #[.int .u8 q, .string k, .agg (ansA th v s)] w fun e w' => e = .returned (.tuple #[.string (rt9 (hF q) k th v s), .bool (may9 k th v s)]) ∧ Below w.heap.size w w' := by
  obtain ⟨w0, hw0⟩ : ∃ w0, w.alloc (.cells (ansA th v s) 23) = w0 := ⟨_, rfl⟩
  have b0 : Blk w0 w.heap.size 23 (ansA th v s) := by rw [← hw0]; exact Blk.new _ _ _
  have hB0 : Below w.heap.size w w0 := by rw [← hw0]; exact (Below.refl _ w).alloc (Nat.le_refl _) _
  have q0 : w0.cell? ⟨w.heap.size, 0, none⟩ = some (.bool th) := b0.cell 0
  have q1 : w0.cell? ⟨w.heap.size, 1, none⟩ = some (.string v) := b0.cell 1
  have q2 : w0.cell? ⟨w.heap.size, 2, none⟩ = some (.string s) := b0.cell 2
  have HB0 := Lib.hid hB0
  have HW : Hid (w.alloc (.cells #[.bool th, .string v, .string s] 23) = w0) := Lib.hid hw0
  show Calls _ _ #[_, _, .agg #[.bool th, .string v, .string s]] _ _
  have HN : Hid (may9 k th v s = false) := Lib.hid ((may9_wf hk hv hz).trans (wf9_off (by omega)))
  have HR := Lib.hid (rt9_no (h := hF q) HN.out)
  rw [HN.out, HR.out]
  clear HN HR hw0 b0 hB0
  have f1 : ¬ (255 : Int) < (k.size : Int) := by omega
  have f2 : ¬ (255 : Int) < (v.size : Int) := by omega
  have f4 : ¬ (s.size : Int) < 32 := by omega
  have f5 : ¬ (s.size : Int) % 32 = 0 := by omega
  cases th
  · have hz0 : v.size = 0 := by rcases hz with h | h; cases h; exact h
    clear hz
    go_enter Try.func9, Try.ntmps9
    go_wp2_with (rw [HW.out])
    go_ret2
    exact ⟨rfl, HB0.out⟩
  · clear hz
    go_enter Try.func9, Try.ntmps9
    go_wp2_with (rw [HW.out])
    go_ret2
    exact ⟨rfl, HB0.out⟩
end Go.Proofs.Ytjdjndginacdnaa
