/-
 What is written is read as it was: heads, in plain words.
-/
import Derived.Test.YtakgolbgeeoioaaGreatWReadH
import Derived.Test.YtakgolbgeeoioaaGreatWMathC
namespace Go.Proofs.YtakgolbgeeoioaaGreat

/-- a head that is written, and read -/
theorem head_read (a b c : Int) (r m : ByteArray) (hr : r.size = 32) (hm : m.size = 32) :
 hdA (headB a b c r m) = clip a ∧ hdB (headB a b c r m) = clip b ∧ hdC (headB a b c r m) = clip c ∧ hdR (headB a b c r m) = r ∧ hdM (headB a b c r m) = m := by
 have e0' : e0 (headB a b c r m) = num4 a ++ (num4 b ++ (num4 c ++ (r ++ m))) := by
  unfold e0 headB
  rw [ByteArray.append_assoc, ByteArray.append_assoc, ByteArray.append_assoc, ByteArray.append_assoc]
  rw [cut_right _ _ 1 rfl]
 have e1' : e1 (headB a b c r m) = num4 b ++ (num4 c ++ (r ++ m)) := by unfold e1; rw [e0', rest_num]
 have e2' : e2 (headB a b c r m) = num4 c ++ (r ++ m) := by unfold e2; rw [e1', rest_num]
 have e3' : e3 (headB a b c r m) = r ++ m := by unfold e3; rw [e2', rest_num]
 have e4' : e4 (headB a b c r m) = m ++ ⟨#[]⟩ := by unfold e4; rw [e3', cut_right _ _ 32 (by rw [hr]; rfl), append_empty]
 refine ⟨?_, ?_, ?_, ?_, ?_⟩
 · unfold hdA; rw [e0', nF_num]
 · unfold hdB; rw [e1', nF_num]
 · unfold hdC; rw [e2', nF_num]
 · unfold hdR; rw [e3', cut_left _ _ 32 (by rw [hr]; rfl)]
 · unfold hdM; rw [e4', cut_left _ _ 32 (by rw [hm]; rfl)]
theorem rhead_parts {a b c : Int} {r m : ByteArray} (h : rheadB a b c r m = true) : 0 ≤ a ∧ a ≤ 2147483647 ∧ 0 ≤ b ∧ b ≤ 2147483647 ∧ 0 ≤ c ∧ c ≤ 2147483647 ∧ r.size = 32 ∧ m.size = 32 := of_decide_eq_true h
theorem rdHead_right {a b c : Int} {r m : ByteArray} (h : rheadB a b c r m = true) : rdHead (headB a b c r m) = #[.agg (headV a b c r m), .int .i64 0] := by
 obtain ⟨h1, h2, h3, h4, h5, h6, h7, h8⟩ := rhead_parts h
 obtain ⟨f1, f2, f3, f4, f5⟩ := head_read a b c r m h7 h8
 have c1 : ((clip a : Nat) : Int) = a := by rw [clip_in (by omega) (by omega)]; omega
 have c2 : ((clip b : Nat) : Int) = b := by rw [clip_in (by omega) (by omega)]; omega
 have c3 : ((clip c : Nat) : Int) = c := by rw [clip_in (by omega) (by omega)]; omega
 unfold rdHead okHead
 rw [f1, f2, f3, f4, f5, c1, c2, c3]
 simp [h7, h8]
theorem okHead_right {b : ByteArray} (h : okHead b = true) : rheadB (hdA b) (hdB b) (hdC b) (hdR b) (hdM b) = true ∧ headB (hdA b) (hdB b) (hdC b) (hdR b) (hdM b) = b := by
 unfold okHead at h
 simp only [Bool.and_eq_true, decide_eq_true_eq] at h
 obtain ⟨⟨hr, hm⟩, hb⟩ := h
 obtain ⟨f1, f2, f3, _, _⟩ := head_read (hdA b) (hdB b) (hdC b) (hdR b) (hdM b) hr hm
 rw [hb] at f1 f2 f3
 have g1 := clip_le (hdA b); have g2 := clip_le (hdB b); have g3 := clip_le (hdC b)
 refine ⟨?_, hb⟩
 unfold rheadB
 rw [decide_eq_true_iff]
 omega
end Go.Proofs.YtakgolbgeeoioaaGreat
