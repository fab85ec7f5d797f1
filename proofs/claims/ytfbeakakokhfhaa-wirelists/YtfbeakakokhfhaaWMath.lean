/-
  What is written is read as it was: in plain words.
-/
import Derived.Test.YtfbeakakokhfhaaWReadH
import Derived.Test.YtfbeakakokhfhaaWReadL
namespace Go.Proofs.Ytfbeakakokhfhaa

theorem ext_left (a b : ByteArray) : (a ++ b).extract 0 a.size = a := by
  apply ByteArray.ext
  rw [ByteArray.data_extract, ByteArray.data_append, Array.extract_append]
  simp
theorem ext_right (a b : ByteArray) : (a ++ b).extract a.size (a ++ b).size = b := by
  apply ByteArray.ext
  apply Array.toList_inj.1
  rw [ByteArray.data_extract, ByteArray.data_append, ByteArray.size_append, Array.toList_extract, Array.toList_append, List.extract_eq_drop_take']
  have h1 : a.size = a.data.toList.length := by simp
  have h2 : a.size + b.size = (a.data.toList ++ b.data.toList).length := by simp
  rw [h2, List.take_of_length_le (Nat.le_refl _), h1, List.drop_left]
theorem cut_left (a r : ByteArray) (n : Int) (hn : n = a.size) : cutF n (a ++ r) = a := by
  subst hn
  unfold cutF
  rw [if_pos (by rw [ByteArray.size_append]; omega), Int.toNat_natCast]
  exact ext_left a r
theorem cut_right (a r : ByteArray) (n : Int) (hn : n = a.size) : cutR n (a ++ r) = r := by
  subst hn
  unfold cutR
  rw [if_pos (by rw [ByteArray.size_append]; omega), Int.toNat_natCast]
  exact ext_right a r
theorem numV_num4 (n : Int) : numV (num4 n) = clip n := by
  unfold numV num4
  rw [nums_strN (by4_lt _)]
  have h := clip_le n
  generalize clip n = m at *
  simp [beV, by4]
  omega
theorem nF_num (n : Int) (r : ByteArray) : nF (num4 n ++ r) = clip n := by
  unfold nF
  rw [cut_left (num4 n) r 4 (by rw [num4_size]; rfl), numV_num4]
theorem rest_num (n : Int) (r : ByteArray) : cutR 4 (num4 n ++ r) = r := cut_right (num4 n) r 4 (by rw [num4_size]; rfl)
theorem clip_size {s : ByteArray} (h : s.size ≤ 2147483647) : clip (s.size : Int) = s.size := by rw [clip_in (by omega) (by omega)]; omega
theorem txF_txt (s r : ByteArray) (h : s.size ≤ 2147483647) : txF (txt s ++ r) = s := by
  unfold txF txt
  rw [ByteArray.append_assoc, rest_num]
  have := nF_num s.size (s ++ r)
  unfold nF at this
  rw [this, clip_size h]
  exact cut_left s r _ rfl
theorem txR_txt (s r : ByteArray) (h : s.size ≤ 2147483647) : txR (txt s ++ r) = r := by
  unfold txR txt
  rw [ByteArray.append_assoc, rest_num]
  have := nF_num s.size (s ++ r)
  unfold nF at this
  rw [this, clip_size h]
  exact cut_right s r _ rfl

/-- a request that is written, and read -/
theorem req_read (c q : Int) (l k v : ByteArray) (hl : l.size ≤ 2147483647) (hk : k.size ≤ 2147483647) (hv : v.size ≤ 2147483647) :
    rqC (reqB c q l k v) = clip c ∧ rqQ (reqB c q l k v) = clip q ∧ rqL (reqB c q l k v) = l ∧ rqK (reqB c q l k v) = k ∧ rqV (reqB c q l k v) = v := by
  have e0' : q0 (reqB c q l k v) = num4 c ++ (num4 q ++ (txt l ++ (txt k ++ txt v))) := by
    unfold q0 reqB
    rw [ByteArray.append_assoc, ByteArray.append_assoc, ByteArray.append_assoc, ByteArray.append_assoc]
    rw [cut_right _ _ 1 rfl]
  have e1' : q1 (reqB c q l k v) = num4 q ++ (txt l ++ (txt k ++ txt v)) := by unfold q1; rw [e0', rest_num]
  have e2' : q2 (reqB c q l k v) = txt l ++ (txt k ++ txt v) := by unfold q2; rw [e1', rest_num]
  have e3' : q3 (reqB c q l k v) = txt k ++ txt v := by unfold q3; rw [e2', txR_txt _ _ hl]
  have e4' : q4 (reqB c q l k v) = txt v ++ ⟨#[]⟩ := by unfold q4; rw [e3', txR_txt _ _ hk, append_empty]
  refine ⟨?_, ?_, ?_, ?_, ?_⟩
  · unfold rqC; rw [e0', nF_num]
  · unfold rqQ; rw [e1', nF_num]
  · unfold rqL; rw [e2', txF_txt _ _ hl]
  · unfold rqK; rw [e3', txF_txt _ _ hk]
  · unfold rqV; rw [e4', txF_txt _ _ hv]
theorem right_parts {c q : Int} {l k v : ByteArray} (h : rightB c q l k v = true) : 0 ≤ c ∧ c ≤ 3 ∧ 1 ≤ q ∧ q ≤ 2147483647 ∧ 1 ≤ l.size ∧ l.size ≤ 200 ∧ k.size ≤ 50 ∧ v.size ≤ 100 ∧ (k.size ≠ 0 ∨ v.size = 0) := of_decide_eq_true h
theorem rdReq_right {c q : Int} {l k v : ByteArray} (h : rightB c q l k v = true) : rdReq (reqB c q l k v) = #[.agg (reqV c q l k v), .int .i64 0] := by
  obtain ⟨h1, h2, h3, h4, h5, h6, h7, h8, h9⟩ := right_parts h
  obtain ⟨f1, f2, f3, f4, f5⟩ := req_read c q l k v (by omega) (by omega) (by omega)
  have c1 : ((clip c : Nat) : Int) = c := by rw [clip_in (by omega) (by omega)]; omega
  have c2 : ((clip q : Nat) : Int) = q := by rw [clip_in (by omega) (by omega)]; omega
  unfold rdReq okReq
  rw [f1, f2, f3, f4, f5, c1, c2, h]
  simp
theorem okReq_right {b : ByteArray} (h : okReq b = true) : rightB (rqC b) (rqQ b) (rqL b) (rqK b) (rqV b) = true ∧ reqB (rqC b) (rqQ b) (rqL b) (rqK b) (rqV b) = b := by
  unfold okReq at h
  simpa using h

/-- a head that is written, and read -/
theorem head_read (a b c : Int) (r m : ByteArray) (hr : r.size = 32) (hm : m.size = 32) :
    hdA (headB a b c r m) = clip a ∧ hdB (headB a b c r m) = clip b ∧ hdC (headB a b c r m) = clip c ∧ hdR (headB a b c r m) = r ∧ hdM (headB a b c r m) = m := by
  have e0' : e0 (headB a b c r m) = num4 a ++ (num4 b ++ (num4 c ++ (r ++ m))) := by
    unfold e0 headB
    rw [ByteArray.append_assoc, ByteArray.append_assoc, ByteArray.append_assoc, ByteArray.append_assoc]
    rw [cut_right _ _ 1 rfl]
  have e1' : e1 (headB a b c r m) = num4 b ++ (num4 c ++ (r ++ m)) := by unfold e1; rw [e0', rest_num]
  have e2' : e2 (headB a b c r m) = num4 c ++ (r ++ m) := by unfold e2; rw [e1', rest_num]
  have e3' : e3 (headB a b c r m) = r ++ m := by unfold e3; rw [e2', rest_num]
  have e4' : e4 (headB a b c r m) = m ++ ⟨#[]⟩ := by unfold e4; rw [e3', cut_right _ _ 32 (by rw [hr]; rfl), append_empty]
  refine ⟨?_, ?_, ?_, ?_, ?_⟩
  · unfold hdA; rw [e0', nF_num]
  · unfold hdB; rw [e1', nF_num]
  · unfold hdC; rw [e2', nF_num]
  · unfold hdR; rw [e3', cut_left _ _ 32 (by rw [hr]; rfl)]
  · unfold hdM; rw [e4', cut_left _ _ 32 (by rw [hm]; rfl)]
theorem rhead_parts {a b c : Int} {r m : ByteArray} (h : rheadB a b c r m = true) : 0 ≤ a ∧ a ≤ 2147483647 ∧ 0 ≤ b ∧ b ≤ 2147483647 ∧ 0 ≤ c ∧ c ≤ 2147483647 ∧ r.size = 32 ∧ m.size = 32 := of_decide_eq_true h
theorem rdHead_right {a b c : Int} {r m : ByteArray} (h : rheadB a b c r m = true) : rdHead (headB a b c r m) = #[.agg (headV a b c r m), .int .i64 0] := by
  obtain ⟨h1, h2, h3, h4, h5, h6, h7, h8⟩ := rhead_parts h
  obtain ⟨f1, f2, f3, f4, f5⟩ := head_read a b c r m h7 h8
  have c1 : ((clip a : Nat) : Int) = a := by rw [clip_in (by omega) (by omega)]; omega
  have c2 : ((clip b : Nat) : Int) = b := by rw [clip_in (by omega) (by omega)]; omega
  have c3 : ((clip c : Nat) : Int) = c := by rw [clip_in (by omega) (by omega)]; omega
  unfold rdHead okHead
  rw [f1, f2, f3, f4, f5, c1, c2, c3]
  simp [h7, h8]
theorem okHead_right {b : ByteArray} (h : okHead b = true) : rheadB (hdA b) (hdB b) (hdC b) (hdR b) (hdM b) = true ∧ headB (hdA b) (hdB b) (hdC b) (hdR b) (hdM b) = b := by
  unfold okHead at h
  simp only [Bool.and_eq_true, decide_eq_true_eq] at h
  obtain ⟨⟨hr, hm⟩, hb⟩ := h
  obtain ⟨f1, f2, f3, _, _⟩ := head_read (hdA b) (hdB b) (hdC b) (hdR b) (hdM b) hr hm
  rw [hb] at f1 f2 f3
  have g1 := clip_le (hdA b); have g2 := clip_le (hdB b); have g3 := clip_le (hdC b)
  refine ⟨?_, hb⟩
  unfold rheadB
  rw [decide_eq_true_iff]
  omega

/-- a list that is written, and read -/
theorem rest_txts (ss : List ByteArray) (h : ∀ s ∈ ss, s.size ≤ 2147483647) : ∀ k, k ≤ ss.length → restT k (txts ss) = txts (ss.drop k) ∧ rdT k (txts ss) = ss.take k
  | 0, _ => ⟨rfl, rfl⟩
  | k + 1, hk => by
    obtain ⟨h1, h2⟩ := rest_txts ss h k (by omega)
    have hd : ss.drop k = ss[k] :: ss.drop (k + 1) := List.drop_eq_getElem_cons (by omega)
    have hs := h ss[k] (List.getElem_mem _)
    refine ⟨?_, ?_⟩
    · show txR (restT k (txts ss)) = _
      rw [h1, hd]
      exact txR_txt _ _ hs
    · show rdT k (txts ss) ++ [txF (restT k (txts ss))] = _
      rw [h1, h2, hd, List.take_succ_eq_append_getElem (by omega)]
      congr 2
      exact txF_txt _ _ hs
theorem list_read (ss : List ByteArray) (h : ∀ s ∈ ss, s.size ≤ 2147483647) (hn : ss.length ≤ 2147483647) : lsN (listB ss) = ss.length ∧ lsT (listB ss) = ss := by
  have e0' : cutR 1 (listB ss) = num4 ss.length ++ txts ss := by
    unfold listB
    rw [ByteArray.append_assoc, cut_right _ _ 1 rfl]
  have hN : lsN (listB ss) = ss.length := by
    unfold lsN
    rw [e0', nF_num, clip_in (by omega) (by omega)]
    omega
  have hS : lsS (listB ss) = txts ss := by unfold lsS; rw [e0', rest_num]
  refine ⟨hN, ?_⟩
  unfold lsT
  rw [hN, hS, (rest_txts ss h ss.length (Nat.le_refl _)).2, List.take_of_length_le (Nat.le_refl _)]
theorem okList_written (ss : List ByteArray) (h : ∀ s ∈ ss, s.size ≤ 2147483647) (hn : ss.length ≤ 2147483647) : okList (listB ss) = decide (ss.length ≤ 1000) := by
  obtain ⟨h1, h2⟩ := list_read ss h hn
  unfold okList
  rw [h1, h2]
  simp
end Go.Proofs.Ytfbeakakokhfhaa
