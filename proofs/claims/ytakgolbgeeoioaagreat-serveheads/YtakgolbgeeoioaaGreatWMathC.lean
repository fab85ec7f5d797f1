/-
 What is written is read as it was: numbers, in plain words.
-/
import Derived.Test.YtakgolbgeeoioaaGreatWReadC
namespace Go.Proofs.YtakgolbgeeoioaaGreat

theorem ext_left (a b : ByteArray) : (a ++ b).extract 0 a.size = a := by
 apply ByteArray.ext
 rw [ByteArray.data_extract, ByteArray.data_append, Array.extract_append]
 simp
theorem ext_right (a b : ByteArray) : (a ++ b).extract a.size (a ++ b).size = b := by
 apply ByteArray.ext
 apply Array.toList_inj.1
 rw [ByteArray.data_extract, ByteArray.data_append, ByteArray.size_append, Array.toList_extract, Array.toList_append, List.extract_eq_drop_take']
 have h1 : a.size = a.data.toList.length := by simp
 have h2 : a.size + b.size = (a.data.toList ++ b.data.toList).length := by simp
 rw [h2, List.take_of_length_le (Nat.le_refl _), h1, List.drop_left]
theorem cut_left (a r : ByteArray) (n : Int) (hn : n = a.size) : cutF n (a ++ r) = a := by
 subst hn
 unfold cutF
 rw [if_pos (by rw [ByteArray.size_append]; omega), Int.toNat_natCast]
 exact ext_left a r
theorem cut_right (a r : ByteArray) (n : Int) (hn : n = a.size) : cutR n (a ++ r) = r := by
 subst hn
 unfold cutR
 rw [if_pos (by rw [ByteArray.size_append]; omega), Int.toNat_natCast]
 exact ext_right a r
theorem numV_num4 (n : Int) : numV (num4 n) = clip n := by
 unfold numV num4
 rw [nums_strN (by4_lt _)]
 have h := clip_le n
 generalize clip n = m at *
 simp [beV, by4]
 omega
theorem nF_num (n : Int) (r : ByteArray) : nF (num4 n ++ r) = clip n := by
 unfold nF
 rw [cut_left (num4 n) r 4 (by rw [num4_size]; rfl), numV_num4]
theorem rest_num (n : Int) (r : ByteArray) : cutR 4 (num4 n ++ r) = r := cut_right (num4 n) r 4 (by rw [num4_size]; rfl)
theorem clip_size {s : ByteArray} (h : s.size ≤ 2147483647) : clip (s.size : Int) = s.size := by rw [clip_in (by omega) (by omega)]; omega
end Go.Proofs.YtakgolbgeeoioaaGreat
