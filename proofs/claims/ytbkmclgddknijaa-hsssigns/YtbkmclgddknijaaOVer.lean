/-
  Verify: the program's.
-/
import Derived.Test.YtbkmclgddknijaaOSign
import Derived.Test.YtbkmclgddknijaaWBe
namespace Go.Proofs.Ytbkmclgddknijaa
open Go.RowKit

theorem nums_ext (s : ByteArray) (i j : Nat) : nums (s.extract i j) = ((nums s).drop i).take (j - i) := by
  unfold nums
  rw [ByteArray.data_extract, Array.toList_extract, List.extract_eq_take_drop, List.map_take, List.map_drop]
theorem front_eq (s : ByteArray) (h : 4 ≤ s.size) : beV (nums (s.extract 0 4)) = frontB s := by
  rw [nums_ext, List.drop_zero]
  unfold frontB
  have hl : 4 ≤ (nums s).length := by rw [nums_length]; exact h
  generalize nums s = l at *
  match l, hl with
  | a :: b :: c :: d :: r, _ =>
    simp only [beV, List.take_succ_cons, List.take_zero, List.foldl_cons, List.foldl_nil, List.getD_cons_zero, List.getD_cons_succ]
    omega
theorem frontB_lt (s : ByteArray) : frontB s < 4294967296 := by
  have h : ∀ i, (nums s).getD i 0 < 256 := fun i => by
    rw [List.getD_eq_getElem?_getD]
    cases e : (nums s)[i]? with
    | none => simp
    | some x => simpa using nums_lt s x (List.mem_of_getElem? e)
  have h0 := h 0; have h1 := h 1; have h2 := h 2; have h3 := h 3
  unfold frontB
  omega

set_option maxRecDepth 100000 in
set_option maxHeartbeats 1000000 in
theorem onumber_any (x : ByteArray) (h4 : x.size = 4) (w : World) :
    Calls Try.prog 37 #[.string x] w fun e w' => e = .returned (.int .i64 (beV (nums x) : Nat)) ∧ Below w.heap.size w w' := by
  obtain ⟨w2, cap, hrun, hrow, hB2⟩ := run_bytes_brow (P := Try.prog) w 9 41 5 x Try.underlying9 Try.underlying41 Try.underlying5
  have HN := Lib.hid (nums_length x)
  have hx4 : x.size ≤ 4 := by omega
  obtain ⟨V0, hV0⟩ : ∃ V0, beV (nums x) = V0 := ⟨_, rfl⟩
  rw [hV0]
  have HV0 := Lib.hid hV0
  clear hV0
  have HR := Lib.hid hrow
  have HB := Lib.hid hB2
  obtain ⟨gb, hgb⟩ : ∃ gb, w.heap.size = gb := ⟨_, rfl⟩
  rw [hgb] at HR hrun
  clear hrow hB2 hgb h4
  go_enter Try.func37, Try.ntmps37
  go_wp2
  clear hrun
  go_loop [3, 9] (fun t i => ∃ k : Nat, k ≤ x.size ∧ i = .int .i64 k ∧ t = .int .i64 (beV ((nums x).take k) : Nat)) (fun _ i => x.size - (intOf i).toNat)
  case atStart => exact ⟨0, by omega, rfl, rfl⟩
  case round =>
    obtain ⟨k, hk, rfl, rfl⟩ := hrel
    by_cases hlt : k < x.size
    · have hlt' : (k : Int) < (x.size : Int) := by omega
      have hv := beV_take_lt x k (by omega)
      have hcell := HR.out.cells k (by rw [HN.out]; exact hlt)
      have HT := Lib.hid (show beV ((nums x).take (k + 1)) = beV ((nums x).take k) * 256 + (nums x).getD k 0 by
        rw [List.take_succ_eq_append_getElem (by rw [HN.out]; exact hlt), beV_snoc]
        congr 1
        rw [List.getD_eq_getElem?_getD, List.getElem?_eq_getElem (by rw [HN.out]; exact hlt)]
        rfl)
      have hb : (nums x).getD k 0 < 256 := by
        rw [List.getD_eq_getElem?_getD, List.getElem?_eq_getElem (by rw [HN.out]; exact hlt)]
        exact nums_lt x _ (List.getElem_mem _)
      unfold U8 at hcell
      generalize (nums x).getD k 0 = b at *
      obtain ⟨V, hV⟩ : ∃ V, beV ((nums x).take k) = V := ⟨_, rfl⟩
      rw [hV] at hv HT ⊢
      clear hV
      have HO := Lib.hid (or_low V b hv hb)
      go_wp2
      go_round
      case rel => exact ⟨k + 1, by omega, by go_num, by rw [HO.out, HT.out]⟩
      case measure => simp [intOf]; omega
    · have hkx : k = x.size := by omega
      have HF := Lib.hid (show beV ((nums x).take k) = V0 by
        rw [List.take_of_length_le (by rw [HN.out]; omega), HV0.out])
      rw [HF.out]
      subst hkx
      go_wp2
      go_ret
      exact ⟨rfl, HB.out⟩

def txtLen : Value → Nat
  | .string s => s.size
  | _ => 0
theorem ext_ext (t : ByteArray) (i a b : Nat) (h : i + b ≤ t.size) : (t.extract i t.size).extract a b = t.extract (i + a) (i + b) := by
  rw [ByteArray.extract_extract, Nat.min_eq_left h]
theorem ext_size (t : ByteArray) (i j : Nat) (h : j ≤ t.size) : (t.extract i j).size = j - i := by
  rw [ByteArray.size_extract, Nat.min_eq_left h]
set_option maxRecDepth 100000 in
set_option maxHeartbeats 1000000 in
theorem split_any (t : ByteArray) (n : Nat) (ht : t.size = 32 * n) (hn : n ≤ 1000) (w : World) :
    Calls Try.prog 38 #[.string t] w (RT (fstN (fun i => t.extract (32 * i) (32 * i + 32)) n) w) := by
  have HRT := Lib.hid (show ∀ e w', RT (fstN (fun i => t.extract (32 * i) (32 * i + 32)) n) w e w' = ∃ v, e = .returned v ∧ Own w' w.heap.size v (fstN (fun i => t.extract (32 * i) (32 * i + 32)) n) ∧ Below w.heap.size w w' from fun _ _ => rfl)
  have HF0 := Lib.hid (show fstN (fun i => t.extract (32 * i) (32 * i + 32)) 0 = [] from rfl)
  have HFS := Lib.hid (show ∀ k, fstN (fun i => t.extract (32 * i) (32 * i + 32)) (k + 1) = fstN (fun i => t.extract (32 * i) (32 * i + 32)) k ++ [t.extract (32 * k) (32 * k + 32)] from fun k => fstN_succ _ k)
  have HFL := Lib.hid (show ∀ k, (fstN (fun i => t.extract (32 * i) (32 * i + 32)) k).length = k from fun k => fstN_length _ k)
  generalize RT (fstN (fun i => t.extract (32 * i) (32 * i + 32)) n) w = PO at *
  generalize fstN (fun i => t.extract (32 * i) (32 * i + 32)) = F at *
  have ht0 : t = t.extract (32 * 0) t.size := by
    apply ByteArray.ext
    rw [ByteArray.data_extract, Nat.mul_zero]
    exact Array.extract_size.symm
  have HT0 := Lib.hid ht0
  have HTS := Lib.hid ht
  clear ht0 ht
  go_enter Try.func38, Try.ntmps38
  go_wp2
  go_loopw [0, 3] (fun b v wr => ∃ k : Nat, k ≤ n ∧ b = .string (t.extract (32 * k) t.size) ∧ Own wr w.heap.size v (F k) ∧ Below w.heap.size w wr) (fun b _ _ => txtLen b)
  case atStart => exact ⟨0, by omega, by rw [← HT0.out], by rw [HF0.out]; exact own_nil _ _, Below.refl _ _⟩
  case round =>
    obtain ⟨k, hk, rfl, hown, hB⟩ := hrel
    have hsz : (t.extract (32 * k) t.size).size = 32 * (n - k) := by rw [ext_size _ _ _ (Nat.le_refl _), HTS.out]; omega
    by_cases hlt : k < n
    · have HE1 := Lib.hid (show (t.extract (32 * k) t.size).extract 0 32 = t.extract (32 * k) (32 * k + 32) by rw [ext_ext _ _ _ _ (by rw [HTS.out]; omega), Nat.add_zero])
      have HE2 := Lib.hid (show (t.extract (32 * k) t.size).extract 32 (t.extract (32 * k) t.size).size = t.extract (32 * (k + 1)) t.size by
        rw [hsz, ext_ext _ _ _ _ (by rw [HTS.out]; omega), HTS.out]
        congr 1 <;> omega)
      have HFK := Lib.hid (HFS.out k)
      have HFKL := Lib.hid (HFL.out k)
      have hlen : (F k).length ≤ 1073741824 := by rw [HFL.out]; omega
      have HX2 := Lib.hid (show (t.extract (32 * (k + 1)) t.size).size + 32 = (t.extract (32 * k) t.size).size by rw [hsz, ext_size _ _ _ (Nat.le_refl _), HTS.out]; omega)
      obtain ⟨X, hX⟩ : ∃ X, t.extract (32 * k) t.size = X := ⟨_, rfl⟩
      rw [hX] at hsz HE1 HE2 HX2 ⊢
      have h32 : (32 : Int) ≤ (X.size : Int) := by omega
      have hxm : X.size ≤ 1000000 := by omega
      obtain ⟨Y, hY⟩ : ∃ Y, X.extract 0 32 = Y := ⟨_, rfl⟩
      rw [hY] at HE1
      rw [← HE1.out] at HFK
      clear hX hsz
      go_wp2_with (at_builtin; refine wpList_append_txt rfl _ _ rfl w.heap.size u3 (F k) rfl hown Y (by rw [← hY]; rfl) hlen hB.size ?_)
      intro g5 c5 w5 hown5 hg5
      rw [HFKL.out, ← HFK.out] at hown5
      have hB5 := hB.grown hg5 hB.size (fun z hz => (World.ownsRow.lt hown z hz).1)
      clear hown hB hg5
      rw [HFKL.out]
      go_wp2
      go_roundw
      case rel => exact ⟨k + 1, by omega, by rw [← HE2.out], hown5, hB5⟩
      case measure => simp only [txtLen, HE2.out]; have := HX2.out; omega
    · obtain rfl : k = n := by omega
      have h32 : ¬ (32 : Int) ≤ ((t.extract (32 * k) t.size).size : Int) := by omega
      clear hlt hk hsz
      generalize t.extract (32 * k) t.size = X at *
      go_wp2
      rw [HRT.out]
      exact ⟨_, rfl, hown, hB⟩
end Go.Proofs.Ytbkmclgddknijaa
