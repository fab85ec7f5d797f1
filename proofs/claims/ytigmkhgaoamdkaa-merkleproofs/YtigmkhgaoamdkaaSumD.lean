/-
  A digest's Sum: the thirty-two bytes of all that was written; the digest stays as it was.
-/
import Derived.Test.YtigmkhgaoamdkaaPad
namespace Go.Proofs.Ytigmkhgaoamdkaa
open Go.RowKit

/-- the digest of the bytes m, as numbers -/
def dgst (m : List Nat) : List Nat := (hstN (padMsg m) ((padMsg m).length / 64)).flatMap by4
/-- the digest as a string -/
def SHA (m : List Nat) : ByteArray := strN (dgst m)
theorem flat_len (l : List Nat) : (l.flatMap by4).length = 4 * l.length := by
  induction l with
  | nil => rfl
  | cons x r ih => rw [List.flatMap_cons, List.length_append, ih, List.length_cons]; simp [by4]; omega
theorem dgst_length (m : List Nat) : (dgst m).length = 32 := by unfold dgst; rw [flat_len, hstN_length]
theorem dgst_lt (m : List Nat) : ∀ y ∈ dgst m, y < 256 := by
  intro y hy
  unfold dgst at hy
  obtain ⟨x, _, hx⟩ := List.mem_flatMap.1 hy
  exact by4_lt x y hx
theorem SHA_size (m : List Nat) : (SHA m).size = 32 := by unfold SHA; rw [strN_size, dgst_length]
theorem nums_SHA (m : List Nat) : nums (SHA m) = dgst m := nums_strN (dgst_lt m)
theorem flat_take (l : List Nat) (k : Nat) (h : k < l.length) : (l.take (k + 1)).flatMap by4 = (l.take k).flatMap by4 ++ by4 (l.getD k 0) := by
  rw [List.take_succ_eq_append_getElem h, List.flatMap_append]
  simp [List.getD_eq_getElem?_getD, List.getElem?_eq_getElem h]

theorem by4_vals (x : Nat) (hx : x < 4294967296) : (by4 x).map U8 = [.int .u8 ((x : Int) / 16777216), .int .u8 ((x : Int) / 65536 % 256), .int .u8 ((x : Int) / 256 % 256), .int .u8 ((x : Int) % 256)] := by
  have e : x / 16777216 % 256 = x / 16777216 := by omega
  simp [by4, U8, e]
theorem idx8_0 (a b c d e f g h : Nat) (W : World) : (Instr.index 28 (.agg #[U32 a, U32 b, U32 c, U32 d, U32 e, U32 f, U32 g, U32 h]) (.int .i64 0)).run Try.prog W = .ok (.int .u32 (a : Int)) W := by kernel_rfl
theorem idx8_1 (a b c d e f g h : Nat) (W : World) : (Instr.index 28 (.agg #[U32 a, U32 b, U32 c, U32 d, U32 e, U32 f, U32 g, U32 h]) (.int .i64 1)).run Try.prog W = .ok (.int .u32 (b : Int)) W := by kernel_rfl
theorem idx8_2 (a b c d e f g h : Nat) (W : World) : (Instr.index 28 (.agg #[U32 a, U32 b, U32 c, U32 d, U32 e, U32 f, U32 g, U32 h]) (.int .i64 2)).run Try.prog W = .ok (.int .u32 (c : Int)) W := by kernel_rfl
theorem idx8_3 (a b c d e f g h : Nat) (W : World) : (Instr.index 28 (.agg #[U32 a, U32 b, U32 c, U32 d, U32 e, U32 f, U32 g, U32 h]) (.int .i64 3)).run Try.prog W = .ok (.int .u32 (d : Int)) W := by kernel_rfl
theorem idx8_4 (a b c d e f g h : Nat) (W : World) : (Instr.index 28 (.agg #[U32 a, U32 b, U32 c, U32 d, U32 e, U32 f, U32 g, U32 h]) (.int .i64 4)).run Try.prog W = .ok (.int .u32 (e : Int)) W := by kernel_rfl
theorem idx8_5 (a b c d e f g h : Nat) (W : World) : (Instr.index 28 (.agg #[U32 a, U32 b, U32 c, U32 d, U32 e, U32 f, U32 g, U32 h]) (.int .i64 5)).run Try.prog W = .ok (.int .u32 (f : Int)) W := by kernel_rfl
theorem idx8_6 (a b c d e f g h : Nat) (W : World) : (Instr.index 28 (.agg #[U32 a, U32 b, U32 c, U32 d, U32 e, U32 f, U32 g, U32 h]) (.int .i64 6)).run Try.prog W = .ok (.int .u32 (g : Int)) W := by kernel_rfl
theorem idx8_7 (a b c d e f g h : Nat) (W : World) : (Instr.index 28 (.agg #[U32 a, U32 b, U32 c, U32 d, U32 e, U32 f, U32 g, U32 h]) (.int .i64 7)).run Try.prog W = .ok (.int .u32 (h : Int)) W := by kernel_rfl
theorem idx8 (l : List Nat) (h8 : l.length = 8) (k : Nat) (hk : k < 8) (W : World) : (Instr.index 28 (.agg (l.map U32).toArray) (.int .i64 (k : Int))).run Try.prog W = .ok (.int .u32 ((l.getD k 0 : Nat) : Int)) W := by
  obtain ⟨a, b, c, d, e, f, g, h, rfl⟩ : ∃ a b c d e f g h, l = [a, b, c, d, e, f, g, h] := by
    match l, h8 with
    | [a, b, c, d, e, f, g, h], _ => exact ⟨a, b, c, d, e, f, g, h, rfl⟩
  rcases k with _ | _ | _ | _ | _ | _ | _ | _ | k
  · exact idx8_0 a b c d e f g h W
  · exact idx8_1 a b c d e f g h W
  · exact idx8_2 a b c d e f g h W
  · exact idx8_3 a b c d e f g h W
  · exact idx8_4 a b c d e f g h W
  · exact idx8_5 a b c d e f g h W
  · exact idx8_6 a b c d e f g h W
  · exact idx8_7 a b c d e f g h W
  · omega
def zDig : Array Value := digA (List.replicate 8 0) (List.replicate 64 0) 0
def zK : Array Value := (List.replicate 72 (U32 0) ++ (List.replicate 64 (U8 0) ++ [U64' 0])).toArray
theorem zK_run (w : World) : (zeroValue 89).run Try.prog w = .ok (.agg zK) w := by kernel_rfl
theorem zK_size : zK.size = 137 := by kernel_rfl
theorem infoDig : (Try.prog.info? 89).map (·.size) = some 137 := by kernel_rfl
theorem digA_one (hl bs : List Nat) (n : Nat) : (digA hl bs n).all (·.oneCell') = true := by
  rw [Array.all_eq_true_iff_forall_mem]
  intro v hv
  simp only [digA, digL, List.mem_toArray, List.mem_append, List.mem_map, List.mem_singleton] at hv
  rcases hv with ⟨x, _, rfl⟩ | ⟨x, _, rfl⟩ | ⟨x, _, rfl⟩ | rfl <;> rfl
theorem Dig.blk {w : World} {g : Nat} {m : List Nat} (h : Dig w g m) : ∃ D : Array Value, D.size = 137 ∧ D.all (·.oneCell') = true ∧ Blk w g 89 D ∧ ∀ (w' : World) (g' : Nat), Blk w' g' 89 D → Dig w' g' m := by
  obtain ⟨bs, h1, h2, h3, hb⟩ := h
  exact ⟨_, digA_size (hstN_length _ _) h1, digA_one _ _ _, hb, fun w' g' h' => ⟨bs, h1, h2, h3, h'⟩⟩
theorem four_new (w : World) (a b c d : Value) (t : TypeId) : ∀ j u, [a, b, c, d][j]? = some u → (w.alloc (.cells #[a, b, c, d] t)).cell? ((⟨w.heap.size, 0, none⟩ : Addr).add j) = some u := by
  intro j u hu
  have e : (⟨w.heap.size, 0, none⟩ : Addr).add j = ⟨w.heap.size, j, none⟩ := by unfold Addr.add; split <;> simp_all
  rw [e, (Blk.new w t #[a, b, c, d]).cell]
  simpa using hu

set_option maxRecDepth 100000 in
set_option maxHeartbeats 1000000 in
theorem dsum_any (g : Nat) (m : List Nat) (hn : m.length ≤ 72057594037927936) (w : World) (hd : Dig w g m) :
    Calls Try.prog 46 #[.pointer (some ⟨g, 0, none⟩)] w fun e w' => e = .returned (.string (SHA m)) ∧ Below w.heap.size w w' := by
  obtain ⟨D, hs, h1, hb, hD⟩ := hd.blk
  have hz := zK_run
  have HI := Lib.hid (show (Try.prog.info? 89).map (·.size) = some D.size by rw [hs]; exact infoDig)
  have HO := Lib.hid (show zK.size = D.size by rw [hs]; exact zK_size)
  have H1 := Lib.hid h1
  have HD := Lib.hid hD
  clear hs h1 hD
  go_enter Try.func46, Try.ntmps46
  go_wp2_with (first
    | (refine wpList_load_row rfl 89 _ rfl g rfl 89 D (0, 0) _ hb Try.underlying89 rfl HI.out ?_)
    | (refine wpList_store_row rfl 89 _ _ rfl w.heap.size D rfl rfl 89 zK (Blk.new _ _ _) HI.out HO.out H1.out ?_))
  rw [World.setRow_alloc_new]
  obtain ⟨w2, hw2⟩ : ∃ w2, w.alloc (Obj.cells D 89) = w2 := ⟨_, rfl⟩
  rw [hw2]
  have hd2 : Dig w2 w.heap.size m := by rw [← hw2]; exact HD.out _ _ (Blk.new _ _ _)
  have hB2 : Below w.heap.size w w2 := by rw [← hw2]; exact (Below.refl _ w).alloc (Nat.le_refl _) _
  have hs2 : w.heap.size < w2.heap.size := hd2.lt
  clear hw2 hz
  refine (pad_any w.heap.size m hn _ hd2).mono ?_
  rintro e w3 ⟨rfl, hd3, hg3⟩
  have hB3 : Below w.heap.size w w3 := hB2.grown hg3 (by omega) (fun k hk => by injection hk; omega)
  have hs3 := hg3.size
  obtain ⟨bs, q1, q2, q3, hb3⟩ := hd3
  have hDG : Hid (dgst m = (hstN (padMsg m) ((padMsg m).length / 64)).flatMap by4) := Lib.hid rfl
  have h8 := hstN_length (padMsg m) ((padMsg m).length / 64)
  have hlt := hstN_lt (padMsg m) ((padMsg m).length / 64)
  generalize hstN (padMsg m) ((padMsg m).length / 64) = hl at *
  have hr := range_h h8 hb3
  have hlen : (hl.map U32).length = 8 := by rw [List.length_map]; exact h8
  have HI8 := Lib.hid (show (Try.prog.info? 28).map (·.size) = some (hl.map U32).length by rw [hlen]; exact info8w)
  have HX := Lib.hid (fun k hk W => idx8 hl h8 k hk W)
  have H8 := Lib.hid h8
  have HL := Lib.hid hlt
  clear h8 hlt hlen q1 q2 q3
  obtain ⟨i0, hi0, hz0, hz1, hz2⟩ := info_parts byteInfo
  clear hr
  go_wp2_with (first
    | (refine wpList_make_own _ rfl _ _ 81 rfl w.heap.size 5 i0 _ 1 Try.underlying81 hi0 hz0 hz1 .i64 .i64 32 32 rfl rfl rfl (by rw [hz2]; omega) (by unfold maxLen; omega) hB3.size ?_; intro w4 hown4 hg4; have hr4 := range_h H8.out (hb3.grown hg4 (by simp)))
    | (refine wpList_load_mid rfl 28 _ rfl w.heap.size 64 rfl (hl.map U32) _ hr4 Try.underlying28 rfl HI8.out ?_))
  have hB4 : Below w.heap.size w w4 := hB3.grown hg4 (by omega) (by simp)
  have hge : w.heap.size ≤ w3.heap.size := hB3.size
  clear hr4 hb3 hB3 hg4 hg3 hs3 hd2 hB2
  generalize w3.heap.size = ge at *
  go_loopw [4, 14] (fun v i wr => ∃ k : Nat, k ≤ 8 ∧ i = .int .i64 k ∧ v = .slice (some ⟨ge, 0, none⟩) (4 * k) 32 ∧ wr.ownsRow w.heap.size 5 1 (.slice (some ⟨ge, 0, none⟩) (4 * k) 32) (4 * k) (((hl.take k).flatMap by4).map U8) ∧ Below w.heap.size w wr)
    (fun _ i _ => 8 - (intOf i).toNat)
  case atStart => exact ⟨0, by omega, rfl, rfl, by simpa using hown4, hB4⟩
  case round =>
    clear hown4 hB4
    obtain ⟨k, hk, rfl, rfl, hown, hBk⟩ := hrel
    by_cases hlt : k < 8
    · have hlt' : (k : Int) < 8 := by omega
      have hix := fun W => HX.out k hlt W
      have hx := getD_lt HL.out (by decide) k
      have HF := Lib.hid (flat_take hl k (by rw [H8.out]; exact hlt))
      generalize hl.getD k 0 = x at *
      go_wp2_with (at_builtin; refine wpList_append_fits _ rfl (.tmp 17) (.tmp 29) 81 rfl w.heap.size 5 i0 1 Try.underlying81 hi0 hz1 ge (4 * k) 32 _ rfl (hown.alloc _) ⟨wr.heap.size, 0, none⟩ 4 4 [.int .u8 (↑x / 16777216), .int .u8 (↑x / 65536 % 256), .int .u8 (↑x / 256 % 256), .int .u8 (↑x % 256)] rfl rfl (four_new _ _ _ _ _ _) (by simp [Value.oneCell']) (by omega) ?_; intro w5 hown5 hg5)
      have hB5 : Below w.heap.size w w5 := (hBk.alloc hBk.size _).grown hg5 (by simp; have := hBk.size; omega) (fun j hj => by injection hj; omega)
      go_roundw
      case rel =>
        refine ⟨k + 1, by omega, by go_num, rfl, ?_, hB5⟩
        rw [HF.out, List.map_append, by4_vals x hx]
        exact hown5
      case measure => simp [intOf]; omega
    · obtain rfl : k = 8 := by omega
      rw [List.take_of_length_le (by rw [H8.out]; omega), ← hDG.out] at hown
      have hcv := conv_bytes (P := Try.prog) wr 81 5 9 Try.underlying81 Try.underlying5 Try.underlying9 w.heap.size ge 32 (dgst m) (by rw [dgst_length]; exact hown)
      rw [dgst_length] at hcv
      have hcv' : (convert 81 9 (.slice (some ⟨ge, 0, none⟩) (4 * 8) 32)).run Try.prog wr = .ok (.string (strN (dgst m))) wr := hcv
      clear hlt
      go_wp2
      go_ret
      exact ⟨rfl, hBk⟩
end Go.Proofs.Ytigmkhgaoamdkaa
