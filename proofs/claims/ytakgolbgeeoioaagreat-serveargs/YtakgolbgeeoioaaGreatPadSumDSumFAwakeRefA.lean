/-
  A digest's pad. A digest's Sum: the thirty-two bytes of all that was written; the digest stays as it was. sha.Sum of the table and a string. The reference's two tables. The reference's right, and what its block is made of, in numbers.
-/
import Derived.Test.YtakgolbgeeoioaaGreatMsgWriteNewPadMsg
import Derived.OwnWalk
import Derived.Maps.AppendAt
import Derived.Deep.LoopGhost
import Derived.Test.YtakgolbgeeoioaaGreatMakeTableStdSched
import Derived.Deep.WholeRow
namespace Go.Proofs.YtakgolbgeeoioaaGreat
open Go.RowKit

def b80 : ByteArray := ⟨#[128]⟩
def b00 : ByteArray := ⟨#[0]⟩
theorem byteInfo : (Tryz.prog.info? 5).map (fun i => (i.zero, i.size, i.bytes)) = some (some (.int .u8 0), 1, 1) := by kernel_rfl
theorem be8_spell (n k : Nat) : (n : Int) * 8 / 2 ^ (8 * (7 - k)) % 256 = ((n * 8 / 256 ^ (7 - k) % 256 : Nat) : Int) := by
 rw [show (256 : Nat) ^ (7 - k) = 2 ^ (8 * (7 - k)) by rw [Nat.pow_mul]]
 simp
theorem be8_take (n k : Nat) (h : k < 8) : ((be8 n).take (k + 1)).map U8 = ((be8 n).take k).map U8 ++ [.int .u8 ((n / 256 ^ (7 - k) % 256 : Nat) : Int)] := by
 rw [List.take_succ_eq_append_getElem (by rw [be8_length]; exact h), List.map_append]
 simp [be8, U8]
theorem only_far {a b c : World} {g ge : Nat} {o : Obj} (h : a.grownBy b (some g)) (k : (b.alloc o).grownBy c (some ge)) (hge : a.heap.size ≤ ge) : a.grownBy c (some g) :=
 ⟨k.os.trans h.os, k.tape.trans h.tape, k.output.trans h.output, Nat.le_trans h.size (Nat.le_trans (by simp) k.size), fun i hi hne =>
  (k.block i (by simp; have := h.size; omega) (by intro e; injection e; omega)).trans ((Below.heap_alloc b o i (Nat.lt_of_lt_of_le hi h.size)).trans (h.block i hi hne))⟩
theorem nums80 : nums b80 = [128] := by decide
theorem nums00 : nums b00 = [0] := by decide

set_option maxRecDepth 100000 in
set_option maxHeartbeats 1000000 in
theorem pad_any (g : Nat) (m : List Nat) (hn : m.length ≤ 72057594037927936) (w : World) (hd : Dig w g m) :
 Calls Tryz.prog 111 #[.pointer (some ⟨g, 0, none⟩)] w fun e w' => e = .returned (.tuple #[]) ∧ Dig w' g (padMsg m) ∧ w.grownBy w' (some g) := by
 have hc : w.cell? ⟨g, 136, none⟩ = some (.int .u64 (m.length : Nat)) := by
  obtain ⟨bs, h1, h2, h3, hb⟩ := hd
  exact (hb.cell 136).trans (digA_n (hstN_length _ _) h1)
 have hgl := hd.lt
 go_enter Tryz.func111, Tryz.ntmps111
 go_wp2_with fail
 refine (write_any g m b80 (by show m.length + 1 ≤ _; omega) _ hd).mono ?_
 rintro e w1 ⟨rfl, hd1, hg1⟩
 rw [nums80] at hd1
 clear hc hd
 have hzl := zs_lt m.length
 go_wp2
 go_loopg [12] (zs m.length) (fun k _ wr => ∃ z : Nat, Hid (z + k = zs m.length) ∧ z ≤ 64 ∧ Dig wr g (m ++ [128] ++ List.replicate z 0) ∧ w.grownBy wr (some g))
 case atStart => exact ⟨0, Lib.hid (by omega), by omega, by simpa using hd1, hg1⟩
 case round =>
  obtain ⟨z, HZ, hz64, hdz, hgz⟩ := hrel
  clear hd1 hg1
  have hlz : (m ++ [128] ++ List.replicate z 0).length = m.length + 1 + z := by simp; omega
  have hcz : wr.cell? ⟨g, 136, none⟩ = some (.int .u64 ((m.length + 1 + z : Nat) : Int)) := by
   obtain ⟨bs, h1, h2, h3, hb⟩ := hdz
   rw [← hlz]
   exact (hb.cell 136).trans (digA_n (hstN_length _ _) h1)
  have hfl := filled_any g (m.length + 1 + z) (by omega) wr hcz
  obtain ⟨q, hq⟩ : ∃ q, (m.length + 1 + z) % 64 = q := ⟨_, rfl⟩
  rw [hq] at hfl
  have HF := Lib.hid hfl
  have HLZ := Lib.hid hlz
  have HQ := Lib.hid hq
  clear hfl hlz hcz hq
  by_cases hk : z < zs m.length
  · have hne : ((q : Int) != 56) = true := by
     rw [bne_iff_ne]
     have := zs_least m.length z hk
     rw [HQ.out] at this
     omega
    go_wp2_with fail
    refine HF.out.mono ?_
    rintro e w' ⟨rfl, rfl⟩
    go_wp2_with fail
    refine (write_any g (m ++ [128] ++ List.replicate z 0) b00 (by rw [HLZ.out]; show _ + 1 ≤ _; omega) _ hdz).mono ?_
    rintro e w2 ⟨rfl, hd2, hg2⟩
    rw [nums00] at hd2
    have hg3 := only_trans hgz hg2
    go_wp2
    go_roundg (zs m.length - (z + 1))
    case measure => have := HZ.out; omega
    case rel =>
     refine ⟨z + 1, Lib.hid (by omega), by omega, ?_, hg3⟩
     rw [List.replicate_succ', ← List.append_assoc]
     exact hd2
  · have hz : z = zs m.length := by have := HZ.out; omega
    have hq56 : q = 56 := by rw [← HQ.out, hz]; exact zs_mod m.length
    subst hq56
    have hne : (((56 : Nat) : Int) != 56) = false := by decide
    have HE := Lib.hid hz
    clear hk hz
    go_wp2_with fail
    refine HF.out.mono ?_
    rintro e w' ⟨rfl, rfl⟩
    obtain ⟨i0, hi0, hz0, hz1, hz2⟩ := info_parts byteInfo
    go_wp2_with (refine wpList_make_own _ rfl _ _ 119 rfl w.heap.size 5 i0 _ 1 Tryz.underlying119 hi0 hz0 hz1 .i64 .i64 8 8 rfl rfl rfl (by rw [hz2]; omega) (by unfold maxLen; omega) hgz.size ?_; intro w3 hown3 hg3)
    have hd3 := hdz.grown hg3 (by simp)
    have hgw : w.grownBy w3 (some g) := only_trans hgz ⟨hg3.os, hg3.tape, hg3.output, hg3.size, fun i hi _ => hg3.block i hi (by simp)⟩
    have hge := hgz.size
    generalize wr.heap.size = ge at *
    go_loopw [3, 18] (fun v i wr => ∃ k : Nat, k ≤ 8 ∧ i = .int .i64 k ∧ v = .slice (some ⟨ge, 0, none⟩) k 8 ∧ wr.ownsRow w.heap.size 5 1 (.slice (some ⟨ge, 0, none⟩) k 8) k (((be8 (m.length * 8)).take k).map U8) ∧ Dig wr g (m ++ [128] ++ List.replicate z 0) ∧ w.grownBy wr (some g))
     (fun _ i _ => 8 - (intOf i).toNat)
    case atStart => exact ⟨0, by omega, rfl, rfl, by simpa using hown3, hd3, hgw⟩
    case round =>
     clear hown3 hd3 hgw hdz hgz hg3
     obtain ⟨k, hk, rfl, rfl, hown, hdk, hgk⟩ := hrel
     by_cases hlt : k < 8
     · have hlt' : (k : Int) < 8 := by omega
       have HS := Lib.hid (be8_spell m.length k)
       have HT := Lib.hid (be8_take (m.length * 8) k hlt)
       have hgne : some g ≠ some ge := by intro h; injection h; omega
       go_wp2_with (at_builtin; refine wpList_append_fits _ rfl (.tmp 21) (.tmp 28) 119 rfl w.heap.size 5 i0 1 Tryz.underlying119 hi0 hz1 ge k 8 _ rfl (hown.alloc _) ⟨wr.heap.size, 0, none⟩ 1 1 [.int .u8 (↑m.length * 8 / 2 ^ (8 * (7 - k)) % 256)] rfl rfl (cell_one_new _ _ _) (by simp [Value.oneCell']) (by omega) ?_; intro w4 hown4 hg4)
       have hd4 := (hdk.grown (World.grownBy_alloc wr _ none) (by simp)).grown hg4 hgne
       have hgw4 : w.grownBy w4 (some g) := only_far hgk hg4 hge
       rw [HS.out] at hown4
       go_roundw
       case rel => exact ⟨k + 1, by omega, by go_num, rfl, by rw [HT.out]; exact hown4, hd4, hgw4⟩
       case measure => simp [intOf]; omega
     · obtain rfl : k = 8 := by omega
       rw [List.take_of_length_le (by rw [be8_length]; omega)] at hown
       have hcv := conv_bytes (P := Tryz.prog) wr 119 5 9 Tryz.underlying119 Tryz.underlying5 Tryz.underlying9 w.heap.size ge 8 (be8 (m.length * 8)) (by rw [be8_length]; exact hown)
       rw [be8_length] at hcv
       have hw := write_any g (m ++ [128] ++ List.replicate z 0) (strN (be8 (m.length * 8))) (by rw [HLZ.out, strN_size, be8_length]; omega) _ hdk
       rw [nums_strN (be8_lt _)] at hw
       have HW := Lib.hid hw
       have HP := Lib.hid (show m ++ [128] ++ List.replicate z 0 ++ be8 (m.length * 8) = padMsg m by rw [HE.out]; rfl)
       clear hw hlt
       go_wp2_with fail
       refine HW.out.mono ?_
       rintro e w5 ⟨rfl, hd5, hg5⟩
       rw [HP.out] at hd5
       have hg6 := only_trans hgk hg5
       go_wp2
       go_end0
       exact ⟨rfl, hd5, hg6⟩
end Go.Proofs.YtakgolbgeeoioaaGreat
namespace Go.Proofs.YtakgolbgeeoioaaGreat
open Go.RowKit

/-- the digest of the bytes m, as numbers -/
def dgst (m : List Nat) : List Nat := (hstN (padMsg m) ((padMsg m).length / 64)).flatMap by4
/-- the digest as a string -/
def SHA (m : List Nat) : ByteArray := strN (dgst m)
theorem flat_len (l : List Nat) : (l.flatMap by4).length = 4 * l.length := by
 induction l with
 | nil => rfl
 | cons x r ih => rw [List.flatMap_cons, List.length_append, ih, List.length_cons]; simp [by4]; omega
theorem dgst_length (m : List Nat) : (dgst m).length = 32 := by unfold dgst; rw [flat_len, hstN_length]
theorem dgst_lt (m : List Nat) : ∀ y ∈ dgst m, y < 256 := by
 intro y hy
 unfold dgst at hy
 obtain ⟨x, _, hx⟩ := List.mem_flatMap.1 hy
 exact by4_lt x y hx
theorem SHA_size (m : List Nat) : (SHA m).size = 32 := by unfold SHA; rw [strN_size, dgst_length]
theorem nums_SHA (m : List Nat) : nums (SHA m) = dgst m := nums_strN (dgst_lt m)
theorem flat_take (l : List Nat) (k : Nat) (h : k < l.length) : (l.take (k + 1)).flatMap by4 = (l.take k).flatMap by4 ++ by4 (l.getD k 0) := by
 rw [List.take_succ_eq_append_getElem h, List.flatMap_append]
 simp [List.getD_eq_getElem?_getD, List.getElem?_eq_getElem h]

theorem by4_vals (x : Nat) (hx : x < 4294967296) : (by4 x).map U8 = [.int .u8 ((x : Int) / 16777216), .int .u8 ((x : Int) / 65536 % 256), .int .u8 ((x : Int) / 256 % 256), .int .u8 ((x : Int) % 256)] := by
 have e : x / 16777216 % 256 = x / 16777216 := by omega
 simp [by4, U8, e]
theorem idx8_0 (a b c d e f g h : Nat) (W : World) : (Instr.index 27 (.agg #[U32 a, U32 b, U32 c, U32 d, U32 e, U32 f, U32 g, U32 h]) (.int .i64 0)).run Tryz.prog W = .ok (.int .u32 (a : Int)) W := by kernel_rfl
theorem idx8_1 (a b c d e f g h : Nat) (W : World) : (Instr.index 27 (.agg #[U32 a, U32 b, U32 c, U32 d, U32 e, U32 f, U32 g, U32 h]) (.int .i64 1)).run Tryz.prog W = .ok (.int .u32 (b : Int)) W := by kernel_rfl
theorem idx8_2 (a b c d e f g h : Nat) (W : World) : (Instr.index 27 (.agg #[U32 a, U32 b, U32 c, U32 d, U32 e, U32 f, U32 g, U32 h]) (.int .i64 2)).run Tryz.prog W = .ok (.int .u32 (c : Int)) W := by kernel_rfl
theorem idx8_3 (a b c d e f g h : Nat) (W : World) : (Instr.index 27 (.agg #[U32 a, U32 b, U32 c, U32 d, U32 e, U32 f, U32 g, U32 h]) (.int .i64 3)).run Tryz.prog W = .ok (.int .u32 (d : Int)) W := by kernel_rfl
theorem idx8_4 (a b c d e f g h : Nat) (W : World) : (Instr.index 27 (.agg #[U32 a, U32 b, U32 c, U32 d, U32 e, U32 f, U32 g, U32 h]) (.int .i64 4)).run Tryz.prog W = .ok (.int .u32 (e : Int)) W := by kernel_rfl
theorem idx8_5 (a b c d e f g h : Nat) (W : World) : (Instr.index 27 (.agg #[U32 a, U32 b, U32 c, U32 d, U32 e, U32 f, U32 g, U32 h]) (.int .i64 5)).run Tryz.prog W = .ok (.int .u32 (f : Int)) W := by kernel_rfl
theorem idx8_6 (a b c d e f g h : Nat) (W : World) : (Instr.index 27 (.agg #[U32 a, U32 b, U32 c, U32 d, U32 e, U32 f, U32 g, U32 h]) (.int .i64 6)).run Tryz.prog W = .ok (.int .u32 (g : Int)) W := by kernel_rfl
theorem idx8_7 (a b c d e f g h : Nat) (W : World) : (Instr.index 27 (.agg #[U32 a, U32 b, U32 c, U32 d, U32 e, U32 f, U32 g, U32 h]) (.int .i64 7)).run Tryz.prog W = .ok (.int .u32 (h : Int)) W := by kernel_rfl
theorem idx8 (l : List Nat) (h8 : l.length = 8) (k : Nat) (hk : k < 8) (W : World) : (Instr.index 27 (.agg (l.map U32).toArray) (.int .i64 (k : Int))).run Tryz.prog W = .ok (.int .u32 ((l.getD k 0 : Nat) : Int)) W := by
 obtain ⟨a, b, c, d, e, f, g, h, rfl⟩ : ∃ a b c d e f g h, l = [a, b, c, d, e, f, g, h] := by
  match l, h8 with
  | [a, b, c, d, e, f, g, h], _ => exact ⟨a, b, c, d, e, f, g, h, rfl⟩
 rcases k with _ | _ | _ | _ | _ | _ | _ | _ | k
 · exact idx8_0 a b c d e f g h W
 · exact idx8_1 a b c d e f g h W
 · exact idx8_2 a b c d e f g h W
 · exact idx8_3 a b c d e f g h W
 · exact idx8_4 a b c d e f g h W
 · exact idx8_5 a b c d e f g h W
 · exact idx8_6 a b c d e f g h W
 · exact idx8_7 a b c d e f g h W
 · omega
def zDig : Array Value := digA (List.replicate 8 0) (List.replicate 64 0) 0
def zK : Array Value := (List.replicate 72 (U32 0) ++ (List.replicate 64 (U8 0) ++ [U64' 0])).toArray
theorem zK_run (w : World) : (zeroValue 177).run Tryz.prog w = .ok (.agg zK) w := by kernel_rfl
theorem zK_size : zK.size = 137 := by kernel_rfl
theorem infoDig : (Tryz.prog.info? 177).map (·.size) = some 137 := by kernel_rfl
theorem digA_one (hl bs : List Nat) (n : Nat) : (digA hl bs n).all (·.oneCell') = true := by
 rw [Array.all_eq_true_iff_forall_mem]
 intro v hv
 simp only [digA, digL, List.mem_toArray, List.mem_append, List.mem_map, List.mem_singleton] at hv
 rcases hv with ⟨x, _, rfl⟩ | ⟨x, _, rfl⟩ | ⟨x, _, rfl⟩ | rfl <;> rfl
theorem Dig.blk {w : World} {g : Nat} {m : List Nat} (h : Dig w g m) : ∃ D : Array Value, D.size = 137 ∧ D.all (·.oneCell') = true ∧ Blk w g 177 D ∧ ∀ (w' : World) (g' : Nat), Blk w' g' 177 D → Dig w' g' m := by
 obtain ⟨bs, h1, h2, h3, hb⟩ := h
 exact ⟨_, digA_size (hstN_length _ _) h1, digA_one _ _ _, hb, fun w' g' h' => ⟨bs, h1, h2, h3, h'⟩⟩
theorem four_new (w : World) (a b c d : Value) (t : TypeId) : ∀ j u, [a, b, c, d][j]? = some u → (w.alloc (.cells #[a, b, c, d] t)).cell? ((⟨w.heap.size, 0, none⟩ : Addr).add j) = some u := by
 intro j u hu
 have e : (⟨w.heap.size, 0, none⟩ : Addr).add j = ⟨w.heap.size, j, none⟩ := by unfold Addr.add; split <;> simp_all
 rw [e, (Blk.new w t #[a, b, c, d]).cell]
 simpa using hu

set_option maxRecDepth 100000 in
set_option maxHeartbeats 1000000 in
theorem dsum_any (g : Nat) (m : List Nat) (hn : m.length ≤ 72057594037927936) (w : World) (hd : Dig w g m) :
 Calls Tryz.prog 97 #[.pointer (some ⟨g, 0, none⟩)] w fun e w' => e = .returned (.string (SHA m)) ∧ Below w.heap.size w w' := by
 obtain ⟨D, hs, h1, hb, hD⟩ := hd.blk
 have hz := zK_run
 have HI := Lib.hid (show (Tryz.prog.info? 177).map (·.size) = some D.size by rw [hs]; exact infoDig)
 have HO := Lib.hid (show zK.size = D.size by rw [hs]; exact zK_size)
 have H1 := Lib.hid h1
 have HD := Lib.hid hD
 clear hs h1 hD
 go_enter Tryz.func97, Tryz.ntmps97
 go_wp2_with (first
  | (refine wpList_load_row rfl 177 _ rfl g rfl 177 D (0, 0) _ hb Tryz.underlying177 rfl HI.out ?_)
  | (refine wpList_store_row rfl 177 _ _ rfl w.heap.size D rfl rfl 177 zK (Blk.new _ _ _) HI.out HO.out H1.out ?_))
 rw [World.setRow_alloc_new]
 obtain ⟨w2, hw2⟩ : ∃ w2, w.alloc (Obj.cells D 177) = w2 := ⟨_, rfl⟩
 rw [hw2]
 have hd2 : Dig w2 w.heap.size m := by rw [← hw2]; exact HD.out _ _ (Blk.new _ _ _)
 have hB2 : Below w.heap.size w w2 := by rw [← hw2]; exact (Below.refl _ w).alloc (Nat.le_refl _) _
 have hs2 : w.heap.size < w2.heap.size := hd2.lt
 clear hw2 hz
 refine (pad_any w.heap.size m hn _ hd2).mono ?_
 rintro e w3 ⟨rfl, hd3, hg3⟩
 have hB3 : Below w.heap.size w w3 := hB2.grown hg3 (by omega) (fun k hk => by injection hk; omega)
 have hs3 := hg3.size
 obtain ⟨bs, q1, q2, q3, hb3⟩ := hd3
 have hDG : Hid (dgst m = (hstN (padMsg m) ((padMsg m).length / 64)).flatMap by4) := Lib.hid rfl
 have h8 := hstN_length (padMsg m) ((padMsg m).length / 64)
 have hlt := hstN_lt (padMsg m) ((padMsg m).length / 64)
 generalize hstN (padMsg m) ((padMsg m).length / 64) = hl at *
 have hr := range_h h8 hb3
 have hlen : (hl.map U32).length = 8 := by rw [List.length_map]; exact h8
 have HI8 := Lib.hid (show (Tryz.prog.info? 27).map (·.size) = some (hl.map U32).length by rw [hlen]; exact info8w)
 have HX := Lib.hid (fun k hk W => idx8 hl h8 k hk W)
 have H8 := Lib.hid h8
 have HL := Lib.hid hlt
 clear h8 hlt hlen q1 q2 q3
 obtain ⟨i0, hi0, hz0, hz1, hz2⟩ := info_parts byteInfo
 clear hr
 go_wp2_with (first
  | (refine wpList_make_own _ rfl _ _ 119 rfl w.heap.size 5 i0 _ 1 Tryz.underlying119 hi0 hz0 hz1 .i64 .i64 32 32 rfl rfl rfl (by rw [hz2]; omega) (by unfold maxLen; omega) hB3.size ?_; intro w4 hown4 hg4; have hr4 := range_h H8.out (hb3.grown hg4 (by simp)))
  | (refine wpList_load_mid rfl 27 _ rfl w.heap.size 64 rfl (hl.map U32) _ hr4 Tryz.underlying27 rfl HI8.out ?_))
 have hB4 : Below w.heap.size w w4 := hB3.grown hg4 (by omega) (by simp)
 have hge : w.heap.size ≤ w3.heap.size := hB3.size
 clear hr4 hb3 hB3 hg4 hg3 hs3 hd2 hB2
 generalize w3.heap.size = ge at *
 go_loopw [4, 14] (fun v i wr => ∃ k : Nat, k ≤ 8 ∧ i = .int .i64 k ∧ v = .slice (some ⟨ge, 0, none⟩) (4 * k) 32 ∧ wr.ownsRow w.heap.size 5 1 (.slice (some ⟨ge, 0, none⟩) (4 * k) 32) (4 * k) (((hl.take k).flatMap by4).map U8) ∧ Below w.heap.size w wr)
  (fun _ i _ => 8 - (intOf i).toNat)
 case atStart => exact ⟨0, by omega, rfl, rfl, by simpa using hown4, hB4⟩
 case round =>
  clear hown4 hB4
  obtain ⟨k, hk, rfl, rfl, hown, hBk⟩ := hrel
  by_cases hlt : k < 8
  · have hlt' : (k : Int) < 8 := by omega
    have hix := fun W => HX.out k hlt W
    have hx := getD_lt HL.out (by decide) k
    have HF := Lib.hid (flat_take hl k (by rw [H8.out]; exact hlt))
    generalize hl.getD k 0 = x at *
    go_wp2_with (at_builtin; refine wpList_append_fits _ rfl (.tmp 17) (.tmp 29) 119 rfl w.heap.size 5 i0 1 Tryz.underlying119 hi0 hz1 ge (4 * k) 32 _ rfl (hown.alloc _) ⟨wr.heap.size, 0, none⟩ 4 4 [.int .u8 (↑x / 16777216), .int .u8 (↑x / 65536 % 256), .int .u8 (↑x / 256 % 256), .int .u8 (↑x % 256)] rfl rfl (four_new _ _ _ _ _ _) (by simp [Value.oneCell']) (by omega) ?_; intro w5 hown5 hg5)
    have hB5 : Below w.heap.size w w5 := (hBk.alloc hBk.size _).grown hg5 (by simp; have := hBk.size; omega) (fun j hj => by injection hj; omega)
    go_roundw
    case rel =>
     refine ⟨k + 1, by omega, by go_num, rfl, ?_, hB5⟩
     rw [HF.out, List.map_append, by4_vals x hx]
     exact hown5
    case measure => simp [intOf]; omega
  · obtain rfl : k = 8 := by omega
    rw [List.take_of_length_le (by rw [H8.out]; omega), ← hDG.out] at hown
    have hcv := conv_bytes (P := Tryz.prog) wr 119 5 9 Tryz.underlying119 Tryz.underlying5 Tryz.underlying9 w.heap.size ge 32 (dgst m) (by rw [dgst_length]; exact hown)
    rw [dgst_length] at hcv
    have hcv' : (convert 119 9 (.slice (some ⟨ge, 0, none⟩) (4 * 8) 32)).run Tryz.prog wr = .ok (.string (strN (dgst m))) wr := hcv
    clear hlt
    go_wp2
    go_ret
    exact ⟨rfl, hBk⟩
end Go.Proofs.YtakgolbgeeoioaaGreat
namespace Go.Proofs.YtakgolbgeeoioaaGreat
open Go.RowKit

theorem tab_run {w : World} {g : Nat} (h : Blk w g 29 tabV) : (loadVar 29 ⟨g, 0, none⟩).run Tryz.prog w = .ok (.agg tabV) w :=
 run_loadVar_row w g 29 29 tabV (0, 0) _ h Tryz.underlying29 rfl (by rw [tabV_size]; exact infoTable)

set_option maxRecDepth 100000 in
set_option maxHeartbeats 400000 in
theorem sum_any (b : ByteArray) (hn : b.size ≤ 72057594037927936) (w : World) :
 Calls Tryz.prog 73 #[.agg tabV, .string b] w fun e w' => e = .returned (.string (SHA (nums b))) ∧ Below w.heap.size w w' := by
 have HI := Lib.hid (show (Tryz.prog.info? 29).map (·.size) = some tabV.size by rw [tabV_size]; exact infoTable)
 have b0 : Blk (w.alloc (.cells tabV 29)) w.heap.size 29 tabV := Blk.new _ _ _
 go_enter Tryz.func73, Tryz.ntmps73
 go_wp2_with (refine wpList_load_row rfl 29 _ rfl w.heap.size rfl 29 tabV (0, 0) _ b0 Tryz.underlying29 rfl HI.out ?_)
 obtain ⟨w1, hw1⟩ : ∃ w1, w.alloc (.cells tabV 29) = w1 := ⟨_, rfl⟩
 rw [hw1]
 have hB1 : Below w.heap.size w w1 := by rw [← hw1]; exact (Below.refl _ w).alloc (Nat.le_refl _) _
 clear hw1 b0
 refine (new_any _).mono ?_
 rintro e w2 ⟨rfl, hd2, hB2⟩
 have hs1 := hB1.size
 have hB2' : Below w.heap.size w w2 := hB1.trans (hB2.mono hs1)
 generalize hg : w1.heap.size + 1 = g at *
 have hgw : w.heap.size ≤ g := by omega
 clear hg hB2 hB1
 go_wp2_with fail
 refine (write_any g [] b (by show 0 + b.size ≤ _; omega) _ hd2).mono ?_
 rintro e w3 ⟨rfl, hd3, hg3⟩
 rw [List.nil_append] at hd3
 have hB3 : Below w.heap.size w w3 := hB2'.grown hg3 hB2'.size (fun k hk => by injection hk; omega)
 go_wp2_with fail
 refine (dsum_any g (nums b) (by rw [nums_length]; exact hn) _ hd3).mono ?_
 rintro e w4 ⟨rfl, hB4⟩
 have hB5 := hB3.trans (hB4.mono hB3.size)
 go_wp2
 go_ret
 exact ⟨rfl, hB5⟩
end Go.Proofs.YtakgolbgeeoioaaGreat
namespace Go.Proofs.YtakgolbgeeoioaaGreat
open Go.RowKit

def U64 (n : Nat) : Value := .int .u64 (n : Int)
def refKV : Array Value := (stdK.map U64).toArray
def refHV : Array Value := (stdH.map U64).toArray

def zero64 : Array Value := Array.replicate 64 (U64 0)
def zero8 : Array Value := Array.replicate 8 (U64 0)
theorem zero64_run (w : World) : (zeroValue 150).run Tryz.prog w = .ok (.agg zero64) w := by kernel_rfl
theorem zero8_run (w : World) : (zeroValue 152).run Tryz.prog w = .ok (.agg zero8) w := by kernel_rfl
theorem info64 : (Tryz.prog.info? 150).map (·.size) = some 64 := by kernel_rfl
theorem info8 : (Tryz.prog.info? 152).map (·.size) = some 8 := by kernel_rfl

set_option maxRecDepth 100000 in
set_option maxHeartbeats 400000 in
theorem refK_any (w : World) : Calls Tryz.prog 92 #[] w fun e w' => e = .returned (.agg refKV) ∧ w.alloc (.cells refKV 150) = w' := by
 have h1 := zero64_run
 go_enter Tryz.func92, Tryz.ntmps92
 go_wp2_with (first
  | (refine wpList_build_as rfl 150 _ rfl refKV (by kernel_rfl) ?_)
  | (refine wpList_store_row rfl 150 _ _ rfl w.heap.size refKV rfl rfl 150 zero64 (Blk.new _ _ _) (by kernel_rfl) (by kernel_rfl) (by kernel_rfl) ?_))
 rw [World.setRow_alloc_new]
 exact bodyPost_ret (results_cell_row rfl _ _ w.heap.size 150 refKV (0, 0) _ rfl (Blk.new _ _ _) Tryz.underlying150 rfl (by kernel_rfl)) rfl ⟨rfl, rfl⟩

set_option maxRecDepth 100000 in
set_option maxHeartbeats 400000 in
theorem refH_any (w : World) : Calls Tryz.prog 93 #[] w fun e w' => e = .returned (.agg refHV) ∧ w.alloc (.cells refHV 152) = w' := by
 have h1 := zero8_run
 go_enter Tryz.func93, Tryz.ntmps93
 go_wp2_with (first
  | (refine wpList_build_as rfl 152 _ rfl refHV (by kernel_rfl) ?_)
  | (refine wpList_store_row rfl 152 _ _ rfl w.heap.size refHV rfl rfl 152 zero8 (Blk.new _ _ _) (by kernel_rfl) (by kernel_rfl) (by kernel_rfl) ?_))
 rw [World.setRow_alloc_new]
 exact bodyPost_ret (results_cell_row rfl _ _ w.heap.size 152 refHV (0, 0) _ rfl (Blk.new _ _ _) Tryz.underlying152 rfl (by kernel_rfl)) rfl ⟨rfl, rfl⟩
end Go.Proofs.YtakgolbgeeoioaaGreat
namespace Go.Proofs.YtakgolbgeeoioaaGreat
open Go.RowKit

theorem ret_u64 {a b : Int} (h : a = b) : Ending.returned (.int .u64 a) = .returned (.int .u64 b) := by rw [h]
theorem right_num (x n : Nat) (hx : x < 4294967296) (hn : n ≤ 32) : (x * 4294967296 + x) / 2 ^ n % 4294967296 = rotr x n := by
 have e : (4294967296 : Nat) = 2 ^ (32 - n) * 2 ^ n := by rw [← Nat.pow_add, show 32 - n + n = 32 by omega]
 have h1 : (x * 4294967296 + x) / 2 ^ n = x * 2 ^ (32 - n) + x / 2 ^ n := by
  rw [e, ← Nat.mul_assoc, Nat.mul_comm (x * 2 ^ (32 - n)) (2 ^ n), Nat.mul_add_div (Nat.two_pow_pos n)]
 have e' : (4294967296 : Nat) = 2 ^ n * 2 ^ (32 - n) := by rw [Nat.mul_comm]; exact e
 have h2 : x * 2 ^ (32 - n) % 4294967296 = x % 2 ^ n * 2 ^ (32 - n) := by rw [e', Nat.mul_mod_mul_right]
 have h3 := rotr_lt x n hx hn
 rw [h1, Nat.add_mod, h2]
 have h4 : x / 2 ^ n < 4294967296 := Nat.lt_of_le_of_lt (Nat.div_le_self _ _) hx
 rw [Nat.mod_eq_of_lt h4]
 have h5 : x % 2 ^ n * 2 ^ (32 - n) + x / 2 ^ n = rotr x n := by unfold rotr; omega
 rw [h5, Nat.mod_eq_of_lt h3]

set_option maxHeartbeats 400000 in
theorem rotr_any (x n : Nat) (hx : x < 4294967296) (hn : n < 32) (w : World) : Calls Tryz.prog 108 #[.int .u64 x, .int .u64 n] w fun e w' => e = .returned (.int .u64 (rotr x n : Nat)) ∧ w = w' := by
 have HR := Lib.hid (right_num x n hx (by omega))
 have hn' : (n : Int) < 64 := by omega
 go_enter Tryz.func108, Tryz.ntmps108
 go_wp2
 go_ret
 refine ⟨ret_u64 ?_, rfl⟩
 rw [← HR.out]
 have e : ((x : Int) * 4294967296 + (x : Int)) / 2 ^ n = (((x * 4294967296 + x) / 2 ^ n : Nat) : Int) := by simp
 rw [e, Int.tmod_eq_emod_of_nonneg (Int.natCast_nonneg _)]
 simp

/-- j bytes of word n put together -/
def part (B : Nat → Nat) (n : Nat) : Nat → Nat
 | 0 => 0
 | j + 1 => part B n j * 256 + B (4 * n + j)
theorem part_four (B : Nat → Nat) (n : Nat) : part B n 4 = wd B n := by
 simp only [part, wd, Nat.add_zero]
 omega
theorem pow_lt_of {B : Nat → Nat} (h : ∀ i, B i < 256) (n : Nat) : ∀ j, part B n j < 256 ^ j
 | 0 => by simp [part]
 | j + 1 => by
  have := pow_lt_of h n j
  have hb := h (4 * n + j)
  show part B n j * 256 + B (4 * n + j) < 256 ^ j * 256
  omega
theorem part_lt4 {B : Nat → Nat} (h : ∀ i, B i < 256) (n j : Nat) (hj : j ≤ 4) : part B n j < 4294967296 :=
 Nat.lt_of_lt_of_le (pow_lt_of h n j) (by show 256 ^ j ≤ 256 ^ 4; exact Nat.pow_le_pow_right (by decide) hj)
theorem padded_set_self (f : Nat → Value) {m : Nat} {l : List Nat} (h : l.length < m) : (padded f m l).setIfInBounds l.length (f 0) = padded f m l := by
 rw [padded_set f h 0]
 unfold padded
 congr 2
 rw [List.append_assoc, List.length_append, List.length_cons, List.length_nil]
 congr 1
 rw [show m - l.length = (m - (l.length + (0 + 1))) + 1 by omega, List.replicate_succ]
 rfl

/-- eight words, those behind j moved one on -/
def shf (l : List Nat) (j : Nat) : List Nat := (List.range 8).map fun i => if j < i then l.getD (i - 1) 0 else l.getD i 0
theorem shf_length (l : List Nat) (j : Nat) : (shf l j).length = 8 := by simp [shf]
theorem shf_seven {l : List Nat} (h : l.length = 8) : shf l 7 = l := by
 match l, h with
 | [_, _, _, _, _, _, _, _], _ => rfl
theorem shf_at (l : List Nat) (j : Nat) (h : j < 8) (h0 : 0 < j) : (shf l j).getD (j - 1) 0 = l.getD (j - 1) 0 := by
 simp [shf, List.getD_eq_getElem?_getD, show j - 1 < 8 by omega, show ¬ j < j - 1 by omega]
theorem shf_set (l : List Nat) (j : Nat) (h : j < 8) (h0 : 0 < j) : (shf l j).set j (l.getD (j - 1) 0) = shf l (j - 1) := by
 apply List.ext_getElem?
 intro i
 rw [List.getElem?_set]
 simp only [shf, List.getElem?_map, List.length_map, List.length_range]
 by_cases hi : i < 8
 · by_cases e : j = i
   · subst e; simp [hi, show j - 1 < j by omega]
   · simp only [e, if_false, List.getElem?_range, hi]
     by_cases h2 : j < i
     · simp [h2, show j - 1 < i by omega]
     · simp [h2, show ¬ j - 1 < i by omega]
 · simp [List.getElem?_eq_none (show (List.range 8).length ≤ i by simp; omega)]
   omega
theorem shf_zero (s : S8) : shf s.list 0 = [s.a, s.a, s.b, s.c, s.d, s.e, s.f, s.g] := rfl
theorem rnd_list (s : S8) (k w x y : Nat) (hx : x = (s.d + tOne s k w) % 4294967296) (hy : y = (tOne s k w + tTwo s) % 4294967296) : ((shf s.list 0).set 4 x).set 0 y = (rnd s k w).list := by
 subst hx hy
 rfl
/-- the reference's majority, by ors -/
theorem mjr_or (x y z : Nat) : (x &&& y) ||| (x &&& z) ||| (y &&& z) = mjr x y z := by
 unfold mjr
 apply Nat.eq_of_testBit_eq
 intro i
 simp only [Nat.testBit_or, Nat.testBit_and, Nat.testBit_xor]
 cases x.testBit i <;> cases y.testBit i <;> cases z.testBit i <;> rfl
end Go.Proofs.YtakgolbgeeoioaaGreat
