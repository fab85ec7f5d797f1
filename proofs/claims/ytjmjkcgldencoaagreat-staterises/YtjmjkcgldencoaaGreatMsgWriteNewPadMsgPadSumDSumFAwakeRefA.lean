/-
  What a digest holds of the bytes that were written, in numbers. A digest's Write: what was written, and then the string's bytes. sha.New of the table. The padded message, in numbers. A digest's pad. A digest's Sum: the thirty-two bytes of all that was written; the digest stays as it was. sha.Sum of the table and a string. The reference's two tables. The reference's right, and what its block is made of, in numbers.
-/
import Derived.Test.YtjmjkcgldencoaaGreatSchedRoundsDigWordsMix
import Derived.Lib.BufferWrite
import Derived.Lib.SlBuf
import Derived.OwnWalk
import Derived.Maps.AppendAt
import Derived.Deep.LoopGhost
import Derived.Test.YtjmjkcgldencoaaGreatFracMakeTableStd
import Derived.Deep.WholeRow
namespace Go.Proofs.YtjmjkcgldencoaaGreat
open Go.RowKit

/-- the eight words behind the first k blocks of m -/
def hstN (m : List Nat) : Nat → List Nat
  | 0 => stdH
  | k + 1 => mixed (hstN m k) fun i => m.getD (64 * k + i) 0
theorem hstN_length (m : List Nat) : ∀ k, (hstN m k).length = 8
  | 0 => rfl
  | _ + 1 => mixed_length _ _
theorem hstN_lt (m : List Nat) : ∀ k, ∀ x ∈ hstN m k, x < 4294967296
  | 0 => by
    intro x hx
    have := List.all_eq_true.1 (show stdH.all (fun x => decide (x < 4294967296)) = true by decide +kernel) x hx
    simpa using this
  | _ + 1 => mixed_lt _ _
/-- only bytes of whole blocks matter -/
theorem mixed_congr (hl : List Nat) {B C : Nat → Nat} (h : ∀ i, i < 64 → B i = C i) : mixed hl B = mixed hl C := by
  have hw : ∀ n, n ≤ 64 → wl B n = wl C n := by
    intro n
    induction n with
    | zero => intro _; rfl
    | succ n ih =>
      intro hn
      have e := ih (by omega)
      show wl B n ++ [wnext B (wl B n) n] = wl C n ++ [wnext C (wl C n) n]
      have e2 : wnext B (wl C n) n = wnext C (wl C n) n := by
        generalize wl C n = l
        unfold wnext
        by_cases h16 : n < 16
        · rw [if_pos h16, if_pos h16]
          unfold wd
          rw [h (4 * n) (by omega), h (4 * n + 1) (by omega), h (4 * n + 2) (by omega), h (4 * n + 3) (by omega)]
        · rw [if_neg h16, if_neg h16]
      rw [e, e2]
  unfold mixed
  rw [hw 64 (Nat.le_refl _)]
theorem hstN_append (m x : List Nat) : ∀ k, 64 * k ≤ m.length → hstN (m ++ x) k = hstN m k
  | 0, _ => rfl
  | k + 1, h => by
    show mixed (hstN (m ++ x) k) _ = mixed (hstN m k) _
    rw [hstN_append m x k (by omega)]
    apply mixed_congr
    intro i hi
    rw [List.getD_eq_getElem?_getD, List.getD_eq_getElem?_getD, List.getElem?_append_left (by omega)]
/-- what a digest's block g holds when the bytes m were written -/
def Dig (w : World) (g : Nat) (m : List Nat) : Prop :=
  ∃ bs : List Nat, bs.length = 64 ∧ (∀ x ∈ bs, x < 256) ∧ bs.take (m.length % 64) = m.drop (64 * (m.length / 64)) ∧ Blk w g 143 (digA (hstN m (m.length / 64)) bs m.length)
theorem Dig.lt {w : World} {g : Nat} {m : List Nat} (h : Dig w g m) : g < w.heap.size := by
  obtain ⟨_, _, _, _, hb⟩ := h
  exact hb.lt
theorem Dig.grown {w w' : World} {g : Nat} {m : List Nat} {row : Option Nat} (h : Dig w g m) (hg : w.grownBy w' row) (hne : some g ≠ row) : Dig w' g m := by
  obtain ⟨bs, h1, h2, h3, hb⟩ := h
  exact ⟨bs, h1, h2, h3, hb.grown hg hne⟩
theorem Dig.below {w w' : World} {g B : Nat} {m : List Nat} (h : Dig w g m) (hb : Below B w w') (hg : g < B) : Dig w' g m := by
  obtain ⟨bs, h1, h2, h3, hk⟩ := h
  exact ⟨bs, h1, h2, h3, hk.below hb hg⟩

/-- j bytes of x go over into the block: fewer than fill it -/
theorem part_take {bs m x : List Nat} {j : Nat} (h64 : bs.length = 64) (ht : bs.take (m.length % 64) = m.drop (64 * (m.length / 64))) (hx : x.length = j) (_ : m.length % 64 + j ≤ 64) :
    (bs.take (m.length % 64) ++ x ++ bs.drop (m.length % 64 + j)).take (m.length % 64 + j) = (m ++ x).drop (64 * (m.length / 64)) := by
  have hl : (bs.take (m.length % 64) ++ x).length = m.length % 64 + j := by simp; omega
  rw [List.take_append_of_le_length (by rw [hl]; omega), List.take_of_length_le (by rw [hl]; omega), ht, List.drop_append_of_le_length (by omega)]
theorem part_lt {bs x : List Nat} {r j : Nat} (hb : ∀ y ∈ bs, y < 256) (hx : ∀ y ∈ x, y < 256) : ∀ y ∈ bs.take r ++ x ++ bs.drop j, y < 256 := by
  intro y hy
  simp only [List.mem_append] at hy
  rcases hy with (hy | hy) | hy
  · exact hb y (List.mem_of_mem_take hy)
  · exact hx y hy
  · exact hb y (List.mem_of_mem_drop hy)
theorem part_len {bs x : List Nat} {r j : Nat} (h64 : bs.length = 64) (hx : x.length = j) (hj : r + j ≤ 64) : (bs.take r ++ x ++ bs.drop (r + j)).length = 64 := by
  simp; omega
end Go.Proofs.YtjmjkcgldencoaaGreat
namespace Go.Proofs.YtjmjkcgldencoaaGreat
open Go.RowKit

/-- copy(dst, s), as many bytes as both have -/
theorem run_copy_min {P : Program} (w : World) (dT sT ty elem : TypeId) (g o dLen dCap j : Nat) (s : ByteArray) (cur : Array Value) (t : TypeId)
    (hu : P.underlying dT = some (.slice elem)) (hs : (P.info? elem).map (·.size) = some 1) (hg : w.heap[g]? = some (.cells cur t (0, 0))) (hj : j = Nat.min s.size dLen) (hfit : o + j ≤ cur.size) :
    (Builtin.copy_ #[dT, sT] ty #[.slice (some ⟨g, o, none⟩) dLen dCap, .string s]).run P w =
      .ok (goInt j) (w.setRow g (cur.toList.take o ++ ((nums s).take j).map U8 ++ cur.toList.drop (o + j)).toArray) := by
  have hjs : j ≤ s.size := by rw [hj]; exact Nat.min_le_left _ _
  have hlen : (((nums s).take j).map U8).length = j := by simp [nums_length]; omega
  have hst := run_storeCells_at P g o t (((nums s).take j).map U8) 0 cur w hg (by rw [hlen]; simpa using hfit) (by
    intro v hv
    obtain ⟨x, _, rfl⟩ := List.mem_map.1 hv
    rfl)
  have htk : List.take j (List.map (fun b : UInt8 => Value.int IntKind.u8 (b.toNat : Int)) s.data.toList) = ((nums s).take j).map U8 := by
    unfold nums
    rw [← List.map_take, ← List.map_take, List.map_map]
    rfl
  rw [hlen] at hst
  simp only [Nat.add_zero] at hst
  cases hq : P.info? elem with
  | none => simp [hq] at hs
  | some i =>
    simp [Builtin.copy_, run_underlying hu, Builtin.lenOf, Builtin.firstCells, sizeOf, typeInfo, hq, ← hj]
    rw [htk, hst]
    simp [Result.andThen]

def strLen : Value → Nat
  | .string s => s.size
  | _ => 0
theorem nums_extract (s : ByteArray) (j : Nat) : nums (s.extract j s.size) = (nums s).drop j := by
  unfold nums
  rw [← List.map_drop]
  congr 1
  simp [ByteArray.data_extract]
  exact List.take_of_length_le (by simp)
theorem infoByte : (Tryz.prog.info? 5).map (·.size) = some 1 := by kernel_rfl
set_option maxRecDepth 100000 in
set_option maxHeartbeats 1000000 in
theorem write_any (g : Nat) (m : List Nat) (b : ByteArray) (hn : m.length + b.size ≤ 1152921504606846976) (w : World) (hd : Dig w g m) :
    Calls Tryz.prog 67 #[.pointer (some ⟨g, 0, none⟩), .string b] w fun e w' => e = .returned (.tuple #[]) ∧ Dig w' g (m ++ nums b) ∧ w.grownBy w' (some g) := by
  have hgl := hd.lt
  go_enter Tryz.func67, Tryz.ntmps67
  go_wp2
  go_loopw [1] (fun v wr => ∃ (l : List Nat) (s : ByteArray), v = .string s ∧ Hid (l ++ nums s = m ++ nums b) ∧ l.length + s.size ≤ 1152921504606846976 ∧ Dig wr g l ∧ w.grownBy wr (some g)) (fun v _ => strLen v)
  case atStart => exact ⟨m, b, rfl, rfl, hn, hd, World.grownBy.refl _ _⟩
  case round =>
    obtain ⟨l, s, rfl, HE, hls, hdl, hgr⟩ := hrel
    clear hd
    by_cases h0 : s.size = 0
    · have HN := Lib.hid (show nums s = [] from List.eq_nil_of_length_eq_zero (by rw [nums_length]; exact h0))
      have h0' : ¬ (0 : Int) < (s.size : Int) := by omega
      clear h0
      go_wp2
      go_end0
      exact ⟨rfl, by rw [← HE.out, HN.out, List.append_nil]; exact hdl, hgr⟩
    · have hp : 0 < s.size := by omega
      have hp' : (0 : Int) < (s.size : Int) := by omega
      obtain ⟨bs, h64, hbt, htk, hb⟩ := hdl
      obtain ⟨hl, hhl⟩ : ∃ hl, hstN l (l.length / 64) = hl := ⟨_, rfl⟩
      have h8 : hl.length = 8 := by rw [← hhl]; exact hstN_length _ _
      have hlt : ∀ x ∈ hl, x < 4294967296 := by rw [← hhl]; exact hstN_lt _ _
      rw [hhl] at hb
      have HH := Lib.hid hhl
      obtain ⟨r, hr⟩ : ∃ r, l.length % 64 = r := ⟨_, rfl⟩
      have hr64 : r < 64 := by omega
      have hsl := fun W => slice64 g 72 r hr64 W
      have hcn : wr.cell? ⟨g, 136, none⟩ = some (.int .u64 (l.length : Nat)) := (hb.cell 136).trans (digA_n h8 h64)
      have hfl := filled_any g l.length (by omega) wr.drew hcn
      rw [hr] at hfl htk
      have HF := Lib.hid hfl
      have HR := Lib.hid hr
      have HT := Lib.hid htk
      have H8 := Lib.hid h8
      have H64 := Lib.hid h64
      have HL := Lib.hid hlt
      have HB := Lib.hid hbt
      clear hfl hr htk hhl h0 h8 h64 hlt hbt
      go_wp2
      refine wp_region_still_tail 7 (by kernel_rfl) (by kernel_rfl) ?_
      simp only [List.take_succ_cons, List.take_zero, List.drop_succ_cons, List.drop_zero]
      change wpStill _ _ wr.drew (fun a' => wpList _ _ _ _ a' wr.drew) _ _
      repeat still_step
      still_call (flip_same HF.out)
      repeat still_step
      refine wpStill_nil ?_
      obtain ⟨j, hj⟩ : ∃ j, Nat.min s.size (64 - r) = j := ⟨_, rfl⟩
      have hjs : j ≤ s.size := by rw [← hj]; exact Nat.min_le_left _ _
      have hjr : r + j ≤ 64 := by have : j ≤ 64 - r := (by rw [← hj]; exact Nat.min_le_right _ _); omega
      have hj0 : 0 < j := by rw [← hj]; exact Nat.lt_min.2 ⟨hp, by omega⟩
      have hxl : ((nums s).take j).length = j := by simp [nums_length]; omega
      have hrun := run_copy_min (P := Tryz.prog) wr.drew 123 9 3 5 g (72 + r) (64 - r) (64 - r) j s (digA hl bs l.length) 143 Tryz.underlying123 infoByte hb.drew hj.symm (by rw [digA_size H8.out H64.out]; omega)
      have hsp := digA_splice (n := l.length) H8.out H64.out r ((nums s).take j) (by rw [hxl]; exact hjr)
      rw [hxl] at hsp
      rw [hsp] at hrun
      obtain ⟨nb, hnb⟩ : ∃ nb, bs.take r ++ (nums s).take j ++ bs.drop (r + j) = nb := ⟨_, rfl⟩
      have hn64 : nb.length = 64 := by rw [← hnb]; exact part_len H64.out hxl hjr
      have hnt : ∀ x ∈ nb, x < 256 := by rw [← hnb]; exact part_lt HB.out (fun y hy => nums_lt s y (List.mem_of_mem_take hy))
      have htk : nb.take (r + j) = (l ++ (nums s).take j).drop (64 * (l.length / 64)) := by
        have := part_take (x := (nums s).take j) (j := j) H64.out (by rw [HR.out]; exact HT.out) hxl (by rw [HR.out]; exact hjr)
        rw [HR.out, hnb] at this
        exact this
      rw [hnb] at hrun
      refine Lib.wpList_copy_run _ rfl _ _ 123 9 rfl _ _ rfl rfl hrun ?_
      have b1 : Blk (wr.drew.setRow g (digA hl nb l.length)) g 143 (digA hl nb l.length) := setRow_heap _ _ _ _ _ _ hb.drew
      have hg1 : w.grownBy (wr.drew.setRow g (digA hl nb l.length)) (some g) := only_setRow (only_drew hgr) _
      generalize wr.drew.setRow g (digA hl nb l.length) = w6 at *
      have c6 : w6.cell? ⟨g, 136, none⟩ = some (.int .u64 (l.length : Nat)) := (b1.cell 136).trans (digA_n H8.out hn64)
      have f6 := b1.frozen 136
      have b2 : Blk (w6.setCell ⟨g, 136, none⟩ (.int .u64 ((l.length : Int) + (j : Int)))) g 143 (digA hl nb (l.length + j)) := by
        have := b1.set_ 136 (U64' (l.length + j))
        rw [digA_setN H8.out hn64 (l.length + j)] at this
        simpa [U64'] using this
      have hg2 : w.grownBy (w6.setCell ⟨g, 136, none⟩ (.int .u64 ((l.length : Int) + (j : Int)))) (some g) := only_set hg1 _ _
      have hex : nums (s.extract j s.size) = (nums s).drop j := nums_extract s j
      have hes : (s.extract j s.size).size = s.size - j := by simp
      have HX := Lib.hid hxl
      have HK := Lib.hid htk
      have HN := Lib.hid hn64
      have HJ := Lib.hid hj
      have HX2 := Lib.hid hex
      have HE2 := Lib.hid hes
      have HLN := Lib.hid (show (l ++ (nums s).take j).length = l.length + j by rw [List.length_append, hxl])
      have HEQ := Lib.hid (show (l ++ (nums s).take j) ++ nums (s.extract j s.size) = m ++ nums b by rw [hex, List.append_assoc, List.take_append_drop]; exact HE.out)
      have HDV := Lib.hid (show l.length = 64 * (l.length / 64) + r by have := HR.out; omega)
      clear hrun hsp hnb hxl htk hn64 hj hsl hcn hb hgr hex hes
      have hj' : (j : Int) ≤ (s.size : Int) := by omega
      have hbig : (l.length : Int) + (j : Int) < 18446744073709551616 := by omega
      have c7 := (b2.cell 136).trans (digA_n H8.out HN.out)
      by_cases hz : r + j = 64
      · have hm0 : (l.length + j) % 64 = 0 := by have := HDV.out; omega
        have hfl := filled_any g (l.length + j) (by omega) _ c7
        rw [hm0] at hfl
        have HF2 := Lib.hid hfl
        have HM0 := Lib.hid hm0
        have hmx := mix_any g hl nb (l.length + j) H8.out HN.out HL.out hnt _ b2
        have HMX := Lib.hid hmx
        have HZ := Lib.hid hz
        clear hfl hm0 hmx hz
        go_wp2_with fail
        refine HF2.out.mono ?_
        rintro e w' ⟨rfl, rfl⟩
        go_wp2_with fail
        refine HMX.out.mono ?_
        rintro e w8 ⟨rfl, b8, hg8⟩
        have hg9 := only_trans hg2 hg8
        go_wp2
        go_roundw
        case rel =>
          refine ⟨l ++ (nums s).take j, s.extract j s.size, rfl, HEQ.out, by rw [HLN.out, HE2.out]; omega, ?_, hg9⟩
          have e1 : (l ++ (nums s).take j).length / 64 = l.length / 64 + 1 := by rw [HLN.out]; have := HDV.out; have := HZ.out; omega
          have e2 : (l ++ (nums s).take j).length % 64 = 0 := by rw [HLN.out]; exact HM0.out
          refine ⟨nb, HN.out, hnt, ?_, ?_⟩
          · rw [e2, e1, List.drop_of_length_le (by rw [HLN.out]; have := HDV.out; have := HZ.out; omega)]; rfl
          · rw [e1, HLN.out]
            have e3 : hstN (l ++ (nums s).take j) (l.length / 64 + 1) = mixed hl fun i => nb.getD i 0 := by
              show mixed (hstN (l ++ (nums s).take j) (l.length / 64)) _ = _
              rw [hstN_append _ _ _ (by omega), HH.out]
              apply mixed_congr
              intro i hi
              have := HK.out
              rw [HZ.out, List.take_of_length_le (by rw [HN.out]; omega)] at this
              rw [this, List.getD_eq_getElem?_getD, List.getD_eq_getElem?_getD, List.getElem?_drop]
            rw [e3]
            exact b8
        case measure => simp only [strLen]; rw [HE2.out]; omega
      · have hm1 : (l.length + j) % 64 = r + j := by have := HDV.out; omega
        have hne : ((r : Int) + (j : Int) == 0) = false := by rw [beq_eq_false_iff_ne]; omega
        have hfl := filled_any g (l.length + j) (by omega) _ c7
        rw [hm1] at hfl
        have HF2 := Lib.hid hfl
        have HM1 := Lib.hid hm1
        clear hfl hm1
        go_wp2_with fail
        refine HF2.out.mono ?_
        rintro e w' ⟨rfl, rfl⟩
        go_wp2
        go_roundw
        case rel =>
          refine ⟨l ++ (nums s).take j, s.extract j s.size, rfl, HEQ.out, by rw [HLN.out, HE2.out]; omega, ?_, hg2⟩
          have e1 : (l ++ (nums s).take j).length / 64 = l.length / 64 := by rw [HLN.out]; have := HDV.out; omega
          refine ⟨nb, HN.out, hnt, ?_, ?_⟩
          · rw [e1, HLN.out, HM1.out]; exact HK.out
          · rw [e1, HLN.out, hstN_append _ _ _ (by omega), HH.out]; exact b2
        case measure => simp only [strLen]; rw [HE2.out]; omega
end Go.Proofs.YtjmjkcgldencoaaGreat
namespace Go.Proofs.YtjmjkcgldencoaaGreat
open Go.RowKit

def kL : List Value := stdK.map U32
def hL : List Value := stdH.map U32
theorem kL_len : kL.length = 64 := rfl
theorem hL_len : hL.length = 8 := rfl
theorem tabV_range_k {w : World} {g : Nat} (h : Blk w g 47 tabV) : w.rangeAt g 0 kL := by
  intro j v hv
  rw [Nat.zero_add, h.cell, ← hv]
  have hj : j < 64 := (List.getElem?_eq_some_iff.1 hv).1
  show ((stdT.map U32).toArray)[j]? = (stdK.map U32)[j]?
  rw [List.getElem?_toArray]
  unfold stdT
  rw [List.map_append, List.getElem?_append_left (by rw [List.length_map]; exact hj)]
theorem tabV_range_h {w : World} {g : Nat} (h : Blk w g 47 tabV) : w.rangeAt g 64 hL := by
  intro j v hv
  rw [h.cell, ← hv]
  show ((stdT.map U32).toArray)[64 + j]? = (stdH.map U32)[j]?
  rw [List.getElem?_toArray]
  unfold stdT
  rw [List.map_append, List.getElem?_append_right (by rw [List.length_map]; show 64 ≤ 64 + j; omega)]
  congr 1
  rw [List.length_map]
  show 64 + j - 64 = j
  omega
def bs0 : List Nat := List.replicate 64 0

set_option maxRecDepth 100000 in
set_option maxHeartbeats 1000000 in
theorem new_any (w : World) : Calls Tryz.prog 66 #[.agg tabV] w fun e w' => e = .returned (.pointer (some ⟨w.heap.size + 1, 0, none⟩)) ∧ Dig w' (w.heap.size + 1) [] ∧ Below w.heap.size w w' := by
  have b0 : Blk (w.alloc (.cells tabV 47)) w.heap.size 47 tabV := Blk.new _ _ _
  have r0 := tabV_range_k b0
  have r1 := tabV_range_h b0
  go_enter Tryz.func66, Tryz.ntmps66
  go_wp2_with (first
    | (refine wpList_load_mid rfl 44 _ rfl w.heap.size 0 rfl kL _ r0 Tryz.underlying44 rfl (by kernel_rfl) ?_)
    | (refine wpList_load_mid rfl 45 _ rfl w.heap.size 64 rfl hL _ r1 Tryz.underlying45 rfl (by kernel_rfl) ?_)
    | (refine wpList_build_as rfl 143 _ rfl (digA stdH bs0 0) (by kernel_rfl) ?_))
  go_ret
  refine ⟨by simp, ⟨bs0, rfl, by simp [bs0], rfl, ?_⟩, ?_⟩
  · exact Blk.new_at (by simp)
  · exact ((Below.refl _ w).alloc (Nat.le_refl _) _).alloc (by simp) _
end Go.Proofs.YtjmjkcgldencoaaGreat
namespace Go.Proofs.YtjmjkcgldencoaaGreat
open Go.RowKit

/-- how many noughts go behind the byte 80 -/
def zs (n : Nat) : Nat := (119 - n % 64) % 64
/-- a number's eight bytes, the greatest first -/
def be8 (n : Nat) : List Nat := (List.range 8).map fun i => n / 256 ^ (7 - i) % 256
def padMsg (m : List Nat) : List Nat := m ++ [128] ++ List.replicate (zs m.length) 0 ++ be8 (m.length * 8)
theorem be8_length (n : Nat) : (be8 n).length = 8 := by simp [be8]
theorem be8_lt (n : Nat) : ∀ x ∈ be8 n, x < 256 := by
  intro x hx
  simp only [be8, List.mem_map] at hx
  obtain ⟨i, _, rfl⟩ := hx
  exact Nat.mod_lt _ (by decide)
theorem zs_lt (n : Nat) : zs n < 64 := Nat.mod_lt _ (by decide)
theorem zs_mod (n : Nat) : (n + 1 + zs n) % 64 = 56 := by unfold zs; omega
theorem zs_least (n k : Nat) (h : k < zs n) : (n + 1 + k) % 64 ≠ 56 := by unfold zs at h; omega
theorem padMsg_length (m : List Nat) : (padMsg m).length = m.length + 1 + zs m.length + 8 := by simp [padMsg, be8_length]; omega
theorem padMsg_mod (m : List Nat) : (padMsg m).length % 64 = 0 := by rw [padMsg_length]; have := zs_mod m.length; omega

theorem conv_bytes {P : Program} (w : World) (src e dst : TypeId) (hs : P.underlying src = some (.slice e)) (he : P.underlying e = some (.int .u8)) (hd : P.underlying dst = some .string) (base g cap : Nat) (l : List Nat)
    (hown : w.ownsRow base e 1 (.slice (some ⟨g, 0, none⟩) l.length cap) l.length (l.map U8)) : (convert src dst (.slice (some ⟨g, 0, none⟩) l.length cap)).run P w = .ok (.string (strN l)) w := by
  have := run_convert_bytes_arg (P := P) w src e hs he g 0 l.length cap (l.map fun (n : Nat) => (n : Int)) (by simp) (fun i hi => by
    have := hown.cells (g := g) rfl i (U8 (l.getD i 0)) (by simp [List.getD_eq_getElem?_getD, List.getElem?_eq_getElem hi])
    have e : (⟨g, 0, none⟩ : Addr).add i = ⟨g, 0 + i, none⟩ := by unfold Addr.add; split <;> simp_all
    rw [← e]
    refine this.trans ?_
    simp [U8, List.getD_eq_getElem?_getD, List.getElem?_eq_getElem hi]) dst hd
  rw [this]
  congr 2
  unfold strOfNums strN
  simp [List.map_map, Function.comp_def]
end Go.Proofs.YtjmjkcgldencoaaGreat
namespace Go.Proofs.YtjmjkcgldencoaaGreat
open Go.RowKit

def b80 : ByteArray := ⟨#[128]⟩
def b00 : ByteArray := ⟨#[0]⟩
theorem byteInfo : (Tryz.prog.info? 5).map (fun i => (i.zero, i.size, i.bytes)) = some (some (.int .u8 0), 1, 1) := by kernel_rfl
theorem be8_spell (n k : Nat) : (n : Int) * 8 / 2 ^ (8 * (7 - k)) % 256 = ((n * 8 / 256 ^ (7 - k) % 256 : Nat) : Int) := by
  rw [show (256 : Nat) ^ (7 - k) = 2 ^ (8 * (7 - k)) by rw [Nat.pow_mul]]
  simp
theorem be8_take (n k : Nat) (h : k < 8) : ((be8 n).take (k + 1)).map U8 = ((be8 n).take k).map U8 ++ [.int .u8 ((n / 256 ^ (7 - k) % 256 : Nat) : Int)] := by
  rw [List.take_succ_eq_append_getElem (by rw [be8_length]; exact h), List.map_append]
  simp [be8, U8]
theorem only_far {a b c : World} {g ge : Nat} {o : Obj} (h : a.grownBy b (some g)) (k : (b.alloc o).grownBy c (some ge)) (hge : a.heap.size ≤ ge) : a.grownBy c (some g) :=
  ⟨k.os.trans h.os, k.tape.trans h.tape, k.output.trans h.output, Nat.le_trans h.size (Nat.le_trans (by simp) k.size), fun i hi hne =>
    (k.block i (by simp; have := h.size; omega) (by intro e; injection e; omega)).trans ((Below.heap_alloc b o i (Nat.lt_of_lt_of_le hi h.size)).trans (h.block i hi hne))⟩
theorem nums80 : nums b80 = [128] := by decide
theorem nums00 : nums b00 = [0] := by decide

set_option maxRecDepth 100000 in
set_option maxHeartbeats 1000000 in
theorem pad_any (g : Nat) (m : List Nat) (hn : m.length ≤ 72057594037927936) (w : World) (hd : Dig w g m) :
    Calls Tryz.prog 82 #[.pointer (some ⟨g, 0, none⟩)] w fun e w' => e = .returned (.tuple #[]) ∧ Dig w' g (padMsg m) ∧ w.grownBy w' (some g) := by
  have hc : w.cell? ⟨g, 136, none⟩ = some (.int .u64 (m.length : Nat)) := by
    obtain ⟨bs, h1, h2, h3, hb⟩ := hd
    exact (hb.cell 136).trans (digA_n (hstN_length _ _) h1)
  have hgl := hd.lt
  go_enter Tryz.func82, Tryz.ntmps82
  go_wp2_with fail
  refine (write_any g m b80 (by show m.length + 1 ≤ _; omega) _ hd).mono ?_
  rintro e w1 ⟨rfl, hd1, hg1⟩
  rw [nums80] at hd1
  clear hc hd
  have hzl := zs_lt m.length
  go_wp2
  go_loopg [12] (zs m.length) (fun k _ wr => ∃ z : Nat, Hid (z + k = zs m.length) ∧ z ≤ 64 ∧ Dig wr g (m ++ [128] ++ List.replicate z 0) ∧ w.grownBy wr (some g))
  case atStart => exact ⟨0, Lib.hid (by omega), by omega, by simpa using hd1, hg1⟩
  case round =>
    obtain ⟨z, HZ, hz64, hdz, hgz⟩ := hrel
    clear hd1 hg1
    have hlz : (m ++ [128] ++ List.replicate z 0).length = m.length + 1 + z := by simp; omega
    have hcz : wr.cell? ⟨g, 136, none⟩ = some (.int .u64 ((m.length + 1 + z : Nat) : Int)) := by
      obtain ⟨bs, h1, h2, h3, hb⟩ := hdz
      rw [← hlz]
      exact (hb.cell 136).trans (digA_n (hstN_length _ _) h1)
    have hfl := filled_any g (m.length + 1 + z) (by omega) wr hcz
    obtain ⟨q, hq⟩ : ∃ q, (m.length + 1 + z) % 64 = q := ⟨_, rfl⟩
    rw [hq] at hfl
    have HF := Lib.hid hfl
    have HLZ := Lib.hid hlz
    have HQ := Lib.hid hq
    clear hfl hlz hcz hq
    by_cases hk : z < zs m.length
    · have hne : ((q : Int) != 56) = true := by
        rw [bne_iff_ne]
        have := zs_least m.length z hk
        rw [HQ.out] at this
        omega
      go_wp2_with fail
      refine HF.out.mono ?_
      rintro e w' ⟨rfl, rfl⟩
      go_wp2_with fail
      refine (write_any g (m ++ [128] ++ List.replicate z 0) b00 (by rw [HLZ.out]; show _ + 1 ≤ _; omega) _ hdz).mono ?_
      rintro e w2 ⟨rfl, hd2, hg2⟩
      rw [nums00] at hd2
      have hg3 := only_trans hgz hg2
      go_wp2
      go_roundg (zs m.length - (z + 1))
      case measure => have := HZ.out; omega
      case rel =>
        refine ⟨z + 1, Lib.hid (by omega), by omega, ?_, hg3⟩
        rw [List.replicate_succ', ← List.append_assoc]
        exact hd2
    · have hz : z = zs m.length := by have := HZ.out; omega
      have hq56 : q = 56 := by rw [← HQ.out, hz]; exact zs_mod m.length
      subst hq56
      have hne : (((56 : Nat) : Int) != 56) = false := by decide
      have HE := Lib.hid hz
      clear hk hz
      go_wp2_with fail
      refine HF.out.mono ?_
      rintro e w' ⟨rfl, rfl⟩
      obtain ⟨i0, hi0, hz0, hz1, hz2⟩ := info_parts byteInfo
      go_wp2_with (refine wpList_make_own _ rfl _ _ 123 rfl w.heap.size 5 i0 _ 1 Tryz.underlying123 hi0 hz0 hz1 .i64 .i64 8 8 rfl rfl rfl (by rw [hz2]; omega) (by unfold maxLen; omega) hgz.size ?_; intro w3 hown3 hg3)
      have hd3 := hdz.grown hg3 (by simp)
      have hgw : w.grownBy w3 (some g) := only_trans hgz ⟨hg3.os, hg3.tape, hg3.output, hg3.size, fun i hi _ => hg3.block i hi (by simp)⟩
      have hge := hgz.size
      generalize wr.heap.size = ge at *
      go_loopw [3, 18] (fun v i wr => ∃ k : Nat, k ≤ 8 ∧ i = .int .i64 k ∧ v = .slice (some ⟨ge, 0, none⟩) k 8 ∧ wr.ownsRow w.heap.size 5 1 (.slice (some ⟨ge, 0, none⟩) k 8) k (((be8 (m.length * 8)).take k).map U8) ∧ Dig wr g (m ++ [128] ++ List.replicate z 0) ∧ w.grownBy wr (some g))
        (fun _ i _ => 8 - (intOf i).toNat)
      case atStart => exact ⟨0, by omega, rfl, rfl, by simpa using hown3, hd3, hgw⟩
      case round =>
        clear hown3 hd3 hgw hdz hgz hg3
        obtain ⟨k, hk, rfl, rfl, hown, hdk, hgk⟩ := hrel
        by_cases hlt : k < 8
        · have hlt' : (k : Int) < 8 := by omega
          have HS := Lib.hid (be8_spell m.length k)
          have HT := Lib.hid (be8_take (m.length * 8) k hlt)
          have hgne : some g ≠ some ge := by intro h; injection h; omega
          go_wp2_with (at_builtin; refine wpList_append_fits _ rfl (.tmp 21) (.tmp 28) 123 rfl w.heap.size 5 i0 1 Tryz.underlying123 hi0 hz1 ge k 8 _ rfl (hown.alloc _) ⟨wr.heap.size, 0, none⟩ 1 1 [.int .u8 (↑m.length * 8 / 2 ^ (8 * (7 - k)) % 256)] rfl rfl (cell_one_new _ _ _) (by simp [Value.oneCell']) (by omega) ?_; intro w4 hown4 hg4)
          have hd4 := (hdk.grown (World.grownBy_alloc wr _ none) (by simp)).grown hg4 hgne
          have hgw4 : w.grownBy w4 (some g) := only_far hgk hg4 hge
          rw [HS.out] at hown4
          go_roundw
          case rel => exact ⟨k + 1, by omega, by go_num, rfl, by rw [HT.out]; exact hown4, hd4, hgw4⟩
          case measure => simp [intOf]; omega
        · obtain rfl : k = 8 := by omega
          rw [List.take_of_length_le (by rw [be8_length]; omega)] at hown
          have hcv := conv_bytes (P := Tryz.prog) wr 123 5 9 Tryz.underlying123 Tryz.underlying5 Tryz.underlying9 w.heap.size ge 8 (be8 (m.length * 8)) (by rw [be8_length]; exact hown)
          rw [be8_length] at hcv
          have hw := write_any g (m ++ [128] ++ List.replicate z 0) (strN (be8 (m.length * 8))) (by rw [HLZ.out, strN_size, be8_length]; omega) _ hdk
          rw [nums_strN (be8_lt _)] at hw
          have HW := Lib.hid hw
          have HP := Lib.hid (show m ++ [128] ++ List.replicate z 0 ++ be8 (m.length * 8) = padMsg m by rw [HE.out]; rfl)
          clear hw hlt
          go_wp2_with fail
          refine HW.out.mono ?_
          rintro e w5 ⟨rfl, hd5, hg5⟩
          rw [HP.out] at hd5
          have hg6 := only_trans hgk hg5
          go_wp2
          go_end0
          exact ⟨rfl, hd5, hg6⟩
end Go.Proofs.YtjmjkcgldencoaaGreat
namespace Go.Proofs.YtjmjkcgldencoaaGreat
open Go.RowKit

/-- the digest of the bytes m, as numbers -/
def dgst (m : List Nat) : List Nat := (hstN (padMsg m) ((padMsg m).length / 64)).flatMap by4
/-- the digest as a string -/
def SHA (m : List Nat) : ByteArray := strN (dgst m)
theorem flat_len (l : List Nat) : (l.flatMap by4).length = 4 * l.length := by
  induction l with
  | nil => rfl
  | cons x r ih => rw [List.flatMap_cons, List.length_append, ih, List.length_cons]; simp [by4]; omega
theorem dgst_length (m : List Nat) : (dgst m).length = 32 := by unfold dgst; rw [flat_len, hstN_length]
theorem dgst_lt (m : List Nat) : ∀ y ∈ dgst m, y < 256 := by
  intro y hy
  unfold dgst at hy
  obtain ⟨x, _, hx⟩ := List.mem_flatMap.1 hy
  exact by4_lt x y hx
theorem SHA_size (m : List Nat) : (SHA m).size = 32 := by unfold SHA; rw [strN_size, dgst_length]
theorem nums_SHA (m : List Nat) : nums (SHA m) = dgst m := nums_strN (dgst_lt m)
theorem flat_take (l : List Nat) (k : Nat) (h : k < l.length) : (l.take (k + 1)).flatMap by4 = (l.take k).flatMap by4 ++ by4 (l.getD k 0) := by
  rw [List.take_succ_eq_append_getElem h, List.flatMap_append]
  simp [List.getD_eq_getElem?_getD, List.getElem?_eq_getElem h]

theorem by4_vals (x : Nat) (hx : x < 4294967296) : (by4 x).map U8 = [.int .u8 ((x : Int) / 16777216), .int .u8 ((x : Int) / 65536 % 256), .int .u8 ((x : Int) / 256 % 256), .int .u8 ((x : Int) % 256)] := by
  have e : x / 16777216 % 256 = x / 16777216 := by omega
  simp [by4, U8, e]
theorem idx8_0 (a b c d e f g h : Nat) (W : World) : (Instr.index 45 (.agg #[U32 a, U32 b, U32 c, U32 d, U32 e, U32 f, U32 g, U32 h]) (.int .i64 0)).run Tryz.prog W = .ok (.int .u32 (a : Int)) W := by kernel_rfl
theorem idx8_1 (a b c d e f g h : Nat) (W : World) : (Instr.index 45 (.agg #[U32 a, U32 b, U32 c, U32 d, U32 e, U32 f, U32 g, U32 h]) (.int .i64 1)).run Tryz.prog W = .ok (.int .u32 (b : Int)) W := by kernel_rfl
theorem idx8_2 (a b c d e f g h : Nat) (W : World) : (Instr.index 45 (.agg #[U32 a, U32 b, U32 c, U32 d, U32 e, U32 f, U32 g, U32 h]) (.int .i64 2)).run Tryz.prog W = .ok (.int .u32 (c : Int)) W := by kernel_rfl
theorem idx8_3 (a b c d e f g h : Nat) (W : World) : (Instr.index 45 (.agg #[U32 a, U32 b, U32 c, U32 d, U32 e, U32 f, U32 g, U32 h]) (.int .i64 3)).run Tryz.prog W = .ok (.int .u32 (d : Int)) W := by kernel_rfl
theorem idx8_4 (a b c d e f g h : Nat) (W : World) : (Instr.index 45 (.agg #[U32 a, U32 b, U32 c, U32 d, U32 e, U32 f, U32 g, U32 h]) (.int .i64 4)).run Tryz.prog W = .ok (.int .u32 (e : Int)) W := by kernel_rfl
theorem idx8_5 (a b c d e f g h : Nat) (W : World) : (Instr.index 45 (.agg #[U32 a, U32 b, U32 c, U32 d, U32 e, U32 f, U32 g, U32 h]) (.int .i64 5)).run Tryz.prog W = .ok (.int .u32 (f : Int)) W := by kernel_rfl
theorem idx8_6 (a b c d e f g h : Nat) (W : World) : (Instr.index 45 (.agg #[U32 a, U32 b, U32 c, U32 d, U32 e, U32 f, U32 g, U32 h]) (.int .i64 6)).run Tryz.prog W = .ok (.int .u32 (g : Int)) W := by kernel_rfl
theorem idx8_7 (a b c d e f g h : Nat) (W : World) : (Instr.index 45 (.agg #[U32 a, U32 b, U32 c, U32 d, U32 e, U32 f, U32 g, U32 h]) (.int .i64 7)).run Tryz.prog W = .ok (.int .u32 (h : Int)) W := by kernel_rfl
theorem idx8 (l : List Nat) (h8 : l.length = 8) (k : Nat) (hk : k < 8) (W : World) : (Instr.index 45 (.agg (l.map U32).toArray) (.int .i64 (k : Int))).run Tryz.prog W = .ok (.int .u32 ((l.getD k 0 : Nat) : Int)) W := by
  obtain ⟨a, b, c, d, e, f, g, h, rfl⟩ : ∃ a b c d e f g h, l = [a, b, c, d, e, f, g, h] := by
    match l, h8 with
    | [a, b, c, d, e, f, g, h], _ => exact ⟨a, b, c, d, e, f, g, h, rfl⟩
  rcases k with _ | _ | _ | _ | _ | _ | _ | _ | k
  · exact idx8_0 a b c d e f g h W
  · exact idx8_1 a b c d e f g h W
  · exact idx8_2 a b c d e f g h W
  · exact idx8_3 a b c d e f g h W
  · exact idx8_4 a b c d e f g h W
  · exact idx8_5 a b c d e f g h W
  · exact idx8_6 a b c d e f g h W
  · exact idx8_7 a b c d e f g h W
  · omega
def zDig : Array Value := digA (List.replicate 8 0) (List.replicate 64 0) 0
def zK : Array Value := (List.replicate 72 (U32 0) ++ (List.replicate 64 (U8 0) ++ [U64' 0])).toArray
theorem zK_run (w : World) : (zeroValue 143).run Tryz.prog w = .ok (.agg zK) w := by kernel_rfl
theorem zK_size : zK.size = 137 := by kernel_rfl
theorem infoDig : (Tryz.prog.info? 143).map (·.size) = some 137 := by kernel_rfl
theorem digA_one (hl bs : List Nat) (n : Nat) : (digA hl bs n).all (·.oneCell') = true := by
  rw [Array.all_eq_true_iff_forall_mem]
  intro v hv
  simp only [digA, digL, List.mem_toArray, List.mem_append, List.mem_map, List.mem_singleton] at hv
  rcases hv with ⟨x, _, rfl⟩ | ⟨x, _, rfl⟩ | ⟨x, _, rfl⟩ | rfl <;> rfl
theorem Dig.blk {w : World} {g : Nat} {m : List Nat} (h : Dig w g m) : ∃ D : Array Value, D.size = 137 ∧ D.all (·.oneCell') = true ∧ Blk w g 143 D ∧ ∀ (w' : World) (g' : Nat), Blk w' g' 143 D → Dig w' g' m := by
  obtain ⟨bs, h1, h2, h3, hb⟩ := h
  exact ⟨_, digA_size (hstN_length _ _) h1, digA_one _ _ _, hb, fun w' g' h' => ⟨bs, h1, h2, h3, h'⟩⟩
theorem four_new (w : World) (a b c d : Value) (t : TypeId) : ∀ j u, [a, b, c, d][j]? = some u → (w.alloc (.cells #[a, b, c, d] t)).cell? ((⟨w.heap.size, 0, none⟩ : Addr).add j) = some u := by
  intro j u hu
  have e : (⟨w.heap.size, 0, none⟩ : Addr).add j = ⟨w.heap.size, j, none⟩ := by unfold Addr.add; split <;> simp_all
  rw [e, (Blk.new w t #[a, b, c, d]).cell]
  simpa using hu

set_option maxRecDepth 100000 in
set_option maxHeartbeats 1000000 in
theorem dsum_any (g : Nat) (m : List Nat) (hn : m.length ≤ 72057594037927936) (w : World) (hd : Dig w g m) :
    Calls Tryz.prog 68 #[.pointer (some ⟨g, 0, none⟩)] w fun e w' => e = .returned (.string (SHA m)) ∧ Below w.heap.size w w' := by
  obtain ⟨D, hs, h1, hb, hD⟩ := hd.blk
  have hz := zK_run
  have HI := Lib.hid (show (Tryz.prog.info? 143).map (·.size) = some D.size by rw [hs]; exact infoDig)
  have HO := Lib.hid (show zK.size = D.size by rw [hs]; exact zK_size)
  have H1 := Lib.hid h1
  have HD := Lib.hid hD
  clear hs h1 hD
  go_enter Tryz.func68, Tryz.ntmps68
  go_wp2_with (first
    | (refine wpList_load_row rfl 143 _ rfl g rfl 143 D (0, 0) _ hb Tryz.underlying143 rfl HI.out ?_)
    | (refine wpList_store_row rfl 143 _ _ rfl w.heap.size D rfl rfl 143 zK (Blk.new _ _ _) HI.out HO.out H1.out ?_))
  rw [World.setRow_alloc_new]
  obtain ⟨w2, hw2⟩ : ∃ w2, w.alloc (Obj.cells D 143) = w2 := ⟨_, rfl⟩
  rw [hw2]
  have hd2 : Dig w2 w.heap.size m := by rw [← hw2]; exact HD.out _ _ (Blk.new _ _ _)
  have hB2 : Below w.heap.size w w2 := by rw [← hw2]; exact (Below.refl _ w).alloc (Nat.le_refl _) _
  have hs2 : w.heap.size < w2.heap.size := hd2.lt
  clear hw2 hz
  refine (pad_any w.heap.size m hn _ hd2).mono ?_
  rintro e w3 ⟨rfl, hd3, hg3⟩
  have hB3 : Below w.heap.size w w3 := hB2.grown hg3 (by omega) (fun k hk => by injection hk; omega)
  have hs3 := hg3.size
  obtain ⟨bs, q1, q2, q3, hb3⟩ := hd3
  have hDG : Hid (dgst m = (hstN (padMsg m) ((padMsg m).length / 64)).flatMap by4) := Lib.hid rfl
  have h8 := hstN_length (padMsg m) ((padMsg m).length / 64)
  have hlt := hstN_lt (padMsg m) ((padMsg m).length / 64)
  generalize hstN (padMsg m) ((padMsg m).length / 64) = hl at *
  have hr := range_h h8 hb3
  have hlen : (hl.map U32).length = 8 := by rw [List.length_map]; exact h8
  have HI8 := Lib.hid (show (Tryz.prog.info? 45).map (·.size) = some (hl.map U32).length by rw [hlen]; exact info8w)
  have HX := Lib.hid (fun k hk W => idx8 hl h8 k hk W)
  have H8 := Lib.hid h8
  have HL := Lib.hid hlt
  clear h8 hlt hlen q1 q2 q3
  obtain ⟨i0, hi0, hz0, hz1, hz2⟩ := info_parts byteInfo
  clear hr
  go_wp2_with (first
    | (refine wpList_make_own _ rfl _ _ 123 rfl w.heap.size 5 i0 _ 1 Tryz.underlying123 hi0 hz0 hz1 .i64 .i64 32 32 rfl rfl rfl (by rw [hz2]; omega) (by unfold maxLen; omega) hB3.size ?_; intro w4 hown4 hg4; have hr4 := range_h H8.out (hb3.grown hg4 (by simp)))
    | (refine wpList_load_mid rfl 45 _ rfl w.heap.size 64 rfl (hl.map U32) _ hr4 Tryz.underlying45 rfl HI8.out ?_))
  have hB4 : Below w.heap.size w w4 := hB3.grown hg4 (by omega) (by simp)
  have hge : w.heap.size ≤ w3.heap.size := hB3.size
  clear hr4 hb3 hB3 hg4 hg3 hs3 hd2 hB2
  generalize w3.heap.size = ge at *
  go_loopw [4, 14] (fun v i wr => ∃ k : Nat, k ≤ 8 ∧ i = .int .i64 k ∧ v = .slice (some ⟨ge, 0, none⟩) (4 * k) 32 ∧ wr.ownsRow w.heap.size 5 1 (.slice (some ⟨ge, 0, none⟩) (4 * k) 32) (4 * k) (((hl.take k).flatMap by4).map U8) ∧ Below w.heap.size w wr)
    (fun _ i _ => 8 - (intOf i).toNat)
  case atStart => exact ⟨0, by omega, rfl, rfl, by simpa using hown4, hB4⟩
  case round =>
    clear hown4 hB4
    obtain ⟨k, hk, rfl, rfl, hown, hBk⟩ := hrel
    by_cases hlt : k < 8
    · have hlt' : (k : Int) < 8 := by omega
      have hix := fun W => HX.out k hlt W
      have hx := getD_lt HL.out (by decide) k
      have HF := Lib.hid (flat_take hl k (by rw [H8.out]; exact hlt))
      generalize hl.getD k 0 = x at *
      go_wp2_with (at_builtin; refine wpList_append_fits _ rfl (.tmp 17) (.tmp 29) 123 rfl w.heap.size 5 i0 1 Tryz.underlying123 hi0 hz1 ge (4 * k) 32 _ rfl (hown.alloc _) ⟨wr.heap.size, 0, none⟩ 4 4 [.int .u8 (↑x / 16777216), .int .u8 (↑x / 65536 % 256), .int .u8 (↑x / 256 % 256), .int .u8 (↑x % 256)] rfl rfl (four_new _ _ _ _ _ _) (by simp [Value.oneCell']) (by omega) ?_; intro w5 hown5 hg5)
      have hB5 : Below w.heap.size w w5 := (hBk.alloc hBk.size _).grown hg5 (by simp; have := hBk.size; omega) (fun j hj => by injection hj; omega)
      go_roundw
      case rel =>
        refine ⟨k + 1, by omega, by go_num, rfl, ?_, hB5⟩
        rw [HF.out, List.map_append, by4_vals x hx]
        exact hown5
      case measure => simp [intOf]; omega
    · obtain rfl : k = 8 := by omega
      rw [List.take_of_length_le (by rw [H8.out]; omega), ← hDG.out] at hown
      have hcv := conv_bytes (P := Tryz.prog) wr 123 5 9 Tryz.underlying123 Tryz.underlying5 Tryz.underlying9 w.heap.size ge 32 (dgst m) (by rw [dgst_length]; exact hown)
      rw [dgst_length] at hcv
      have hcv' : (convert 123 9 (.slice (some ⟨ge, 0, none⟩) (4 * 8) 32)).run Tryz.prog wr = .ok (.string (strN (dgst m))) wr := hcv
      clear hlt
      go_wp2
      go_ret
      exact ⟨rfl, hBk⟩
end Go.Proofs.YtjmjkcgldencoaaGreat
namespace Go.Proofs.YtjmjkcgldencoaaGreat
open Go.RowKit

theorem tab_run {w : World} {g : Nat} (h : Blk w g 47 tabV) : (loadVar 47 ⟨g, 0, none⟩).run Tryz.prog w = .ok (.agg tabV) w :=
  run_loadVar_row w g 47 47 tabV (0, 0) _ h Tryz.underlying47 rfl (by rw [tabV_size]; exact infoTable)

set_option maxRecDepth 100000 in
set_option maxHeartbeats 400000 in
theorem sum_any (b : ByteArray) (hn : b.size ≤ 72057594037927936) (w : World) :
    Calls Tryz.prog 49 #[.agg tabV, .string b] w fun e w' => e = .returned (.string (SHA (nums b))) ∧ Below w.heap.size w w' := by
  have HI := Lib.hid (show (Tryz.prog.info? 47).map (·.size) = some tabV.size by rw [tabV_size]; exact infoTable)
  have b0 : Blk (w.alloc (.cells tabV 47)) w.heap.size 47 tabV := Blk.new _ _ _
  go_enter Tryz.func49, Tryz.ntmps49
  go_wp2_with (refine wpList_load_row rfl 47 _ rfl w.heap.size rfl 47 tabV (0, 0) _ b0 Tryz.underlying47 rfl HI.out ?_)
  obtain ⟨w1, hw1⟩ : ∃ w1, w.alloc (.cells tabV 47) = w1 := ⟨_, rfl⟩
  rw [hw1]
  have hB1 : Below w.heap.size w w1 := by rw [← hw1]; exact (Below.refl _ w).alloc (Nat.le_refl _) _
  clear hw1 b0
  refine (new_any _).mono ?_
  rintro e w2 ⟨rfl, hd2, hB2⟩
  have hs1 := hB1.size
  have hB2' : Below w.heap.size w w2 := hB1.trans (hB2.mono hs1)
  generalize hg : w1.heap.size + 1 = g at *
  have hgw : w.heap.size ≤ g := by omega
  clear hg hB2 hB1
  go_wp2_with fail
  refine (write_any g [] b (by show 0 + b.size ≤ _; omega) _ hd2).mono ?_
  rintro e w3 ⟨rfl, hd3, hg3⟩
  rw [List.nil_append] at hd3
  have hB3 : Below w.heap.size w w3 := hB2'.grown hg3 hB2'.size (fun k hk => by injection hk; omega)
  go_wp2_with fail
  refine (dsum_any g (nums b) (by rw [nums_length]; exact hn) _ hd3).mono ?_
  rintro e w4 ⟨rfl, hB4⟩
  have hB5 := hB3.trans (hB4.mono hB3.size)
  go_wp2
  go_ret
  exact ⟨rfl, hB5⟩
end Go.Proofs.YtjmjkcgldencoaaGreat
namespace Go.Proofs.YtjmjkcgldencoaaGreat
open Go.RowKit

def U64 (n : Nat) : Value := .int .u64 (n : Int)
def refKV : Array Value := (stdK.map U64).toArray
def refHV : Array Value := (stdH.map U64).toArray

def zero64 : Array Value := Array.replicate 64 (U64 0)
def zero8 : Array Value := Array.replicate 8 (U64 0)
theorem zero64_run (w : World) : (zeroValue 124).run Tryz.prog w = .ok (.agg zero64) w := by kernel_rfl
theorem zero8_run (w : World) : (zeroValue 126).run Tryz.prog w = .ok (.agg zero8) w := by kernel_rfl
theorem info64 : (Tryz.prog.info? 124).map (·.size) = some 64 := by kernel_rfl
theorem info8 : (Tryz.prog.info? 126).map (·.size) = some 8 := by kernel_rfl

set_option maxRecDepth 100000 in
set_option maxHeartbeats 400000 in
theorem refK_any (w : World) : Calls Tryz.prog 69 #[] w fun e w' => e = .returned (.agg refKV) ∧ w.alloc (.cells refKV 124) = w' := by
  have h1 := zero64_run
  go_enter Tryz.func69, Tryz.ntmps69
  go_wp2_with (first
    | (refine wpList_build_as rfl 124 _ rfl refKV (by kernel_rfl) ?_)
    | (refine wpList_store_row rfl 124 _ _ rfl w.heap.size refKV rfl rfl 124 zero64 (Blk.new _ _ _) (by kernel_rfl) (by kernel_rfl) (by kernel_rfl) ?_))
  rw [World.setRow_alloc_new]
  exact bodyPost_ret (results_cell_row rfl _ _ w.heap.size 124 refKV (0, 0) _ rfl (Blk.new _ _ _) Tryz.underlying124 rfl (by kernel_rfl)) rfl ⟨rfl, rfl⟩

set_option maxRecDepth 100000 in
set_option maxHeartbeats 400000 in
theorem refH_any (w : World) : Calls Tryz.prog 70 #[] w fun e w' => e = .returned (.agg refHV) ∧ w.alloc (.cells refHV 126) = w' := by
  have h1 := zero8_run
  go_enter Tryz.func70, Tryz.ntmps70
  go_wp2_with (first
    | (refine wpList_build_as rfl 126 _ rfl refHV (by kernel_rfl) ?_)
    | (refine wpList_store_row rfl 126 _ _ rfl w.heap.size refHV rfl rfl 126 zero8 (Blk.new _ _ _) (by kernel_rfl) (by kernel_rfl) (by kernel_rfl) ?_))
  rw [World.setRow_alloc_new]
  exact bodyPost_ret (results_cell_row rfl _ _ w.heap.size 126 refHV (0, 0) _ rfl (Blk.new _ _ _) Tryz.underlying126 rfl (by kernel_rfl)) rfl ⟨rfl, rfl⟩
end Go.Proofs.YtjmjkcgldencoaaGreat
namespace Go.Proofs.YtjmjkcgldencoaaGreat
open Go.RowKit

theorem ret_u64 {a b : Int} (h : a = b) : Ending.returned (.int .u64 a) = .returned (.int .u64 b) := by rw [h]
theorem right_num (x n : Nat) (hx : x < 4294967296) (hn : n ≤ 32) : (x * 4294967296 + x) / 2 ^ n % 4294967296 = rotr x n := by
  have e : (4294967296 : Nat) = 2 ^ (32 - n) * 2 ^ n := by rw [← Nat.pow_add, show 32 - n + n = 32 by omega]
  have h1 : (x * 4294967296 + x) / 2 ^ n = x * 2 ^ (32 - n) + x / 2 ^ n := by
    rw [e, ← Nat.mul_assoc, Nat.mul_comm (x * 2 ^ (32 - n)) (2 ^ n), Nat.mul_add_div (Nat.two_pow_pos n)]
  have e' : (4294967296 : Nat) = 2 ^ n * 2 ^ (32 - n) := by rw [Nat.mul_comm]; exact e
  have h2 : x * 2 ^ (32 - n) % 4294967296 = x % 2 ^ n * 2 ^ (32 - n) := by rw [e', Nat.mul_mod_mul_right]
  have h3 := rotr_lt x n hx hn
  rw [h1, Nat.add_mod, h2]
  have h4 : x / 2 ^ n < 4294967296 := Nat.lt_of_le_of_lt (Nat.div_le_self _ _) hx
  rw [Nat.mod_eq_of_lt h4]
  have h5 : x % 2 ^ n * 2 ^ (32 - n) + x / 2 ^ n = rotr x n := by unfold rotr; omega
  rw [h5, Nat.mod_eq_of_lt h3]

set_option maxHeartbeats 400000 in
theorem rotr_any (x n : Nat) (hx : x < 4294967296) (hn : n < 32) (w : World) : Calls Tryz.prog 83 #[.int .u64 x, .int .u64 n] w fun e w' => e = .returned (.int .u64 (rotr x n : Nat)) ∧ w = w' := by
  have HR := Lib.hid (right_num x n hx (by omega))
  have hn' : (n : Int) < 64 := by omega
  go_enter Tryz.func83, Tryz.ntmps83
  go_wp2
  go_ret
  refine ⟨ret_u64 ?_, rfl⟩
  rw [← HR.out]
  have e : ((x : Int) * 4294967296 + (x : Int)) / 2 ^ n = (((x * 4294967296 + x) / 2 ^ n : Nat) : Int) := by simp
  rw [e, Int.tmod_eq_emod_of_nonneg (Int.natCast_nonneg _)]
  simp

/-- j bytes of word n put together -/
def part (B : Nat → Nat) (n : Nat) : Nat → Nat
  | 0 => 0
  | j + 1 => part B n j * 256 + B (4 * n + j)
theorem part_four (B : Nat → Nat) (n : Nat) : part B n 4 = wd B n := by
  simp only [part, wd, Nat.add_zero]
  omega
theorem pow_lt_of {B : Nat → Nat} (h : ∀ i, B i < 256) (n : Nat) : ∀ j, part B n j < 256 ^ j
  | 0 => by simp [part]
  | j + 1 => by
    have := pow_lt_of h n j
    have hb := h (4 * n + j)
    show part B n j * 256 + B (4 * n + j) < 256 ^ j * 256
    omega
theorem part_lt4 {B : Nat → Nat} (h : ∀ i, B i < 256) (n j : Nat) (hj : j ≤ 4) : part B n j < 4294967296 :=
  Nat.lt_of_lt_of_le (pow_lt_of h n j) (by show 256 ^ j ≤ 256 ^ 4; exact Nat.pow_le_pow_right (by decide) hj)
theorem padded_set_self (f : Nat → Value) {m : Nat} {l : List Nat} (h : l.length < m) : (padded f m l).setIfInBounds l.length (f 0) = padded f m l := by
  rw [padded_set f h 0]
  unfold padded
  congr 2
  rw [List.append_assoc, List.length_append, List.length_cons, List.length_nil]
  congr 1
  rw [show m - l.length = (m - (l.length + (0 + 1))) + 1 by omega, List.replicate_succ]
  rfl

/-- eight words, those behind j moved one on -/
def shf (l : List Nat) (j : Nat) : List Nat := (List.range 8).map fun i => if j < i then l.getD (i - 1) 0 else l.getD i 0
theorem shf_length (l : List Nat) (j : Nat) : (shf l j).length = 8 := by simp [shf]
theorem shf_seven {l : List Nat} (h : l.length = 8) : shf l 7 = l := by
  match l, h with
  | [_, _, _, _, _, _, _, _], _ => rfl
theorem shf_at (l : List Nat) (j : Nat) (h : j < 8) (h0 : 0 < j) : (shf l j).getD (j - 1) 0 = l.getD (j - 1) 0 := by
  simp [shf, List.getD_eq_getElem?_getD, show j - 1 < 8 by omega, show ¬ j < j - 1 by omega]
theorem shf_set (l : List Nat) (j : Nat) (h : j < 8) (h0 : 0 < j) : (shf l j).set j (l.getD (j - 1) 0) = shf l (j - 1) := by
  apply List.ext_getElem?
  intro i
  rw [List.getElem?_set]
  simp only [shf, List.getElem?_map, List.length_map, List.length_range]
  by_cases hi : i < 8
  · by_cases e : j = i
    · subst e; simp [hi, show j - 1 < j by omega]
    · simp only [e, if_false, List.getElem?_range, hi]
      by_cases h2 : j < i
      · simp [h2, show j - 1 < i by omega]
      · simp [h2, show ¬ j - 1 < i by omega]
  · simp [List.getElem?_eq_none (show (List.range 8).length ≤ i by simp; omega)]
    omega
theorem shf_zero (s : S8) : shf s.list 0 = [s.a, s.a, s.b, s.c, s.d, s.e, s.f, s.g] := rfl
theorem rnd_list (s : S8) (k w x y : Nat) (hx : x = (s.d + tOne s k w) % 4294967296) (hy : y = (tOne s k w + tTwo s) % 4294967296) : ((shf s.list 0).set 4 x).set 0 y = (rnd s k w).list := by
  subst hx hy
  rfl
/-- the reference's majority, by ors -/
theorem mjr_or (x y z : Nat) : (x &&& y) ||| (x &&& z) ||| (y &&& z) = mjr x y z := by
  unfold mjr
  apply Nat.eq_of_testBit_eq
  intro i
  simp only [Nat.testBit_or, Nat.testBit_and, Nat.testBit_xor]
  cases x.testBit i <;> cases y.testBit i <;> cases z.testBit i <;> rfl
end Go.Proofs.YtjmjkcgldencoaaGreat
