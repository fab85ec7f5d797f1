/-
  What a digest holds of the bytes that were written, in numbers. A digest's Write: what was written, and then the string's bytes. sha.New of the table. The padded message, in numbers.
-/
import Derived.Test.YtakgolbgeeoioaaGreatWordsMix
import Derived.Lib.BufferWrite
import Derived.Lib.SlBuf
namespace Go.Proofs.YtakgolbgeeoioaaGreat
open Go.RowKit

/-- the eight words behind the first k blocks of m -/
def hstN (m : List Nat) : Nat → List Nat
 | 0 => stdH
 | k + 1 => mixed (hstN m k) fun i => m.getD (64 * k + i) 0
theorem hstN_length (m : List Nat) : ∀ k, (hstN m k).length = 8
 | 0 => rfl
 | _ + 1 => mixed_length _ _
theorem hstN_lt (m : List Nat) : ∀ k, ∀ x ∈ hstN m k, x < 4294967296
 | 0 => by
  intro x hx
  have := List.all_eq_true.1 (show stdH.all (fun x => decide (x < 4294967296)) = true by decide +kernel) x hx
  simpa using this
 | _ + 1 => mixed_lt _ _
/-- only bytes of whole blocks matter -/
theorem mixed_congr (hl : List Nat) {B C : Nat → Nat} (h : ∀ i, i < 64 → B i = C i) : mixed hl B = mixed hl C := by
 have hw : ∀ n, n ≤ 64 → wl B n = wl C n := by
  intro n
  induction n with
  | zero => intro _; rfl
  | succ n ih =>
   intro hn
   have e := ih (by omega)
   show wl B n ++ [wnext B (wl B n) n] = wl C n ++ [wnext C (wl C n) n]
   have e2 : wnext B (wl C n) n = wnext C (wl C n) n := by
    generalize wl C n = l
    unfold wnext
    by_cases h16 : n < 16
    · rw [if_pos h16, if_pos h16]
      unfold wd
      rw [h (4 * n) (by omega), h (4 * n + 1) (by omega), h (4 * n + 2) (by omega), h (4 * n + 3) (by omega)]
    · rw [if_neg h16, if_neg h16]
   rw [e, e2]
 unfold mixed
 rw [hw 64 (Nat.le_refl _)]
theorem hstN_append (m x : List Nat) : ∀ k, 64 * k ≤ m.length → hstN (m ++ x) k = hstN m k
 | 0, _ => rfl
 | k + 1, h => by
  show mixed (hstN (m ++ x) k) _ = mixed (hstN m k) _
  rw [hstN_append m x k (by omega)]
  apply mixed_congr
  intro i hi
  rw [List.getD_eq_getElem?_getD, List.getD_eq_getElem?_getD, List.getElem?_append_left (by omega)]
/-- what a digest's block g holds when the bytes m were written -/
def Dig (w : World) (g : Nat) (m : List Nat) : Prop :=
 ∃ bs : List Nat, bs.length = 64 ∧ (∀ x ∈ bs, x < 256) ∧ bs.take (m.length % 64) = m.drop (64 * (m.length / 64)) ∧ Blk w g 177 (digA (hstN m (m.length / 64)) bs m.length)
theorem Dig.lt {w : World} {g : Nat} {m : List Nat} (h : Dig w g m) : g < w.heap.size := by
 obtain ⟨_, _, _, _, hb⟩ := h
 exact hb.lt
theorem Dig.grown {w w' : World} {g : Nat} {m : List Nat} {row : Option Nat} (h : Dig w g m) (hg : w.grownBy w' row) (hne : some g ≠ row) : Dig w' g m := by
 obtain ⟨bs, h1, h2, h3, hb⟩ := h
 exact ⟨bs, h1, h2, h3, hb.grown hg hne⟩
theorem Dig.below {w w' : World} {g B : Nat} {m : List Nat} (h : Dig w g m) (hb : Below B w w') (hg : g < B) : Dig w' g m := by
 obtain ⟨bs, h1, h2, h3, hk⟩ := h
 exact ⟨bs, h1, h2, h3, hk.below hb hg⟩

/-- j bytes of x go over into the block: fewer than fill it -/
theorem part_take {bs m x : List Nat} {j : Nat} (h64 : bs.length = 64) (ht : bs.take (m.length % 64) = m.drop (64 * (m.length / 64))) (hx : x.length = j) (_ : m.length % 64 + j ≤ 64) :
 (bs.take (m.length % 64) ++ x ++ bs.drop (m.length % 64 + j)).take (m.length % 64 + j) = (m ++ x).drop (64 * (m.length / 64)) := by
 have hl : (bs.take (m.length % 64) ++ x).length = m.length % 64 + j := by simp; omega
 rw [List.take_append_of_le_length (by rw [hl]; omega), List.take_of_length_le (by rw [hl]; omega), ht, List.drop_append_of_le_length (by omega)]
theorem part_lt {bs x : List Nat} {r j : Nat} (hb : ∀ y ∈ bs, y < 256) (hx : ∀ y ∈ x, y < 256) : ∀ y ∈ bs.take r ++ x ++ bs.drop j, y < 256 := by
 intro y hy
 simp only [List.mem_append] at hy
 rcases hy with (hy | hy) | hy
 · exact hb y (List.mem_of_mem_take hy)
 · exact hx y hy
 · exact hb y (List.mem_of_mem_drop hy)
theorem part_len {bs x : List Nat} {r j : Nat} (h64 : bs.length = 64) (hx : x.length = j) (hj : r + j ≤ 64) : (bs.take r ++ x ++ bs.drop (r + j)).length = 64 := by
 simp; omega
end Go.Proofs.YtakgolbgeeoioaaGreat
namespace Go.Proofs.YtakgolbgeeoioaaGreat
open Go.RowKit

/-- copy(dst, s), as many bytes as both have -/
theorem run_copy_min {P : Program} (w : World) (dT sT ty elem : TypeId) (g o dLen dCap j : Nat) (s : ByteArray) (cur : Array Value) (t : TypeId)
 (hu : P.underlying dT = some (.slice elem)) (hs : (P.info? elem).map (·.size) = some 1) (hg : w.heap[g]? = some (.cells cur t (0, 0))) (hj : j = Nat.min s.size dLen) (hfit : o + j ≤ cur.size) :
 (Builtin.copy_ #[dT, sT] ty #[.slice (some ⟨g, o, none⟩) dLen dCap, .string s]).run P w =
  .ok (goInt j) (w.setRow g (cur.toList.take o ++ ((nums s).take j).map U8 ++ cur.toList.drop (o + j)).toArray) := by
 have hjs : j ≤ s.size := by rw [hj]; exact Nat.min_le_left _ _
 have hlen : (((nums s).take j).map U8).length = j := by simp [nums_length]; omega
 have hst := run_storeCells_at P g o t (((nums s).take j).map U8) 0 cur w hg (by rw [hlen]; simpa using hfit) (by
  intro v hv
  obtain ⟨x, _, rfl⟩ := List.mem_map.1 hv
  rfl)
 have htk : List.take j (List.map (fun b : UInt8 => Value.int IntKind.u8 (b.toNat : Int)) s.data.toList) = ((nums s).take j).map U8 := by
  unfold nums
  rw [← List.map_take, ← List.map_take, List.map_map]
  rfl
 rw [hlen] at hst
 simp only [Nat.add_zero] at hst
 cases hq : P.info? elem with
 | none => simp [hq] at hs
 | some i =>
  simp [Builtin.copy_, run_underlying hu, Builtin.lenOf, Builtin.firstCells, sizeOf, typeInfo, hq, ← hj]
  rw [htk, hst]
  simp [Result.andThen]

def strLen : Value → Nat
 | .string s => s.size
 | _ => 0
theorem nums_extract (s : ByteArray) (j : Nat) : nums (s.extract j s.size) = (nums s).drop j := by
 unfold nums
 rw [← List.map_drop]
 congr 1
 simp [ByteArray.data_extract]
 exact List.take_of_length_le (by simp)
theorem infoByte : (Tryz.prog.info? 5).map (·.size) = some 1 := by kernel_rfl
set_option maxRecDepth 100000 in
set_option maxHeartbeats 1000000 in
theorem write_any (g : Nat) (m : List Nat) (b : ByteArray) (hn : m.length + b.size ≤ 1152921504606846976) (w : World) (hd : Dig w g m) :
 Calls Tryz.prog 96 #[.pointer (some ⟨g, 0, none⟩), .string b] w fun e w' => e = .returned (.tuple #[]) ∧ Dig w' g (m ++ nums b) ∧ w.grownBy w' (some g) := by
 have hgl := hd.lt
 go_enter Tryz.func96, Tryz.ntmps96
 go_wp2
 go_loopw [1] (fun v wr => ∃ (l : List Nat) (s : ByteArray), v = .string s ∧ Hid (l ++ nums s = m ++ nums b) ∧ l.length + s.size ≤ 1152921504606846976 ∧ Dig wr g l ∧ w.grownBy wr (some g)) (fun v _ => strLen v)
 case atStart => exact ⟨m, b, rfl, rfl, hn, hd, World.grownBy.refl _ _⟩
 case round =>
  obtain ⟨l, s, rfl, HE, hls, hdl, hgr⟩ := hrel
  clear hd
  by_cases h0 : s.size = 0
  · have HN := Lib.hid (show nums s = [] from List.eq_nil_of_length_eq_zero (by rw [nums_length]; exact h0))
    have h0' : ¬ (0 : Int) < (s.size : Int) := by omega
    clear h0
    go_wp2
    go_end0
    exact ⟨rfl, by rw [← HE.out, HN.out, List.append_nil]; exact hdl, hgr⟩
  · have hp : 0 < s.size := by omega
    have hp' : (0 : Int) < (s.size : Int) := by omega
    obtain ⟨bs, h64, hbt, htk, hb⟩ := hdl
    obtain ⟨hl, hhl⟩ : ∃ hl, hstN l (l.length / 64) = hl := ⟨_, rfl⟩
    have h8 : hl.length = 8 := by rw [← hhl]; exact hstN_length _ _
    have hlt : ∀ x ∈ hl, x < 4294967296 := by rw [← hhl]; exact hstN_lt _ _
    rw [hhl] at hb
    have HH := Lib.hid hhl
    obtain ⟨r, hr⟩ : ∃ r, l.length % 64 = r := ⟨_, rfl⟩
    have hr64 : r < 64 := by omega
    have hsl := fun W => slice64 g 72 r hr64 W
    have hcn : wr.cell? ⟨g, 136, none⟩ = some (.int .u64 (l.length : Nat)) := (hb.cell 136).trans (digA_n h8 h64)
    have hfl := filled_any g l.length (by omega) wr.drew hcn
    rw [hr] at hfl htk
    have HF := Lib.hid hfl
    have HR := Lib.hid hr
    have HT := Lib.hid htk
    have H8 := Lib.hid h8
    have H64 := Lib.hid h64
    have HL := Lib.hid hlt
    have HB := Lib.hid hbt
    clear hfl hr htk hhl h0 h8 h64 hlt hbt
    go_wp2
    refine wp_region_still_tail 7 (by kernel_rfl) (by kernel_rfl) ?_
    simp only [List.take_succ_cons, List.take_zero, List.drop_succ_cons, List.drop_zero]
    change wpStill _ _ wr.drew (fun a' => wpList _ _ _ _ a' wr.drew) _ _
    repeat still_step
    still_call (flip_same HF.out)
    repeat still_step
    refine wpStill_nil ?_
    obtain ⟨j, hj⟩ : ∃ j, Nat.min s.size (64 - r) = j := ⟨_, rfl⟩
    have hjs : j ≤ s.size := by rw [← hj]; exact Nat.min_le_left _ _
    have hjr : r + j ≤ 64 := by have : j ≤ 64 - r := (by rw [← hj]; exact Nat.min_le_right _ _); omega
    have hj0 : 0 < j := by rw [← hj]; exact Nat.lt_min.2 ⟨hp, by omega⟩
    have hxl : ((nums s).take j).length = j := by simp [nums_length]; omega
    have hrun := run_copy_min (P := Tryz.prog) wr.drew 119 9 3 5 g (72 + r) (64 - r) (64 - r) j s (digA hl bs l.length) 177 Tryz.underlying119 infoByte hb.drew hj.symm (by rw [digA_size H8.out H64.out]; omega)
    have hsp := digA_splice (n := l.length) H8.out H64.out r ((nums s).take j) (by rw [hxl]; exact hjr)
    rw [hxl] at hsp
    rw [hsp] at hrun
    obtain ⟨nb, hnb⟩ : ∃ nb, bs.take r ++ (nums s).take j ++ bs.drop (r + j) = nb := ⟨_, rfl⟩
    have hn64 : nb.length = 64 := by rw [← hnb]; exact part_len H64.out hxl hjr
    have hnt : ∀ x ∈ nb, x < 256 := by rw [← hnb]; exact part_lt HB.out (fun y hy => nums_lt s y (List.mem_of_mem_take hy))
    have htk : nb.take (r + j) = (l ++ (nums s).take j).drop (64 * (l.length / 64)) := by
     have := part_take (x := (nums s).take j) (j := j) H64.out (by rw [HR.out]; exact HT.out) hxl (by rw [HR.out]; exact hjr)
     rw [HR.out, hnb] at this
     exact this
    rw [hnb] at hrun
    refine Lib.wpList_copy_run _ rfl _ _ 119 9 rfl _ _ rfl rfl hrun ?_
    have b1 : Blk (wr.drew.setRow g (digA hl nb l.length)) g 177 (digA hl nb l.length) := setRow_heap _ _ _ _ _ _ hb.drew
    have hg1 : w.grownBy (wr.drew.setRow g (digA hl nb l.length)) (some g) := only_setRow (only_drew hgr) _
    generalize wr.drew.setRow g (digA hl nb l.length) = w6 at *
    have c6 : w6.cell? ⟨g, 136, none⟩ = some (.int .u64 (l.length : Nat)) := (b1.cell 136).trans (digA_n H8.out hn64)
    have f6 := b1.frozen 136
    have b2 : Blk (w6.setCell ⟨g, 136, none⟩ (.int .u64 ((l.length : Int) + (j : Int)))) g 177 (digA hl nb (l.length + j)) := by
     have := b1.set_ 136 (U64' (l.length + j))
     rw [digA_setN H8.out hn64 (l.length + j)] at this
     simpa [U64'] using this
    have hg2 : w.grownBy (w6.setCell ⟨g, 136, none⟩ (.int .u64 ((l.length : Int) + (j : Int)))) (some g) := only_set hg1 _ _
    have hex : nums (s.extract j s.size) = (nums s).drop j := nums_extract s j
    have hes : (s.extract j s.size).size = s.size - j := by simp
    have HX := Lib.hid hxl
    have HK := Lib.hid htk
    have HN := Lib.hid hn64
    have HJ := Lib.hid hj
    have HX2 := Lib.hid hex
    have HE2 := Lib.hid hes
    have HLN := Lib.hid (show (l ++ (nums s).take j).length = l.length + j by rw [List.length_append, hxl])
    have HEQ := Lib.hid (show (l ++ (nums s).take j) ++ nums (s.extract j s.size) = m ++ nums b by rw [hex, List.append_assoc, List.take_append_drop]; exact HE.out)
    have HDV := Lib.hid (show l.length = 64 * (l.length / 64) + r by have := HR.out; omega)
    clear hrun hsp hnb hxl htk hn64 hj hsl hcn hb hgr hex hes
    have hj' : (j : Int) ≤ (s.size : Int) := by omega
    have hbig : (l.length : Int) + (j : Int) < 18446744073709551616 := by omega
    have c7 := (b2.cell 136).trans (digA_n H8.out HN.out)
    by_cases hz : r + j = 64
    · have hm0 : (l.length + j) % 64 = 0 := by have := HDV.out; omega
      have hfl := filled_any g (l.length + j) (by omega) _ c7
      rw [hm0] at hfl
      have HF2 := Lib.hid hfl
      have HM0 := Lib.hid hm0
      have hmx := mix_any g hl nb (l.length + j) H8.out HN.out HL.out hnt _ b2
      have HMX := Lib.hid hmx
      have HZ := Lib.hid hz
      clear hfl hm0 hmx hz
      go_wp2_with fail
      refine HF2.out.mono ?_
      rintro e w' ⟨rfl, rfl⟩
      go_wp2_with fail
      refine HMX.out.mono ?_
      rintro e w8 ⟨rfl, b8, hg8⟩
      have hg9 := only_trans hg2 hg8
      go_wp2
      go_roundw
      case rel =>
       refine ⟨l ++ (nums s).take j, s.extract j s.size, rfl, HEQ.out, by rw [HLN.out, HE2.out]; omega, ?_, hg9⟩
       have e1 : (l ++ (nums s).take j).length / 64 = l.length / 64 + 1 := by rw [HLN.out]; have := HDV.out; have := HZ.out; omega
       have e2 : (l ++ (nums s).take j).length % 64 = 0 := by rw [HLN.out]; exact HM0.out
       refine ⟨nb, HN.out, hnt, ?_, ?_⟩
       · rw [e2, e1, List.drop_of_length_le (by rw [HLN.out]; have := HDV.out; have := HZ.out; omega)]; rfl
       · rw [e1, HLN.out]
         have e3 : hstN (l ++ (nums s).take j) (l.length / 64 + 1) = mixed hl fun i => nb.getD i 0 := by
          show mixed (hstN (l ++ (nums s).take j) (l.length / 64)) _ = _
          rw [hstN_append _ _ _ (by omega), HH.out]
          apply mixed_congr
          intro i hi
          have := HK.out
          rw [HZ.out, List.take_of_length_le (by rw [HN.out]; omega)] at this
          rw [this, List.getD_eq_getElem?_getD, List.getD_eq_getElem?_getD, List.getElem?_drop]
         rw [e3]
         exact b8
      case measure => simp only [strLen]; rw [HE2.out]; omega
    · have hm1 : (l.length + j) % 64 = r + j := by have := HDV.out; omega
      have hne : ((r : Int) + (j : Int) == 0) = false := by rw [beq_eq_false_iff_ne]; omega
      have hfl := filled_any g (l.length + j) (by omega) _ c7
      rw [hm1] at hfl
      have HF2 := Lib.hid hfl
      have HM1 := Lib.hid hm1
      clear hfl hm1
      go_wp2_with fail
      refine HF2.out.mono ?_
      rintro e w' ⟨rfl, rfl⟩
      go_wp2
      go_roundw
      case rel =>
       refine ⟨l ++ (nums s).take j, s.extract j s.size, rfl, HEQ.out, by rw [HLN.out, HE2.out]; omega, ?_, hg2⟩
       have e1 : (l ++ (nums s).take j).length / 64 = l.length / 64 := by rw [HLN.out]; have := HDV.out; omega
       refine ⟨nb, HN.out, hnt, ?_, ?_⟩
       · rw [e1, HLN.out, HM1.out]; exact HK.out
       · rw [e1, HLN.out, hstN_append _ _ _ (by omega), HH.out]; exact b2
      case measure => simp only [strLen]; rw [HE2.out]; omega
end Go.Proofs.YtakgolbgeeoioaaGreat
namespace Go.Proofs.YtakgolbgeeoioaaGreat
open Go.RowKit

def kL : List Value := stdK.map U32
def hL : List Value := stdH.map U32
theorem kL_len : kL.length = 64 := rfl
theorem hL_len : hL.length = 8 := rfl
theorem tabV_range_k {w : World} {g : Nat} (h : Blk w g 29 tabV) : w.rangeAt g 0 kL := by
 intro j v hv
 rw [Nat.zero_add, h.cell, ← hv]
 have hj : j < 64 := (List.getElem?_eq_some_iff.1 hv).1
 show ((stdT.map U32).toArray)[j]? = (stdK.map U32)[j]?
 rw [List.getElem?_toArray]
 unfold stdT
 rw [List.map_append, List.getElem?_append_left (by rw [List.length_map]; exact hj)]
theorem tabV_range_h {w : World} {g : Nat} (h : Blk w g 29 tabV) : w.rangeAt g 64 hL := by
 intro j v hv
 rw [h.cell, ← hv]
 show ((stdT.map U32).toArray)[64 + j]? = (stdH.map U32)[j]?
 rw [List.getElem?_toArray]
 unfold stdT
 rw [List.map_append, List.getElem?_append_right (by rw [List.length_map]; show 64 ≤ 64 + j; omega)]
 congr 1
 rw [List.length_map]
 show 64 + j - 64 = j
 omega
def bs0 : List Nat := List.replicate 64 0

set_option maxRecDepth 100000 in
set_option maxHeartbeats 1000000 in
theorem new_any (w : World) : Calls Tryz.prog 95 #[.agg tabV] w fun e w' => e = .returned (.pointer (some ⟨w.heap.size + 1, 0, none⟩)) ∧ Dig w' (w.heap.size + 1) [] ∧ Below w.heap.size w w' := by
 have b0 : Blk (w.alloc (.cells tabV 29)) w.heap.size 29 tabV := Blk.new _ _ _
 have r0 := tabV_range_k b0
 have r1 := tabV_range_h b0
 go_enter Tryz.func95, Tryz.ntmps95
 go_wp2_with (first
  | (refine wpList_load_mid rfl 26 _ rfl w.heap.size 0 rfl kL _ r0 Tryz.underlying26 rfl (by kernel_rfl) ?_)
  | (refine wpList_load_mid rfl 27 _ rfl w.heap.size 64 rfl hL _ r1 Tryz.underlying27 rfl (by kernel_rfl) ?_)
  | (refine wpList_build_as rfl 177 _ rfl (digA stdH bs0 0) (by kernel_rfl) ?_))
 go_ret
 refine ⟨by simp, ⟨bs0, rfl, by simp [bs0], rfl, ?_⟩, ?_⟩
 · exact Blk.new_at (by simp)
 · exact ((Below.refl _ w).alloc (Nat.le_refl _) _).alloc (by simp) _
end Go.Proofs.YtakgolbgeeoioaaGreat
namespace Go.Proofs.YtakgolbgeeoioaaGreat
open Go.RowKit

/-- how many noughts go behind the byte 80 -/
def zs (n : Nat) : Nat := (119 - n % 64) % 64
/-- a number's eight bytes, the greatest first -/
def be8 (n : Nat) : List Nat := (List.range 8).map fun i => n / 256 ^ (7 - i) % 256
def padMsg (m : List Nat) : List Nat := m ++ [128] ++ List.replicate (zs m.length) 0 ++ be8 (m.length * 8)
theorem be8_length (n : Nat) : (be8 n).length = 8 := by simp [be8]
theorem be8_lt (n : Nat) : ∀ x ∈ be8 n, x < 256 := by
 intro x hx
 simp only [be8, List.mem_map] at hx
 obtain ⟨i, _, rfl⟩ := hx
 exact Nat.mod_lt _ (by decide)
theorem zs_lt (n : Nat) : zs n < 64 := Nat.mod_lt _ (by decide)
theorem zs_mod (n : Nat) : (n + 1 + zs n) % 64 = 56 := by unfold zs; omega
theorem zs_least (n k : Nat) (h : k < zs n) : (n + 1 + k) % 64 ≠ 56 := by unfold zs at h; omega
theorem padMsg_length (m : List Nat) : (padMsg m).length = m.length + 1 + zs m.length + 8 := by simp [padMsg, be8_length]; omega
theorem padMsg_mod (m : List Nat) : (padMsg m).length % 64 = 0 := by rw [padMsg_length]; have := zs_mod m.length; omega

theorem conv_bytes {P : Program} (w : World) (src e dst : TypeId) (hs : P.underlying src = some (.slice e)) (he : P.underlying e = some (.int .u8)) (hd : P.underlying dst = some .string) (base g cap : Nat) (l : List Nat)
 (hown : w.ownsRow base e 1 (.slice (some ⟨g, 0, none⟩) l.length cap) l.length (l.map U8)) : (convert src dst (.slice (some ⟨g, 0, none⟩) l.length cap)).run P w = .ok (.string (strN l)) w := by
 have := run_convert_bytes_arg (P := P) w src e hs he g 0 l.length cap (l.map fun (n : Nat) => (n : Int)) (by simp) (fun i hi => by
  have := hown.cells (g := g) rfl i (U8 (l.getD i 0)) (by simp [List.getD_eq_getElem?_getD, List.getElem?_eq_getElem hi])
  have e : (⟨g, 0, none⟩ : Addr).add i = ⟨g, 0 + i, none⟩ := by unfold Addr.add; split <;> simp_all
  rw [← e]
  refine this.trans ?_
  simp [U8, List.getD_eq_getElem?_getD, List.getElem?_eq_getElem hi]) dst hd
 rw [this]
 congr 2
 unfold strOfNums strN
 simp [List.map_map, Function.comp_def]
end Go.Proofs.YtakgolbgeeoioaaGreat
