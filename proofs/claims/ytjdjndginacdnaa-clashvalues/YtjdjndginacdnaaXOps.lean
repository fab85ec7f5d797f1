/-
  Layer 9: the small functions.
-/
import Derived.Test.YtjdjndginacdnaaXMath
import Derived.Test.YtjdjndginacdnaaXStep
import Derived.Test.YtjdjndginacdnaaXHash
import Derived.Test.YtjdjndginacdnaaSConv
import Derived.Test.YtjdjndginacdnaaCHsh
namespace Go.Proofs.Ytjdjndginacdnaa
open Go.RowKit

set_option maxRecDepth 100000 in
set_option maxHeartbeats 400000 in
theorem bitAt9_any (s : ByteArray) (hs : 32 ≤ s.size) (i : Nat) (hi : i < 256) (w : World) :
    Calls Try.prog 53 #[.string s, .int .i64 i] w fun e w' => e = .returned (.bool (bitS s i)) ∧ ∃ q, w' = w.drewN q := by
  obtain ⟨j, hj⟩ : ∃ j, i / 8 = j := ⟨_, rfl⟩
  obtain ⟨m, hm⟩ : ∃ m, i % 8 = m := ⟨_, rfl⟩
  have he : ((i : Int) / 8) = (j : Int) := by omega
  have he2 : ((i : Int) % 8) = (m : Int) := by omega
  have he3 : ((i : Int).tmod 8) = (m : Int) := by rw [Int.tmod_eq_emod_of_nonneg (by omega)]; exact he2
  have hlt : j < s.size := by omega
  have hm8 : m < 8 := by omega
  have hw : IntKind.i64.wrap (j : Int) = j := i64_small (by omega)
  have hwm : IntKind.i64.wrap (m : Int) = m := i64_small (by omega)
  have hx := str_idx s j hlt
  have HE := Lib.hid (show (128 : Int) / 2 ^ m = ((2 ^ (7 - m) : Nat) : Int) by
    have : ∀ m : Fin 8, (128 : Int) / 2 ^ m.val = ((2 ^ (7 - m.val) : Nat) : Int) := by decide +kernel
    exact this ⟨m, hm8⟩)
  have HB := Lib.hid (show bitS s i = (((nums s).getD j 0 &&& 2 ^ (7 - m)) != 0) by
    unfold bitS
    rw [hj, hm]
    exact (and_mask _ _).symm)
  rw [HB.out]
  have hm : 2 ^ (7 - m) < 256 := by
    have : 2 ^ (7 - m) ≤ 2 ^ 7 := Nat.pow_le_pow_right (by decide) (by omega)
    omega
  have hX : (nums s).getD j 0 < 256 := by rw [nums_at s hlt]; exact UInt8.toNat_lt _
  generalize (nums s).getD j 0 = X at *
  have HA := Lib.hid (u8_and_nat X (2 ^ (7 - m)) hX hm)
  clear hj HB
  go_enter Try.func53, Try.ntmps53
  go_wp2
  go_quiet (fail)
  rw [HE.out, HA.out]
  go_wp2
  go_ret
  refine ⟨boolEq ?_, nq, rfl⟩
  rw [Bool.eq_iff_iff]
  simp
set_option maxRecDepth 100000 in
theorem node9_any (b : Bool) (x y : ByteArray) (hx : x.size ≤ 1073741824) (hy : y.size ≤ 1073741824) (w : World) :
    Calls Try.prog 54 #[.bool b, .string x, .string y] w fun e w' => e = .returned (.string (nod9 b x y)) ∧ w' = w := by
  have z0 : (⟨#[78]⟩ : ByteArray).size = 1 := rfl
  have a1 : ¬ (⟨#[78]⟩ : ByteArray).size + x.size > 9223372036854775807 := by omega
  have a2 : ¬ (⟨#[78]⟩ : ByteArray).size + y.size > 9223372036854775807 := by omega
  have a3 : ¬ ((⟨#[78]⟩ : ByteArray) ++ x).size + y.size > 9223372036854775807 := by simp only [ByteArray.size_append]; omega
  have a4 : ¬ ((⟨#[78]⟩ : ByteArray) ++ y).size + x.size > 9223372036854775807 := by simp only [ByteArray.size_append]; omega
  clear z0
  cases b
  · have HN : Hid (nod9 false x y = ⟨#[78]⟩ ++ x ++ y) := Lib.hid rfl
    rw [HN.out]
    go_enter Try.func54, Try.ntmps54
    go_wp2
    go_ret
    exact ⟨rfl, rfl⟩
  · have HN : Hid (nod9 true x y = ⟨#[78]⟩ ++ y ++ x) := Lib.hid rfl
    rw [HN.out]
    go_enter Try.func54, Try.ntmps54
    go_wp2
    go_ret
    exact ⟨rfl, rfl⟩
/-- an answer's cells -/
def ansA (th : Bool) (v s : ByteArray) : Array Value := #[.bool th, .string v, .string s]
theorem infoAns : (Try.prog.info? 23).map (·.size) = some 3 := by kernel_rfl
theorem ld_ans {w : World} {g : Nat} {th : Bool} {v s : ByteArray} (h : Blk w g 23 (ansA th v s)) : (loadVar 23 ⟨g, 0, none⟩).run Try.prog w = .ok (.agg (ansA th v s)) w :=
  run_loadVar_row w g 23 23 (ansA th v s) (0, 0) _ h Try.underlying23 rfl infoAns
set_option maxRecDepth 100000 in
set_option maxHeartbeats 1000000 in
theorem own9_any (k : ByteArray) (th : Bool) (v s : ByteArray) (hk : k.size ≤ 1073741824) (hv : v.size ≤ 1073741824) (w : World) :
    Calls Try.prog 52 #[.string k, .agg (ansA th v s)] w fun e w' => e = .returned (.string (ow9 k th v)) ∧ Below w.heap.size w w' := by
  have z0 : (⟨#[86]⟩ : ByteArray).size = 1 := rfl
  obtain ⟨L, hL⟩ : ∃ L, strN [k.size % 256] = L := ⟨_, rfl⟩
  have zl : L.size = 1 := by rw [← hL, strN_size]; rfl
  obtain ⟨w0, hw0⟩ : ∃ w0, w.alloc (.cells (ansA th v s) 23) = w0 := ⟨_, rfl⟩
  have b0 : Blk w0 w.heap.size 23 (ansA th v s) := by rw [← hw0]; exact Blk.new _ _ _
  have hB00 : Below w.heap.size w w0 := by rw [← hw0]; exact (Below.refl _ w).alloc (Nat.le_refl _) _
  have hc := conv_one w0 (k.size % 256) (Nat.mod_lt _ (by decide))
  rw [hL] at hc
  have hB0 := hB00.alloc hB00.size (.cells #[.int .u8 ((k.size % 256 : Nat) : Int)] 5)
  have b1 := b0.alloc (.cells #[.int .u8 ((k.size % 256 : Nat) : Int)] 5)
  have q0 : w0.cell? ⟨w.heap.size, 0, none⟩ = some (.bool th) := b0.cell 0
  have q2 : (w0.alloc (.cells #[.int .u8 ((k.size % 256 : Nat) : Int)] 5)).cell? ⟨w.heap.size, 1, none⟩ = some (.string v) := b1.cell 1
  have a1 : ¬ (⟨#[86]⟩ : ByteArray).size + L.size > 9223372036854775807 := by omega
  have a2 : ¬ ((⟨#[86]⟩ : ByteArray) ++ L).size + k.size > 9223372036854775807 := by simp only [ByteArray.size_append]; omega
  have a3 : ¬ ((⟨#[86]⟩ : ByteArray) ++ L ++ k).size + v.size > 9223372036854775807 := by simp only [ByteArray.size_append]; omega
  have hm : IntKind.u8.wrap (k.size : Int) = ((k.size % 256 : Nat) : Int) := by rw [IntKind.wrap_u8']; omega
  have HR : Hid (ow9 k th v = if th then ⟨#[86]⟩ ++ L ++ k ++ v else ⟨#[69]⟩) := Lib.hid (by rw [← hL]; rfl)
  rw [HR.out]
  have HW := Lib.hid hw0
  have HB0 := Lib.hid hB0
  have HB00 := Lib.hid hB00
  show Calls _ _ #[_, .agg #[.bool th, .string v, .string s]] _ _
  change Hid (w.alloc (.cells #[.bool th, .string v, .string s] 23) = w0) at HW
  generalize k.size % 256 = M at *
  clear z0 zl b0 b1 hB00 hw0 hL HR hB0
  cases th
  · go_enter Try.func52, Try.ntmps52
    go_wp2_with (rw [HW.out])
    go_ret
    exact ⟨rfl, HB00.out⟩
  · go_enter Try.func52, Try.ntmps52
    go_wp2_with (rw [HW.out])
    go_ret
    exact ⟨rfl, HB0.out⟩
set_option maxRecDepth 100000 in
theorem top9_any (oa : Option Addr) (k cap : Nat) (hk : k ≤ 1000000) (ps : List (ByteArray × ByteArray)) (hl : k < ps.length) (w : World) (hP : Prs w oa ps) :
    Calls Try.prog 32 #[.slice oa (k + 1) cap] w fun e w' => e = .returned (.string ps[k].2) ∧ w' = w := by
  obtain ⟨g, o, rfl, hg, h1, h2⟩ := hP.at hl
  generalize ps[k].2 = x at *
  have e1 : ((k + 1 : Nat) : Int) - 1 = (k : Int) := by omega
  have e2 : (k : Int) < ((k + 1 : Nat) : Int) := by omega
  clear h1 hP hl
  go_enter Try.func32, Try.ntmps32
  go_wp2
  go_ret
  exact ⟨rfl, rfl⟩
theorem pa9_size (k : ByteArray) : ((⟨#[75]⟩ : ByteArray) ++ k).size = k.size + 1 := by
  have : (⟨#[75]⟩ : ByteArray).size = 1 := rfl
  rw [ByteArray.size_append, this]; omega
set_option maxRecDepth 100000 in
theorem path9_any {g : Nat} {h : ByteArray → ByteArray} (H : Hsh g h) (k : ByteArray) (hk : k.size ≤ 999) (w : World) :
    Calls Try.prog 19 #[.func (.func g) #[] #[], .string k] w fun e w' => e = .returned (.string (pa9 h k)) ∧ Below w.heap.size w w' := by
  have z0 := pa9_size k
  have hadd := addRun (a := ⟨#[75]⟩) (b := k) (by rw [← ByteArray.size_append, z0]; omega)
  have a1 : ¬ (⟨#[75]⟩ : ByteArray).size + k.size > 9223372036854775807 := by rw [← ByteArray.size_append, z0]; omega
  have HH := Lib.hid (fun W => H.call (⟨#[75]⟩ ++ k) W (by omega))
  change Hid (∀ W, Calls _ _ _ W fun e w' => e = .returned (.string (pa9 h k)) ∧ _) at HH
  generalize pa9 h k = R at *
  have eg := H.enter
  have hnil := func_nil g
  clear z0
  go_enter Try.func19, Try.ntmps19
  go_wp2_with fail
  refine (HH.out _).mono ?_
  rintro e w' ⟨rfl, hB⟩
  go_wp2
  go_ret
  exact ⟨rfl, hB⟩
set_option maxRecDepth 100000 in
theorem ask9_any {g : Nat} {h : ByteArray → ByteArray} (H : Hsh g h) (x : ByteArray) (hx : x.size ≤ 1000) (w : World) :
    Calls Try.prog 51 #[.func (.func g) #[] #[], .string x] w fun e w' => e = .returned (.agg #[.string x, .string (h x)]) ∧ Below w.heap.size w w' := by
  have HH := Lib.hid (fun W => H.call x W hx)
  generalize h x = R at *
  have eg := H.enter
  obtain ⟨B, hB⟩ : ∃ B, w.heap.size = B := ⟨_, rfl⟩
  obtain ⟨w0, hw0⟩ : ∃ w0, w.alloc (.cells #[.string ⟨#[]⟩, .string ⟨#[]⟩] 91) = w0 := ⟨_, rfl⟩
  have hT : Blk w0 B 91 #[.string ⟨#[]⟩, .string ⟨#[]⟩] := by rw [← hw0, ← hB]; exact Blk.new _ _ _
  have hB0 : Below w.heap.size w w0 := by rw [← hw0]; exact (Below.refl _ w).alloc (Nat.le_refl _) _
  have HW := Lib.hid hw0
  clear hw0
  go_enter Try.func51, Try.ntmps51
  go_wp2_with (rw [HW.out])
  refine (HH.out _).mono ?_
  rintro e w2 ⟨rfl, hb⟩
  have hT2 := hT.below hb hT.lt
  have hB2 := hB0.trans (hb.mono hB0.size)
  have s0 : w2.cell? ⟨B, 0, none⟩ = some (.string ⟨#[]⟩) := hT2.cell 0
  have s1 : w2.cell? ⟨B, 1, none⟩ = some (.string ⟨#[]⟩) := hT2.cell 1
  have f0 := hT2.frozen 0
  have f1 := hT2.frozen 1
  have HT2 := Lib.hid hT2
  have HB2 := Lib.hid hB2
  clear hT hB0 hb hT2 hB2
  go_wp2
  have n1 : Blk ((w2.setCell ⟨B, 0, none⟩ (.string x)).setCell ⟨B, 1, none⟩ (.string R)) B 91 #[.string x, .string R] := (HT2.out.set_ 0 (.string x)).set_ 1 (.string R)
  have hB3 := (HB2.out.setCell (p := ⟨B, 0, none⟩) (by show w.heap.size ≤ B; omega) (.string x)).setCell (p := ⟨B, 1, none⟩) (by show w.heap.size ≤ B; omega) (.string R)
  refine bodyPost_ret (results_cell_row rfl _ _ B 91 #[.string x, .string R] (0, 0) _ rfl n1 Try.underlying91 rfl (by kernel_rfl)) rfl ?_
  exact ⟨rfl, hB3⟩
end Go.Proofs.Ytjdjndginacdnaa
