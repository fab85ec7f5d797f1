/-
  A strings.Builder at this program: what WriteString and String do. Texts one behind the other; slices that read as texts; what a builder's state stands. Lists of texts as bytes: the program's List. Bytes as a number, the greatest first. What is read is cut off by a closure: cutter, cutNumber, cutText.
-/
import Derived.Shelf.Strings.BuilderK
import Derived.Test.YtnbboabaihddbaaGreatBase
import Derived.Test.YtnbboabaihddbaaGreatWNumWReqYKind
namespace Go.Proofs.YtnbboabaihddbaaGreat
open Go.Shelf Go.RowKit

def bren : Go.Shelf.Ren := ⟨fun | 169 => 57 | n => n, fun | 70 => 112 | 9 => 9 | 0 => 0 | 72 => 114 | 37 => 66 | 127 => 147 | 3 => 3 | 5 => 5 | n => n, fun | n => n⟩
theorem blays : Go.Proofs.Lays.n169 Tryz.prog bren := {
 mixed := by kernel_rfl
 f169 := Tryz.func57.trans (congrArg some (by kernel_rfl))
 t0 := Tryz.underlying0, a0 := Tryz.isAgg0, z0 := Tryz.sizeOf0, v0 := Tryz.zeroValue0
 t3 := Tryz.underlying3, a3 := Tryz.isAgg3, z3 := Tryz.sizeOf3, v3 := Tryz.zeroValue3
 t9 := Tryz.underlying9, a9 := Tryz.isAgg9, z9 := Tryz.sizeOf9, v9 := Tryz.zeroValue9
 t37 := Tryz.underlying66, a37 := Tryz.isAgg66, z37 := Tryz.sizeOf66, v37 := Tryz.zeroValue66
 t70 := Tryz.underlying112, a70 := Tryz.isAgg112, z70 := Tryz.sizeOf112, v70 := Tryz.zeroValue112
 t72 := Tryz.underlying114, a72 := Tryz.isAgg114, z72 := Tryz.sizeOf114, v72 := Tryz.zeroValue114
 t127 := Tryz.underlying147, a127 := Tryz.isAgg147, z127 := Tryz.sizeOf147, v127 := Tryz.zeroValue147 }
theorem bextra : Builder.Extra Tryz.prog bren := {
 sizeBuilder := by kernel_rfl
 liesBuilder := by kernel_rfl
 t5 := Tryz.underlying5, a5 := Tryz.isAgg5, z5 := Tryz.sizeOf5, v5 := Tryz.zeroValue5
 infoByte := by kernel_rfl
 cellsByte := by kernel_rfl
 sizeByte := by kernel_rfl
 neB5 := by decide }

/-- a builder in block b, from B on, that holds the bytes l -/
def Bld (w : World) (B b : Nat) (l : List UInt8) : Prop := Lib.IsBuilderF 114 5 B b (Lib.byteCells l) w
theorem bld_string (B b : Nat) (l : List UInt8) (w : World) (h : Bld w B b l) (hBw : B ≤ w.heap.size) :
 Calls Tryz.prog 57 #[.pointer (some ⟨b, 0, none⟩)] w fun e w' => e = .returned (.string ⟨l.toArray⟩) ∧ Below B w w' :=
 (Any.Builder_String_any_k blays bextra B b l w h hBw).mono fun _ _ h => ⟨h.1, h.2.2.1⟩

set_option maxRecDepth 100000 in
theorem check_fresh (b : Nat) (w : World) (h0 : w.cell? ⟨b, 0, none⟩ = some (.pointer none)) (hsh : w.shape? b = some (114, 2)) (hfz : w.frozen? ⟨b, 0, none⟩ = false) :
 Calls Tryz.prog 83 #[.pointer (some ⟨b, 0, none⟩)] w fun e w' => e = .returned (.tuple #[]) ∧ w.setCell ⟨b, 0, none⟩ (.pointer (some ⟨b, 0, none⟩)) = w' := by
 obtain ⟨j, hj, hjs⟩ := Option.map_eq_some_iff.1 bextra.sizeBuilder
 go_enter Tryz.func83, Tryz.ntmps83
 go_wp2
 rw [Lib.run_to_unsafe w ⟨b, 0, none⟩ Tryz.underlying112 Tryz.underlying171 hj (by rw [hjs]; decide) hsh (Nat.zero_lt_succ 1)]
 simp only [Result.andThen]
 rw [Oper.upon_value]
 go_wp2
 rw [run_callFunc_extern Tryz.func101 (by kernel_rfl) (by kernel_rfl) (by kernel_rfl) (e := Extern.AbiNoEscape.same) (by kernel_rfl)]
 rw [Lib.run_noEscape]
 simp only [Result.andThen]
 rw [Oper.upon_value]
 go_wp2
 rw [Lib.run_from_unsafe w ⟨b, 0, none⟩ Tryz.underlying171 Tryz.underlying112 hj hsh bextra.liesBuilder]
 simp only [Result.andThen]
 rw [Oper.upon_value]
 go_wp2
 go_end0
 exact ⟨rfl, rfl⟩
set_option maxRecDepth 100000 in
theorem check_used (b : Nat) (w : World) (h0 : w.cell? ⟨b, 0, none⟩ = some (.pointer (some ⟨b, 0, none⟩))) :
 Calls Tryz.prog 83 #[.pointer (some ⟨b, 0, none⟩)] w fun e w' => e = .returned (.tuple #[]) ∧ w = w' := by
 obtain ⟨j, hj, _⟩ := Option.map_eq_some_iff.1 bextra.sizeBuilder
 have hne := Lib.run_neq_ptr_same w ⟨b, 0, none⟩ Tryz.underlying112 hj
 go_enter Tryz.func83, Tryz.ntmps83
 go_wp2
 go_end0
 exact ⟨rfl, rfl⟩
theorem check_any (B b : Nat) (l : List UInt8) (w : World) (h : Bld w B b l) :
 Calls Tryz.prog 83 #[.pointer (some ⟨b, 0, none⟩)] w fun e w' => e = .returned (.tuple #[]) ∧
  Lib.BuilderAtF 114 5 B b (.pointer (some ⟨b, 0, none⟩)) (Lib.byteCells l) w' ∧ Below B w w' := by
 rcases h with h | h
 · exact (check_fresh b w h.cell0 h.shape h.frozen0).mono fun e w' ⟨he, hw⟩ => by subst hw; exact ⟨he, h.used _, (Below.refl B w).setCell (p := ⟨b, 0, none⟩) h.1 _⟩
 · exact (check_used b w h.cell0).mono fun e w' ⟨he, hw⟩ => by subst hw; exact ⟨he, h, Below.refl B _⟩

set_option maxRecDepth 100000 in
set_option maxHeartbeats 1000000 in
theorem bld_write (B b : Nat) (l : List UInt8) (s : ByteArray) (w : World) (h : Bld w B b l) (hlen : l.length + s.size ≤ 70368744177664) (hBw : B ≤ w.heap.size) :
 Calls Tryz.prog 56 #[.pointer (some ⟨b, 0, none⟩), .string s] w fun e w' => e = .returned (.tuple #[.int .i64 s.size, .nilIface]) ∧ Bld w' B b (l ++ s.data.toList) ∧ Below B w w' := by
 obtain ⟨i0, hi, hz0, hz1, hz2⟩ := info_parts bextra.infoByte
 have hbl : (Lib.byteCells l).length = l.length := Lib.byteCells_length l
 have HBL := Lib.hid hbl
 clear hbl
 go_enter Tryz.func56, Tryz.ntmps56
 go_wp2_with fail
 refine (check_any B b l _ h).mono ?_
 rintro e w1 ⟨rfl, h1, hb1⟩
 obtain ⟨hB, v, hbk, hown, hne⟩ := h1
 have k0 : w1.cell? ⟨b, 0, none⟩ = some (.pointer (some ⟨b, 0, none⟩)) := by rw [Lib.cell_of_heap hbk]; rfl
 have k1 : w1.cell? ⟨b, 1, none⟩ = some v := by rw [Lib.cell_of_heap hbk]; rfl
 go_wp2_with (at_builtin; refine Lib.wpList_append_own_stringF _ rfl _ _ 66 9 rfl B 5 i0 Tryz.underlying66 Tryz.underlying9 hi hz0 hz1 hz2 _ _ _ rfl hown s rfl ?s1 ?s2 ?s3 ?_)
 case s1 => have := HBL.out; unfold maxLen; omega
 case s2 => have := HBL.out; omega
 case s3 => have := hb1.size; omega
 intro v2 w2 hown2 hgr _
 have hlt : b < w1.heap.size := (show Blk w1 b 114 _ from hbk).lt
 have hbk2 : w2.heap[b]? = some (.cells #[.pointer (some ⟨b, 0, none⟩), v] 114 (0, 0)) := (hgr.block b hlt (fun e => hne e.symm)).trans hbk
 have m0 : w2.cell? ⟨b, 0, none⟩ = some (.pointer (some ⟨b, 0, none⟩)) := by rw [Lib.cell_of_heap hbk2]; rfl
 have m1 : w2.cell? ⟨b, 1, none⟩ = some v := by rw [Lib.cell_of_heap hbk2]; rfl
 have mf : w2.frozen? ⟨b, 1, none⟩ = false := Lib.frozen_of_heap hbk2 1
 obtain ⟨ao, n2, cap, rfl⟩ : ∃ ao n2 cap, v2 = .slice ao n2 cap := by
  rcases hown2.2 with ⟨hv, _⟩ | ⟨g, cap, cur, fz, hv, _⟩
  · exact ⟨_, _, _, hv⟩
  · exact ⟨_, _, _, hv⟩
 go_wp2
 go_ret2
 refine ⟨rfl, .inr ?_, ?_⟩
 · rw [Lib.byteCells_append, ← Lib.strCells_eq]
   exact Lib.BuilderAtF.put hB hbk2 (by simpa [Lib.strCells_length] using hown2) (by decide)
 · exact (hb1.grown hgr (by have := hb1.size; omega) (fun k hk => (hown.lt k hk).1)).setCell (p := ⟨b, 1, none⟩) hB _
theorem bld_new (w : World) : Bld (w.alloc (.cells #[.pointer none, .slice none 0 0] 114)) w.heap.size w.heap.size [] := by
 refine .inl ⟨Nat.le_refl _, .slice none 0 0, heap_alloc_new w _, ⟨rfl, .inl ⟨rfl, rfl⟩⟩, by simp [Value.ownBlock]⟩
end Go.Proofs.YtnbboabaihddbaaGreat
namespace Go.Proofs.YtnbboabaihddbaaGreat
open Go.RowKit

def txts : List ByteArray → ByteArray
 | [] => ⟨#[]⟩
 | s :: r => txt s ++ txts r
theorem txts_append (a b : List ByteArray) : txts (a ++ b) = txts a ++ txts b := by
 induction a with
 | nil => show txts b = (⟨#[]⟩ : ByteArray) ++ txts b; apply ByteArray.ext; rw [ByteArray.data_append]; simp
 | cons x r ih => show txt x ++ txts (r ++ b) = txt x ++ txts r ++ txts b; rw [ih, ByteArray.append_assoc]
theorem txts_take (ss : List ByteArray) (k : Nat) (h : k < ss.length) : txts (ss.take (k + 1)) = txts (ss.take k) ++ txt (ss.getD k ByteArray.empty) := by
 rw [List.take_succ_eq_append_getElem h, txts_append]
 congr 1
 rw [List.getD_eq_getElem?_getD, List.getElem?_eq_getElem h]
 exact append_empty _
theorem txts_take_size (ss : List ByteArray) (k : Nat) : (txts (ss.take k)).size ≤ (txts ss).size := by
 have := txts_append (ss.take k) (ss.drop k)
 rw [List.take_append_drop] at this
 rw [this, ByteArray.size_append]
 omega
theorem txts_get_size (ss : List ByteArray) (k : Nat) : (ss.getD k ByteArray.empty).size ≤ (txts ss).size := by
 rcases Nat.lt_or_ge k ss.length with h | h
 · have h1 := txts_take_size ss (k + 1)
   rw [txts_take ss k h, ByteArray.size_append, txt_size] at h1
   omega
 · rw [List.getD_eq_getElem?_getD, List.getElem?_eq_none h]
   exact Nat.zero_le _
/-- a list's bytes -/
def listB (ss : List ByteArray) : ByteArray := ⟨#[76]⟩ ++ num4 ss.length ++ txts ss
theorem listB_size (ss : List ByteArray) : (listB ss).size = 5 + (txts ss).size := by
 unfold listB
 rw [ByteArray.size_append, ByteArray.size_append, num4_size]
 rfl

theorem Bld.below {w w' : World} {B b : Nat} {l : List UInt8} (h : Bld w B b l) (hb : Below w.heap.size w w') : Bld w' B b l := by
 have key : ∀ p, Lib.BuilderAtF 114 5 B b p (Lib.byteCells l) w → Lib.BuilderAtF 114 5 B b p (Lib.byteCells l) w' := by
  intro p hp
  have hlt := hp.lt
  obtain ⟨hB, v, hbk, hown, hne⟩ := hp
  exact ⟨hB, v, (hb.block b hlt).trans hbk, hown.kept (only_of_below hb none) (by cases hv : v.ownBlock <;> simp), hne⟩
 exact h.elim (fun x => .inl (key _ x)) (fun x => .inr (key _ x))
end Go.Proofs.YtnbboabaihddbaaGreat
namespace Go.Proofs.YtnbboabaihddbaaGreat
open Go.RowKit

set_option maxRecDepth 100000 in
set_option maxHeartbeats 1000000 in
theorem list_any (oa : Option Addr) (n cap : Nat) (ss : List ByteArray) (hn : ss.length = n) (hsz : (txts ss).size ≤ 1099511627776) (hn2 : n ≤ 1099511627776) (w : World) (hc : Strs w oa ss) :
 Calls Tryz.prog 33 #[.slice oa n cap] w fun e w' => e = .returned (.string (listB ss)) ∧ Below w.heap.size w w' := by
 have HC := Lib.hid hc
 have HN := Lib.hid hn
 have HM := Lib.hid (fun W => number_any (n : Int) W)
 have h4 := num4_size (n : Int)
 obtain ⟨N, hN⟩ : ∃ N, num4 (n : Int) = N := ⟨_, rfl⟩
 rw [hN] at HM h4
 have HNN := Lib.hid hN
 have H4 := Lib.hid h4
 clear hc hn hN h4
 go_enter Tryz.func33, Tryz.ntmps33
 go_wp2_with fail
 refine (bld_write w.heap.size w.heap.size [] ⟨#[76]⟩ _ (bld_new w) (by decide) (by simp)).mono ?_
 rintro e w1 ⟨rfl, hb1, hB1⟩
 have hB1' : Below w.heap.size w w1 := ((Below.refl _ w).alloc (Nat.le_refl _) _).trans hB1
 clear hB1
 go_wp2_with fail
 refine (HM.out _).mono ?_
 rintro e w2 ⟨rfl, hB2⟩
 have hb2 := hb1.below hB2
 have hB2' := hB1'.trans (hB2.mono hB1'.size)
 clear hb1 hB1' hB2
 go_wp2_with fail
 refine (bld_write w.heap.size w.heap.size _ N _ hb2 (by have := H4.out; simp; omega) hB2'.size).mono ?_
 rintro e w3 ⟨rfl, hb3, hB3⟩
 have hB3' := hB2'.trans hB3
 clear hb2 hB2' hB3
 have HE := Lib.hid (show ∀ k, (([] : List UInt8) ++ [76] ++ N.data.toList ++ (txts (ss.take k)).data.toList).length = 5 + (txts (ss.take k)).size by
  intro k
  have := H4.out
  simp only [List.length_append, Array.length_toList]
  show 0 + 1 + N.size + (txts (ss.take k)).size = _
  omega)
 have hz0 : Bld w3 w.heap.size w.heap.size (([] : List UInt8) ++ [76] ++ N.data.toList ++ (txts (ss.take 0)).data.toList) := by
  have e : (txts (ss.take 0)).data.toList = [] := rfl
  rw [e, List.append_nil]
  exact hb3
 have HF := Lib.hid (show (⟨(([] : List UInt8) ++ [76] ++ N.data.toList ++ (txts ss).data.toList).toArray⟩ : ByteArray) = listB ss by
  unfold listB
  rw [HN.out, HNN.out, ← of_toList (⟨#[76]⟩ ++ N ++ txts ss), toList_append, toList_append]
  rfl)
 clear hb3
 generalize ([] : List UInt8) ++ [76] ++ N.data.toList = l0 at *
 go_wp2
 go_loopw [13] (fun i wr => ∃ k : Nat, k ≤ n ∧ i = .int .i64 k ∧ Bld wr w.heap.size w.heap.size (l0 ++ (txts (ss.take k)).data.toList) ∧ Below w.heap.size w wr) (fun i _ => n - (intOf i).toNat)
 case atStart => exact ⟨0, by omega, rfl, hz0, hB3'⟩
 case round =>
  clear hz0 hB3'
  obtain ⟨k, hk, rfl, hb, hB⟩ := hrel
  by_cases hlt : k < n
  · have hlt' : (k : Int) < (n : Int) := by omega
    have hkl : k < ss.length := by have := HN.out; omega
    obtain ⟨a, rfl, hab, hc0⟩ := HC.out k hkl
    have hc : wr.cell? (a.add k) = some (.string (ss.getD k ByteArray.empty)) := (hB.cell (by rw [add_block]; exact hab)).trans hc0
    have HT := Lib.hid (txts_take ss k hkl)
    have hts := txts_get_size ss k
    have htk := txts_take_size ss (k + 1)
    rw [HT.out, ByteArray.size_append] at htk
    have HX := Lib.hid (fun W => text_any (ss.getD k ByteArray.empty) (by omega) W)
    generalize ss.getD k ByteArray.empty = x at *
    clear hc0 hkl
    go_wp2_with fail
    refine (HX.out _).mono ?_
    rintro e w5 ⟨rfl, hB5⟩
    have hb5 := hb.below hB5
    have hB5' := hB.trans (hB5.mono hB.size)
    generalize txt x = X at *
    clear hb hB hB5 hc
    go_wp2_with fail
    refine (bld_write w.heap.size w.heap.size _ X _ hb5 (by rw [HE.out]; omega) hB5'.size).mono ?_
    rintro e w6 ⟨rfl, hb6, hB6⟩
    have hB6' := hB5'.trans hB6
    rw [List.append_assoc, ← toList_append, ← HT.out] at hb6
    clear hb5 hB5' hB6
    go_wp2
    go_roundw
    case rel => exact ⟨k + 1, by omega, by go_num, hb6, hB6'⟩
    case measure => simp [intOf]; omega
  · obtain rfl : k = n := by omega
    have hall : ss.take k = ss := by rw [List.take_of_length_le]; have := HN.out; omega
    rw [hall] at hb
    clear hall hlt
    go_wp2_with fail
    refine (bld_string w.heap.size w.heap.size _ _ hb hB.size).mono ?_
    rintro e w7 ⟨rfl, hB7⟩
    have hB7' := hB.trans hB7
    rw [HF.out]
    go_wp2
    go_ret
    exact ⟨rfl, hB7'⟩
end Go.Proofs.YtnbboabaihddbaaGreat
namespace Go.Proofs.YtnbboabaihddbaaGreat
open Go.RowKit

/-- bytes as a number, the greatest first -/
def beV (l : List Nat) : Nat := l.foldl (fun a b => a * 256 + b) 0
def numV (s : ByteArray) : Nat := beV (nums s)
theorem beV_snoc (l : List Nat) (x : Nat) : beV (l ++ [x]) = beV l * 256 + x := by simp [beV]
theorem beV_lt (l : List Nat) (h : ∀ x ∈ l, x < 256) : beV l < 256 ^ l.length := by
 have key : ∀ (l : List Nat) (a : Nat), (∀ x ∈ l, x < 256) → l.foldl (fun a b => a * 256 + b) a < (a + 1) * 256 ^ l.length := by
  intro l
  induction l with
  | nil => intro a _; simp
  | cons x r ih =>
   intro a hx
   have h1 := ih (a * 256 + x) (fun y hy => hx y (by simp [hy]))
   have h2 := hx x (by simp)
   rw [List.foldl_cons, List.length_cons, Nat.pow_succ]
   refine Nat.lt_of_lt_of_le h1 ?_
   rw [Nat.mul_comm (256 ^ r.length) 256, ← Nat.mul_assoc]
   exact Nat.mul_le_mul_right _ (by omega)
 have := key l 0 h
 simpa [beV] using this
theorem beV_take_lt (x : ByteArray) (k : Nat) (hk : k ≤ 3) : beV ((nums x).take k) < 16777216 := by
 have h1 := beV_lt ((nums x).take k) (fun y hy => nums_lt x y (List.mem_of_mem_take hy))
 refine Nat.lt_of_lt_of_le h1 ?_
 show _ ≤ 256 ^ 3
 exact Nat.pow_le_pow_right (by decide) (by rw [List.length_take]; omega)

theorem nat_or_low (v b : Nat) (hb : b < 256) : (v * 256) ||| b = v * 256 + b := by
 have := Nat.shiftLeft_add_eq_or_of_lt (i := 8) (show b < 2 ^ 8 from hb) v
 rw [Nat.shiftLeft_eq] at this
 exact this.symm
theorem or_low (v b : Nat) (hv : v < 16777216) (hb : b < 256) : bits .or .i64 ((v : Int) * 256) (b : Int) = ((v * 256 + b : Nat) : Int) := by
 have e : (v : Int) * 256 = ((v * 256 : Nat) : Int) := by omega
 have hx : ∀ a : Nat, a < 9223372036854775808 → (BitVec.ofInt 64 (a : Int)).toNat = a := fun a ha => by
  rw [BitVec.ofInt_natCast, BitVec.toNat_ofNat]
  exact Nat.mod_eq_of_lt (by omega)
 rw [e]
 show IntKind.i64.wrap ((BitVec.ofInt 64 ((v * 256 : Nat) : Int) ||| BitVec.ofInt 64 (b : Int)).toNat : Int) = _
 rw [BitVec.toNat_or, hx _ (by omega), hx _ (by omega), nat_or_low v b hb, IntKind.wrap_i64]
 omega
end Go.Proofs.YtnbboabaihddbaaGreat
namespace Go.Proofs.YtnbboabaihddbaaGreat
open Go.RowKit

/-- what is cut off, n bytes, and what is left -/
def cutF (n : Int) (s : ByteArray) : ByteArray := if 0 ≤ n ∧ n ≤ s.size then s.extract 0 n.toNat else ⟨#[]⟩
def cutR (n : Int) (s : ByteArray) : ByteArray := if 0 ≤ n ∧ n ≤ s.size then s.extract n.toNat s.size else s
/-- the reader's state: block g holds what is not read yet -/
def Cut (w : World) (g : Nat) (s : ByteArray) : Prop := Blk w g 9 #[.string s]

set_option maxHeartbeats 400000 in
theorem cut_no (n : Int) (g : Nat) (s : ByteArray) (hs : s.size ≤ 9223372036854775807) (hn : n < 0 ∨ (s.size : Int) < n) (w : World) (h : Cut w g s) :
 Calls Tryz.prog 102 #[.int .i64 n, .pointer (some ⟨g, 0, none⟩)] w fun e w' => e = .returned (.string ⟨#[]⟩) ∧ w = w' := by
 have hc : w.cell? ⟨g, 0, none⟩ = some (.string s) := h.cell 0
 rcases hn with hn | hn
 · go_enter Tryz.func102, Tryz.ntmps102
   go_wp2
   go_ret
   exact ⟨rfl, rfl⟩
 · have hn0 : ¬ n < 0 := by omega
   go_enter Tryz.func102, Tryz.ntmps102
   go_wp2
   go_ret
   exact ⟨rfl, rfl⟩
set_option maxHeartbeats 400000 in
theorem cut_yes (n : Nat) (g : Nat) (s : ByteArray) (_ : s.size ≤ 9223372036854775807) (hn : n ≤ s.size) (w : World) (h : Cut w g s) :
 Calls Tryz.prog 102 #[.int .i64 n, .pointer (some ⟨g, 0, none⟩)] w fun e w' => e = .returned (.string (s.extract 0 n)) ∧ w.setCell ⟨g, 0, none⟩ (.string (s.extract n s.size)) = w' := by
 have hc : w.cell? ⟨g, 0, none⟩ = some (.string s) := h.cell 0
 have hf := h.frozen 0
 have hn' : ¬ (s.size : Int) < (n : Int) := by omega
 go_enter Tryz.func102, Tryz.ntmps102
 go_wp2
 go_ret
 exact ⟨rfl, rfl⟩
theorem Cut.lt {w : World} {g : Nat} {s : ByteArray} (h : Cut w g s) : g < w.heap.size := Blk.lt h
theorem Cut.below {w w' : World} {g : Nat} {s : ByteArray} (h : Cut w g s) (hb : Below w.heap.size w w') : Cut w' g s := Blk.below h hb h.lt
theorem only_put {a w : World} {g : Nat} (h : a.grownBy w (some g)) (o : Nat) (u : Value) : a.grownBy (w.setCell ⟨g, o, none⟩ u) (some g) :=
 ⟨h.os, h.tape, h.output, by simpa [World.setCell] using h.size, fun i hi hne => (Below.heap_setCell w ⟨g, o, none⟩ u i (by rintro rfl; exact hne rfl)).trans (h.block i hi hne)⟩
theorem only_refl (w : World) (g : Nat) : w.grownBy w (some g) := World.grownBy.refl _ _
theorem only_then {a b c : World} {g : Nat} (h : a.grownBy b (some g)) (k : Below b.heap.size b c) : a.grownBy c (some g) :=
 ⟨k.os.trans h.os, k.tape.trans h.tape, k.output.trans h.output, Nat.le_trans h.size k.size, fun i hi hne => (k.block i (Nat.lt_of_lt_of_le hi h.size)).trans (h.block i hi hne)⟩
theorem cut_any (n : Int) (g : Nat) (s : ByteArray) (hs : s.size ≤ 9223372036854775807) (w : World) (h : Cut w g s) :
 Calls Tryz.prog 102 #[.int .i64 n, .pointer (some ⟨g, 0, none⟩)] w fun e w' => e = .returned (.string (cutF n s)) ∧ Cut w' g (cutR n s) ∧ w.grownBy w' (some g) := by
 unfold cutF cutR
 by_cases hn : 0 ≤ n ∧ n ≤ s.size
 · rw [if_pos hn, if_pos hn]
   obtain ⟨k, rfl⟩ : ∃ k : Nat, n = k := ⟨n.toNat, by omega⟩
   refine (cut_yes k g s hs (by omega) w h).mono ?_
   rintro e w' ⟨rfl, rfl⟩
   exact ⟨rfl, Blk.set_ h 0 _, only_put (only_refl w g) 0 _⟩
 · rw [if_neg hn, if_neg hn]
   refine (cut_no n g s hs (by omega) w h).mono ?_
   rintro e w' ⟨rfl, rfl⟩
   exact ⟨rfl, h, only_refl w g⟩
theorem cutF_size (n : Int) (s : ByteArray) : (cutF n s).size ≤ s.size := by
 unfold cutF
 split
 · rw [ByteArray.size_extract]; omega
 · exact Nat.zero_le _
theorem cutR_size (n : Int) (s : ByteArray) : (cutR n s).size ≤ s.size := by
 unfold cutR
 split
 · rw [ByteArray.size_extract]; omega
 · exact Nat.le_refl _
theorem cutF4 (s : ByteArray) : (cutF 4 s).size = 4 ∨ (cutF 4 s).size = 0 := by
 unfold cutF
 split
 · rw [ByteArray.size_extract]; omega
 · exact .inr rfl

set_option maxHeartbeats 400000 in
theorem cutter_any (s : ByteArray) (w : World) :
 Calls Tryz.prog 84 #[.string s] w fun e w' => e = .returned (.func (.func 102) #[] #[.pointer (some ⟨w.heap.size, 0, none⟩)]) ∧ Cut w' w.heap.size s ∧ Below w.heap.size w w' := by
 go_enter Tryz.func84, Tryz.ntmps84
 go_wp2
 go_ret
 exact ⟨rfl, Blk.new w _ _, (Below.refl _ w).alloc (Nat.le_refl _) _⟩

set_option maxRecDepth 100000 in
set_option maxHeartbeats 1000000 in
theorem cutNumber_any (g : Nat) (s : ByteArray) (hs : s.size ≤ 9223372036854775807) (w : World) (h : Cut w g s) :
 Calls Tryz.prog 85 #[.func (.func 102) #[] #[.pointer (some ⟨g, 0, none⟩)]] w fun e w' => e = .returned (.int .i64 (numV (cutF 4 s) : Nat)) ∧ Cut w' g (cutR 4 s) ∧ w.grownBy w' (some g) := by
 have HC := Lib.hid (fun W hW => cut_any 4 g s hs W hW)
 have h4 := cutF4 s
 obtain ⟨x, hx⟩ : ∃ x, cutF 4 s = x := ⟨_, rfl⟩
 obtain ⟨r, hr⟩ : ∃ r, cutR 4 s = r := ⟨_, rfl⟩
 rw [hx, hr] at HC
 rw [hx] at h4 ⊢
 rw [hr]
 clear hx hr
 go_enter Tryz.func85, Tryz.ntmps85
 go_wp2_with fail
 refine (HC.out _ h).mono ?_
 rintro e w1 ⟨rfl, hc1, hg1⟩
 obtain ⟨w2, cap, hrun, hrow, hB2⟩ := run_bytes_brow (P := Tryz.prog) w1 9 66 5 x Tryz.underlying9 Tryz.underlying66 Tryz.underlying5
 have hc2 := hc1.below hB2
 have hg2 := only_then hg1 hB2
 have HN := Lib.hid (nums_length x)
 have hx4 : x.size ≤ 4 := by omega
 have HR := Lib.hid hrow
 have HX := Lib.hid h4
 generalize w1.heap.size = gb at *
 clear hc1 hg1 hB2 h h4 hrow
 go_wp2
 clear hrun
 go_loop [3, 10] (fun t i => ∃ k : Nat, k ≤ x.size ∧ i = .int .i64 k ∧ t = .int .i64 (beV ((nums x).take k) : Nat)) (fun _ i => x.size - (intOf i).toNat)
 case atStart => exact ⟨0, by omega, rfl, rfl⟩
 case round =>
  obtain ⟨k, hk, rfl, rfl⟩ := hrel
  by_cases hlt : k < x.size
  · have hlt' : (k : Int) < (x.size : Int) := by omega
    have hv := beV_take_lt x k (by omega)
    have hcell := HR.out.cells k (by rw [HN.out]; exact hlt)
    have HT := Lib.hid (show beV ((nums x).take (k + 1)) = beV ((nums x).take k) * 256 + (nums x).getD k 0 by
     rw [List.take_succ_eq_append_getElem (by rw [HN.out]; exact hlt), beV_snoc]
     congr 1
     rw [List.getD_eq_getElem?_getD, List.getElem?_eq_getElem (by rw [HN.out]; exact hlt)]
     rfl)
    have hb : (nums x).getD k 0 < 256 := by
     rw [List.getD_eq_getElem?_getD, List.getElem?_eq_getElem (by rw [HN.out]; exact hlt)]
     exact nums_lt x _ (List.getElem_mem _)
    unfold U8 at hcell
    generalize (nums x).getD k 0 = b at *
    obtain ⟨V, hV⟩ : ∃ V, beV ((nums x).take k) = V := ⟨_, rfl⟩
    rw [hV] at hv HT ⊢
    clear hV
    have HO := Lib.hid (or_low V b hv hb)
    go_wp2
    go_round
    case rel => exact ⟨k + 1, by omega, by go_num, by rw [HO.out, HT.out]⟩
    case measure => simp [intOf]; omega
  · have hkx : k = x.size := by omega
    have HF := Lib.hid (show beV ((nums x).take k) = numV x by
     unfold numV
     rw [List.take_of_length_le (by rw [HN.out]; omega)])
    have hge : ¬ (k : Int) < (x.size : Int) := by omega
    clear hlt hkx
    rw [HF.out]
    go_wp2
    go_ret
    exact ⟨rfl, hc2, hg2⟩

set_option maxRecDepth 100000 in
set_option maxHeartbeats 400000 in
theorem cutText_any (g : Nat) (s : ByteArray) (hs : s.size ≤ 9223372036854775807) (w : World) (h : Cut w g s) :
 Calls Tryz.prog 86 #[.func (.func 102) #[] #[.pointer (some ⟨g, 0, none⟩)]] w fun e w' => e = .returned (.string (cutF (numV (cutF 4 s) : Nat) (cutR 4 s))) ∧ Cut w' g (cutR (numV (cutF 4 s) : Nat) (cutR 4 s)) ∧ w.grownBy w' (some g) := by
 have HN := Lib.hid (fun W hW => cutNumber_any g s hs W hW)
 have hr := cutR_size 4 s
 generalize numV (cutF 4 s) = n at *
 generalize cutR 4 s = r at *
 have HC := Lib.hid (fun W hW => cut_any (n : Int) g r (by omega) W hW)
 generalize cutF (n : Int) r = x at *
 generalize cutR (n : Int) r = y at *
 go_enter Tryz.func86, Tryz.ntmps86
 go_wp2_with fail
 refine (HN.out _ h).mono ?_
 rintro e w1 ⟨rfl, hc1, hg1⟩
 go_wp2_with fail
 refine (HC.out _ hc1).mono ?_
 rintro e w2 ⟨rfl, hc2, hg2⟩
 have hg3 := only_trans hg1 hg2
 go_wp2
 go_ret
 exact ⟨rfl, hc2, hg3⟩
end Go.Proofs.YtnbboabaihddbaaGreat
