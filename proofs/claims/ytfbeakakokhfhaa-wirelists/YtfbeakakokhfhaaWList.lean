/-
  Lists of texts as bytes: the program's List and the reference's; what every law asks first.
-/
import Derived.Test.YtfbeakakokhfhaaWNum
import Derived.Test.YtfbeakakokhfhaaWBld
namespace Go.Proofs.Ytfbeakakokhfhaa
open Go.RowKit

def txts : List ByteArray → ByteArray
  | [] => ⟨#[]⟩
  | s :: r => txt s ++ txts r
theorem txts_append (a b : List ByteArray) : txts (a ++ b) = txts a ++ txts b := by
  induction a with
  | nil => show txts b = (⟨#[]⟩ : ByteArray) ++ txts b; apply ByteArray.ext; rw [ByteArray.data_append]; simp
  | cons x r ih => show txt x ++ txts (r ++ b) = txt x ++ txts r ++ txts b; rw [ih, ByteArray.append_assoc]
theorem empty_append (b : ByteArray) : (⟨#[]⟩ : ByteArray) ++ b = b := by apply ByteArray.ext; rw [ByteArray.data_append]; simp
theorem append_empty (b : ByteArray) : b ++ (⟨#[]⟩ : ByteArray) = b := by apply ByteArray.ext; rw [ByteArray.data_append]; simp
theorem txts_take (ss : List ByteArray) (k : Nat) (h : k < ss.length) : txts (ss.take (k + 1)) = txts (ss.take k) ++ txt (ss.getD k ByteArray.empty) := by
  rw [List.take_succ_eq_append_getElem h, txts_append]
  congr 1
  rw [List.getD_eq_getElem?_getD, List.getElem?_eq_getElem h]
  exact append_empty _
theorem txts_take_size (ss : List ByteArray) (k : Nat) : (txts (ss.take k)).size ≤ (txts ss).size := by
  have := txts_append (ss.take k) (ss.drop k)
  rw [List.take_append_drop] at this
  rw [this, ByteArray.size_append]
  omega
theorem txts_get_size (ss : List ByteArray) (k : Nat) : (ss.getD k ByteArray.empty).size ≤ (txts ss).size := by
  rcases Nat.lt_or_ge k ss.length with h | h
  · have h1 := txts_take_size ss (k + 1)
    rw [txts_take ss k h, ByteArray.size_append, txt_size] at h1
    omega
  · rw [List.getD_eq_getElem?_getD, List.getElem?_eq_none h]
    exact Nat.zero_le _
/-- a list's bytes -/
def listB (ss : List ByteArray) : ByteArray := ⟨#[76]⟩ ++ num4 ss.length ++ txts ss
theorem listB_size (ss : List ByteArray) : (listB ss).size = 5 + (txts ss).size := by
  unfold listB
  rw [ByteArray.size_append, ByteArray.size_append, num4_size]
  rfl

/-- the slice at oa reads as the texts ss -/
def Strs (w : World) (oa : Option Addr) (ss : List ByteArray) : Prop := ∀ i, i < ss.length → ∃ a, oa = some a ∧ a.block < w.heap.size ∧ w.cell? (a.add i) = some (.string (ss.getD i ByteArray.empty))
theorem Strs.below {w w' : World} {oa : Option Addr} {ss : List ByteArray} (h : Strs w oa ss) (hb : Below w.heap.size w w') : Strs w' oa ss := by
  intro i hi
  obtain ⟨a, rfl, hab, hc⟩ := h i hi
  exact ⟨a, rfl, Nat.lt_of_lt_of_le hab hb.size, (hb.cell (by rw [add_block]; exact hab)).trans hc⟩
theorem str_load {w : World} {p : Addr} {x : ByteArray} (h : w.cell? p = some (.string x)) : (loadVar 9 p).run Try.prog w = .ok (.string x) w := by
  go_simp

theorem only_of_below {a w : World} (h : Below a.heap.size a w) (row : Option Nat) : a.grownBy w row := ⟨h.os, h.tape, h.output, h.size, fun i hi _ => h.block i hi⟩
theorem Bld.below {w w' : World} {B b : Nat} {l : List UInt8} (h : Bld w B b l) (hb : Below w.heap.size w w') : Bld w' B b l := by
  have key : ∀ p, Lib.BuilderAtF 56 5 B b p (Lib.byteCells l) w → Lib.BuilderAtF 56 5 B b p (Lib.byteCells l) w' := by
    intro p hp
    have hlt := hp.lt
    obtain ⟨hB, v, hbk, hown, hne⟩ := hp
    exact ⟨hB, v, (hb.block b hlt).trans hbk, hown.kept (only_of_below hb none) (by cases hv : v.ownBlock <;> simp), hne⟩
  exact h.elim (fun x => .inl (key _ x)) (fun x => .inr (key _ x))
theorem toList_append (a b : ByteArray) : (a ++ b).data.toList = a.data.toList ++ b.data.toList := by rw [ByteArray.data_append]; simp
theorem of_toList (a : ByteArray) : (⟨a.data.toList.toArray⟩ : ByteArray) = a := by cases a; simp

set_option maxRecDepth 100000 in
set_option maxHeartbeats 1000000 in
theorem list_any (oa : Option Addr) (n cap : Nat) (ss : List ByteArray) (hn : ss.length = n) (hsz : (txts ss).size ≤ 1099511627776) (hn2 : n ≤ 1099511627776) (w : World) (hc : Strs w oa ss) :
    Calls Try.prog 22 #[.slice oa n cap] w fun e w' => e = .returned (.string (listB ss)) ∧ Below w.heap.size w w' := by
  have HC := Lib.hid hc
  have HN := Lib.hid hn
  have HM := Lib.hid (fun W => number_any (n : Int) W)
  have h4 := num4_size (n : Int)
  obtain ⟨N, hN⟩ : ∃ N, num4 (n : Int) = N := ⟨_, rfl⟩
  rw [hN] at HM h4
  have HNN := Lib.hid hN
  have H4 := Lib.hid h4
  clear hc hn hN h4
  go_enter Try.func22, Try.ntmps22
  go_wp2_with fail
  refine (bld_write w.heap.size w.heap.size [] ⟨#[76]⟩ _ (bld_new w) (by decide) (by simp)).mono ?_
  rintro e w1 ⟨rfl, hb1, hB1⟩
  have hB1' : Below w.heap.size w w1 := ((Below.refl _ w).alloc (Nat.le_refl _) _).trans hB1
  clear hB1
  go_wp2_with fail
  refine (HM.out _).mono ?_
  rintro e w2 ⟨rfl, hB2⟩
  have hb2 := hb1.below hB2
  have hB2' := hB1'.trans (hB2.mono hB1'.size)
  clear hb1 hB1' hB2
  go_wp2_with fail
  refine (bld_write w.heap.size w.heap.size _ N _ hb2 (by have := H4.out; simp; omega) hB2'.size).mono ?_
  rintro e w3 ⟨rfl, hb3, hB3⟩
  have hB3' := hB2'.trans hB3
  clear hb2 hB2' hB3
  have HE := Lib.hid (show ∀ k, (([] : List UInt8) ++ [76] ++ N.data.toList ++ (txts (ss.take k)).data.toList).length = 5 + (txts (ss.take k)).size by
    intro k
    have := H4.out
    simp only [List.length_append, Array.length_toList]
    show 0 + 1 + N.size + (txts (ss.take k)).size = _
    omega)
  have hz0 : Bld w3 w.heap.size w.heap.size (([] : List UInt8) ++ [76] ++ N.data.toList ++ (txts (ss.take 0)).data.toList) := by
    have e : (txts (ss.take 0)).data.toList = [] := rfl
    rw [e, List.append_nil]
    exact hb3
  have HF := Lib.hid (show (⟨(([] : List UInt8) ++ [76] ++ N.data.toList ++ (txts ss).data.toList).toArray⟩ : ByteArray) = listB ss by
    unfold listB
    rw [HN.out, HNN.out, ← of_toList (⟨#[76]⟩ ++ N ++ txts ss), toList_append, toList_append]
    rfl)
  clear hb3
  generalize ([] : List UInt8) ++ [76] ++ N.data.toList = l0 at *
  go_wp2
  go_loopw [13] (fun i wr => ∃ k : Nat, k ≤ n ∧ i = .int .i64 k ∧ Bld wr w.heap.size w.heap.size (l0 ++ (txts (ss.take k)).data.toList) ∧ Below w.heap.size w wr) (fun i _ => n - (intOf i).toNat)
  case atStart => exact ⟨0, by omega, rfl, hz0, hB3'⟩
  case round =>
    clear hz0 hB3'
    obtain ⟨k, hk, rfl, hb, hB⟩ := hrel
    by_cases hlt : k < n
    · have hlt' : (k : Int) < (n : Int) := by omega
      have hkl : k < ss.length := by have := HN.out; omega
      obtain ⟨a, rfl, hab, hc0⟩ := HC.out k hkl
      have hc : wr.cell? (a.add k) = some (.string (ss.getD k ByteArray.empty)) := (hB.cell (by rw [add_block]; exact hab)).trans hc0
      have HT := Lib.hid (txts_take ss k hkl)
      have hts := txts_get_size ss k
      have htk := txts_take_size ss (k + 1)
      rw [HT.out, ByteArray.size_append] at htk
      have HX := Lib.hid (fun W => text_any (ss.getD k ByteArray.empty) (by omega) W)
      generalize ss.getD k ByteArray.empty = x at *
      clear hc0 hkl
      go_wp2_with fail
      refine (HX.out _).mono ?_
      rintro e w5 ⟨rfl, hB5⟩
      have hb5 := hb.below hB5
      have hB5' := hB.trans (hB5.mono hB.size)
      generalize txt x = X at *
      clear hb hB hB5 hc
      go_wp2_with fail
      refine (bld_write w.heap.size w.heap.size _ X _ hb5 (by rw [HE.out]; omega) hB5'.size).mono ?_
      rintro e w6 ⟨rfl, hb6, hB6⟩
      have hB6' := hB5'.trans hB6
      rw [List.append_assoc, ← toList_append, ← HT.out] at hb6
      clear hb5 hB5' hB6
      go_wp2
      go_roundw
      case rel => exact ⟨k + 1, by omega, by go_num, hb6, hB6'⟩
      case measure => simp [intOf]; omega
    · obtain rfl : k = n := by omega
      have hall : ss.take k = ss := by rw [List.take_of_length_le]; have := HN.out; omega
      rw [hall] at hb
      clear hall hlt
      go_wp2_with fail
      refine (bld_string w.heap.size w.heap.size _ _ hb hB.size).mono ?_
      rintro e w7 ⟨rfl, hB7⟩
      have hB7' := hB.trans hB7
      rw [HF.out]
      go_wp2
      go_ret
      exact ⟨rfl, hB7'⟩
end Go.Proofs.Ytfbeakakokhfhaa
