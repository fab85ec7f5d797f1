/-
  Layer 10 in plain words: a child's seed, a signature of two levels, and whether it holds.
-/
import Derived.Test.YtbkmclgddknijaaOFront
import Derived.Test.YtbkmclgddknijaaORef3
namespace Go.Proofs.Ytbkmclgddknijaa
open Go.RowKit

def childB (seed : ByteArray) (k : Nat) : ByteArray := txt seed ++ ⟨#[99]⟩ ++ num4 k
theorem childB_size (seed : ByteArray) (k : Nat) : (childB seed k).size = seed.size + 9 := by
  unfold childB
  rw [ByteArray.size_append, ByteArray.size_append, txt_size, num4_size]
  show 4 + seed.size + 1 + 4 = _
  omega
/-- what a seed's key says of a child -/
def saysB (p : ByteArray) : ByteArray := ⟨#[67]⟩ ++ p
theorem saysB_size (p : ByteArray) : (saysB p).size = p.size + 1 := by
  unfold saysB
  rw [ByteArray.size_append]
  show 1 + p.size = _
  omega
def twoB (seed : ByteArray) (k q : Nat) (m : ByteArray) : ByteArray :=
  signB seed k (saysB (nodeB (childB seed k) 3 0)) ++ nodeB (childB seed k) 3 0 ++ signB (childB seed k) q m
theorem twoB_size (seed : ByteArray) (k q : Nat) (m : ByteArray) : (twoB seed k q m).size = 4520 := by
  unfold twoB
  rw [ByteArray.size_append, ByteArray.size_append, signB_size, signB_size, nodeB_size]
theorem extract_front (a b : ByteArray) {i : Nat} (hi : i = a.size) : (a ++ b).extract 0 i = a := by
  have := extract_mid ⟨#[]⟩ a b (i := 0) (j := i) rfl (by rw [hi]; show _ = 0 + _; omega)
  rwa [empty_append] at this
theorem extract_rest (a b : ByteArray) {i j : Nat} (hi : i = a.size) (hj : j = a.size + b.size) : (a ++ b).extract i j = b := by
  have := extract_mid a b ⟨#[]⟩ hi hj
  rwa [append_empty] at this
theorem two_ahead (seed : ByteArray) (k q : Nat) (m : ByteArray) : (twoB seed k q m).extract 0 2244 = signB seed k (saysB (nodeB (childB seed k) 3 0)) := by
  unfold twoB
  rw [ByteArray.append_assoc]
  exact extract_front _ _ (signB_size _ _ _).symm
theorem two_child (seed : ByteArray) (k q : Nat) (m : ByteArray) : (twoB seed k q m).extract 2244 2276 = nodeB (childB seed k) 3 0 := by
  unfold twoB
  exact extract_mid _ _ _ (signB_size _ _ _).symm (by rw [signB_size, nodeB_size])
theorem two_behind (seed : ByteArray) (k q : Nat) (m : ByteArray) : (twoB seed k q m).extract 2276 4520 = signB (childB seed k) q m := by
  unfold twoB
  exact extract_rest _ _ (by rw [ByteArray.size_append, signB_size, nodeB_size]) (by rw [ByteArray.size_append, signB_size, signB_size, nodeB_size])
/-- whether a signature of two levels holds, and with which number -/
def heldB (p m s : ByteArray) : Bool := decide (s.size = 4520) && (verB p (saysB (s.extract 2244 2276)) (s.extract 0 2244) && verB (s.extract 2244 2276) m (s.extract 2276 4520))
def numB (s : ByteArray) : Nat := 8 * (nums s).getD 3 0 + (nums s).getD 2279 0
def heldV (p m s : ByteArray) : Ending := .returned (.tuple #[.int .i64 (if heldB p m s then numB s else 0 : Nat), .bool (heldB p m s)])
theorem heldV_no {p m s : ByteArray} (h : heldB p m s = false) : heldV p m s = .returned (.tuple #[.int .i64 0, .bool false]) := by unfold heldV; rw [h]; rfl
theorem heldV_yes {p m s : ByteArray} (h : heldB p m s = true) : heldV p m s = .returned (.tuple #[.int .i64 (numB s : Nat), .bool true]) := by unfold heldV; rw [h]; rfl
theorem getD_ext (s : ByteArray) (i j k : Nat) (h : k < j - i) : (nums (s.extract i j)).getD k 0 = (nums s).getD (i + k) 0 := by
  rw [nums_ext, List.getD_eq_getElem?_getD, List.getD_eq_getElem?_getD, List.getElem?_take_of_lt h, List.getElem?_drop]
theorem ver_low {p m s : ByteArray} {i j : Nat} (hj : i + 2244 = j) (h : verB p m (s.extract i j) = true) : frontB (s.extract i j) = (nums s).getD (i + 3) 0 := by
  rw [← (front_low h).2, getD_ext _ _ _ _ (by omega)]
theorem ver_lt {p m s : ByteArray} (h : verB p m s = true) : frontB s < 8 := (of_decide_eq_true h).2.1
theorem ver_two (seed : ByteArray) (q : Nat) (m : ByteArray) (hq : q < 8) : verB (nodeB seed 3 0) m (signB seed q m) = true := by
  have hf := sign_front seed q m hq
  exact decide_eq_true ⟨signB_size seed q m, by rw [hf]; exact hq, by rw [hf]; exact sign_ver seed q m hq⟩
/-- what is signed is verified, with its number -/
theorem two_held (seed : ByteArray) (k q : Nat) (m : ByteArray) (hk : k < 8) (hq : q < 8) : heldB (nodeB seed 3 0) m (twoB seed k q m) = true := by
  unfold heldB
  rw [two_ahead, two_child, two_behind, ver_two _ _ _ hk, ver_two _ _ _ hq, twoB_size]
  rfl
theorem two_num (seed : ByteArray) (k q : Nat) (m : ByteArray) (hk : k < 8) (hq : q < 8) : numB (twoB seed k q m) = 8 * k + q := by
  have h1 := ver_two seed k (saysB (nodeB (childB seed k) 3 0)) hk
  have h2 := ver_two (childB seed k) q m hq
  rw [← two_ahead seed k q m] at h1
  rw [← two_behind seed k q m] at h2
  have e1 := ver_low (i := 0) rfl h1
  have e2 := ver_low (i := 2276) rfl h2
  rw [two_ahead, sign_front _ _ _ hk] at e1
  rw [two_behind, sign_front _ _ _ hq] at e2
  have e3 : (nums (twoB seed k q m)).getD 3 0 = k := e1.symm
  have e4 : (nums (twoB seed k q m)).getD 2279 0 = q := e2.symm
  unfold numB
  rw [e3, e4]
end Go.Proofs.Ytbkmclgddknijaa
