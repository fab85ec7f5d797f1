/-
  The table that sha.Make answers is the standard's, number by number.
-/
import Derived.Test.YtjmjkcgldencoaaTable
namespace Go.Proofs.Ytjmjkcgldencoaa
open Go.RowKit

def stdK : List Nat := [
  0x428a2f98, 0x71374491, 0xb5c0fbcf, 0xe9b5dba5, 0x3956c25b, 0x59f111f1, 0x923f82a4, 0xab1c5ed5,
  0xd807aa98, 0x12835b01, 0x243185be, 0x550c7dc3, 0x72be5d74, 0x80deb1fe, 0x9bdc06a7, 0xc19bf174,
  0xe49b69c1, 0xefbe4786, 0x0fc19dc6, 0x240ca1cc, 0x2de92c6f, 0x4a7484aa, 0x5cb0a9dc, 0x76f988da,
  0x983e5152, 0xa831c66d, 0xb00327c8, 0xbf597fc7, 0xc6e00bf3, 0xd5a79147, 0x06ca6351, 0x14292967,
  0x27b70a85, 0x2e1b2138, 0x4d2c6dfc, 0x53380d13, 0x650a7354, 0x766a0abb, 0x81c2c92e, 0x92722c85,
  0xa2bfe8a1, 0xa81a664b, 0xc24b8b70, 0xc76c51a3, 0xd192e819, 0xd6990624, 0xf40e3585, 0x106aa070,
  0x19a4c116, 0x1e376c08, 0x2748774c, 0x34b0bcb5, 0x391c0cb3, 0x4ed8aa4a, 0x5b9cca4f, 0x682e6ff3,
  0x748f82ee, 0x78a5636f, 0x84c87814, 0x8cc70208, 0x90befffa, 0xa4506ceb, 0xbef9a3f7, 0xc67178f2]
def stdH : List Nat := [0x6a09e667, 0xbb67ae85, 0x3c6ef372, 0xa54ff53a, 0x510e527f, 0x9b05688c, 0x1f83d9ab, 0x5be0cd19]
def prLit : List Nat := [2, 3, 5, 7, 11, 13, 17, 19, 23, 29, 31, 37, 41, 43, 47, 53, 59, 61, 67, 71, 73, 79, 83, 89, 97, 101, 103, 107, 109, 113, 127, 131, 137, 139, 149, 151, 157, 163, 167, 173, 179, 181, 191, 193, 197, 199, 211, 223, 227, 229, 233, 239, 241, 251, 257, 263, 269, 271, 277, 281, 283, 293, 307, 311]
theorem prs_lit : prs = prLit := by decide +kernel
theorem k_lit : ((List.range 64).all fun x => decide (frC (prLit.getD x 0) = stdK.getD x 0)) = true := by decide +kernel
theorem h_lit : ((List.range 8).all fun x => decide (frS (prLit.getD x 0) = stdH.getD x 0)) = true := by decide +kernel
theorem kOf_std (x : Nat) (h : x < 64) : kOf x = stdK.getD x 0 := by
  have := List.all_eq_true.1 k_lit x (List.mem_range.2 h)
  unfold kOf pr
  rw [prs_lit]
  simpa using this
theorem hOf_std (x : Nat) (h : x < 8) : hOf x = stdH.getD x 0 := by
  have := List.all_eq_true.1 h_lit x (List.mem_range.2 h)
  unfold hOf pr
  rw [prs_lit]
  simpa using this
def stepStd (cs : Array Value) (x : Fin 64) : Array Value :=
  if x.1 < 8 then (cs.setIfInBounds x.1 (U32 (stdK.getD x.1 0))).setIfInBounds (64 + x.1) (U32 (stdH.getD x.1 0)) else cs.setIfInBounds x.1 (U32 (stdK.getD x.1 0))
theorem step_std : step = stepStd := by
  funext cs x
  unfold step stepStd
  split
  · rw [kOf_std x.1 x.2, hOf_std x.1 ‹_›]
  · rw [kOf_std x.1 x.2]
def stdT : List Nat := stdK ++ stdH
/-- the table as a value -/
def tabV : Array Value := (stdT.map U32).toArray
theorem tab_std : tab (upto 64) = tabV := by
  unfold tab
  rw [step_std]
  kernel_rfl
theorem tabV_size : tabV.size = 72 := by kernel_rfl
theorem tabV_one : tabV.all (·.oneCell') = true := by kernel_rfl

theorem map_at {l : List Nat} {f : Nat → Value} {j : Nat} (h : j < l.length) : ((l.map f).toArray)[j]? = some (f (l.getD j 0)) := by
  simp [h, List.getD_eq_getElem?_getD]
theorem lt_of_all {l : List Nat} (h : l.all (fun x => decide (x < 4294967296)) = true) (j : Nat) : l.getD j 0 < 4294967296 := by
  rw [List.getD_eq_getElem?_getD]
  rcases hj : l[j]? with _ | x
  · simp
  · have := List.all_eq_true.1 h x (List.mem_of_getElem? hj)
    simpa using this
theorem stdK_lt (j : Nat) : stdK.getD j 0 < 4294967296 := lt_of_all (by decide +kernel) j
theorem stdH_lt (j : Nat) : stdH.getD j 0 < 4294967296 := lt_of_all (by decide +kernel) j

theorem make_std (w : World) : Calls Try.prog 5 #[] w fun e w' => e = .returned (.agg tabV) ∧ Below w.heap.size w w' := by
  have := make_any w
  rw [tab_std] at this
  exact this
end Go.Proofs.Ytjmjkcgldencoaa
