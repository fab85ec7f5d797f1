/-
  The padded message, in numbers.
-/
import Derived.Test.YtigmkhgaoamdkaaNew
namespace Go.Proofs.Ytigmkhgaoamdkaa
open Go.RowKit

/-- how many noughts go behind the byte 80 -/
def zs (n : Nat) : Nat := (119 - n % 64) % 64
/-- a number's eight bytes, the greatest first -/
def be8 (n : Nat) : List Nat := (List.range 8).map fun i => n / 256 ^ (7 - i) % 256
def padMsg (m : List Nat) : List Nat := m ++ [128] ++ List.replicate (zs m.length) 0 ++ be8 (m.length * 8)
theorem be8_length (n : Nat) : (be8 n).length = 8 := by simp [be8]
theorem be8_lt (n : Nat) : ∀ x ∈ be8 n, x < 256 := by
  intro x hx
  simp only [be8, List.mem_map] at hx
  obtain ⟨i, _, rfl⟩ := hx
  exact Nat.mod_lt _ (by decide)
theorem zs_lt (n : Nat) : zs n < 64 := Nat.mod_lt _ (by decide)
theorem zs_mod (n : Nat) : (n + 1 + zs n) % 64 = 56 := by unfold zs; omega
theorem zs_least (n k : Nat) (h : k < zs n) : (n + 1 + k) % 64 ≠ 56 := by unfold zs at h; omega
theorem padMsg_length (m : List Nat) : (padMsg m).length = m.length + 1 + zs m.length + 8 := by simp [padMsg, be8_length]; omega
theorem padMsg_mod (m : List Nat) : (padMsg m).length % 64 = 0 := by rw [padMsg_length]; have := zs_mod m.length; omega

theorem conv_bytes {P : Program} (w : World) (src e dst : TypeId) (hs : P.underlying src = some (.slice e)) (he : P.underlying e = some (.int .u8)) (hd : P.underlying dst = some .string) (base g cap : Nat) (l : List Nat)
    (hown : w.ownsRow base e 1 (.slice (some ⟨g, 0, none⟩) l.length cap) l.length (l.map U8)) : (convert src dst (.slice (some ⟨g, 0, none⟩) l.length cap)).run P w = .ok (.string (strN l)) w := by
  have := run_convert_bytes_arg (P := P) w src e hs he g 0 l.length cap (l.map fun (n : Nat) => (n : Int)) (by simp) (fun i hi => by
    have := hown.cells (g := g) rfl i (U8 (l.getD i 0)) (by simp [List.getD_eq_getElem?_getD, List.getElem?_eq_getElem hi])
    have e : (⟨g, 0, none⟩ : Addr).add i = ⟨g, 0 + i, none⟩ := by unfold Addr.add; split <;> simp_all
    rw [← e]
    refine this.trans ?_
    simp [U8, List.getD_eq_getElem?_getD, List.getElem?_eq_getElem hi]) dst hd
  rw [this]
  congr 2
  unfold strOfNums strN
  simp [List.map_map, Function.comp_def]
end Go.Proofs.Ytigmkhgaoamdkaa
