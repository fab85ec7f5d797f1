/-
  The reference's Bit; arrays of 257 texts.
-/
import Derived.Test.YtjdjndginacdnaaSBitM
import Derived.Test.YtjdjndginacdnaaSPair
namespace Go.Proofs.Ytjdjndginacdnaa
open Go.RowKit

def bitN (s : ByteArray) (i : Nat) : Nat := (nums s).getD (i / 8) 0 / 2 ^ (7 - i % 8) % 2
theorem bitN_eq (s : ByteArray) (i : Nat) : bitN s i = if bitS s i then 1 else 0 := by
  unfold bitS bitN
  have : (nums s).getD (i / 8) 0 / 2 ^ (7 - i % 8) % 2 < 2 := Nat.mod_lt _ (by decide)
  generalize (nums s).getD (i / 8) 0 / 2 ^ (7 - i % 8) % 2 = y at *
  rcases (show y = 0 ∨ y = 1 by omega) with rfl | rfl <;> rfl
set_option maxRecDepth 100000 in
set_option maxHeartbeats 400000 in
theorem rbit_any (s : ByteArray) (i : Nat) (hi : i < 256) (hs : 32 ≤ s.size) (w : World) : Calls Try.prog 24 #[.string s, .int .i64 i] w fun e w' => e = .returned (.int .i64 (bitN s i : Nat)) ∧ w' = w := by
  obtain ⟨j, hj⟩ : ∃ j, i / 8 = j := ⟨_, rfl⟩
  obtain ⟨m, hm⟩ : ∃ m, i % 8 = m := ⟨_, rfl⟩
  have he : ((i : Int) / 8) = (j : Int) := by omega
  have he2 : ((i : Int) % 8) = (m : Int) := by omega
  have hx := str_idx s j (by omega) w
  have HR : Hid (bitN s i = (nums s).getD j 0 / 2 ^ (7 - m) % 2) := Lib.hid (by unfold bitN; rw [hj, hm])
  rw [HR.out]
  have hX : (nums s).getD j 0 < 256 := by
    by_cases ht : j < (nums s).length
    · rw [List.getD_eq_getElem?_getD, List.getElem?_eq_getElem ht]; exact nums_lt s _ (List.getElem_mem ht)
    · rw [List.getD_eq_getElem?_getD, List.getElem?_eq_none (by omega)]; decide
  generalize (nums s).getD j 0 = X at *
  have hm8 : m < 8 := by omega
  obtain ⟨Z, hZ⟩ : ∃ Z, X / 2 ^ (7 - m) % 2 = Z := ⟨_, rfl⟩
  rw [hZ]
  have HZ := Lib.hid hZ
  clear hj hm HR hZ
  go_enter Try.func24, Try.ntmps24
  go_wp2
  go_loop [5, 6] (fun c k => ∃ t : Nat, m + t ≤ 7 ∧ c = .int .i64 (X / 2 ^ t : Nat) ∧ k = .int .i64 (m + t : Nat)) (fun _ k => 8 - (intOf k).toNat)
  case atStart => exact ⟨0, by omega, by simp, by simp; exact he2⟩
  case round =>
    obtain ⟨t, ht, rfl, rfl⟩ := hrel
    have hle : X / 2 ^ t ≤ X := Nat.div_le_self _ _
    by_cases hlt : m + t < 7
    · have HE := Lib.hid (show X / 2 ^ (t + 1) = X / 2 ^ t / 2 by rw [Nat.pow_succ, Nat.div_div_eq_div_mul])
      generalize X / 2 ^ t = Y at *
      have hlt' : ((m + t : Nat) : Int) < 7 := by omega
      generalize hmt : m + t = q at *
      go_wp2
      go_round
      case rel => exact ⟨t + 1, by omega, by rw [HE.out]; go_num, by rw [show m + (t + 1) = q + 1 by omega]; go_num⟩
      case measure => simp [intOf]; omega
    · obtain rfl : t = 7 - m := by omega
      have hlt' : ¬ ((m + (7 - m) : Nat) : Int) < 7 := by omega
      have hz := HZ.out
      generalize X / 2 ^ (7 - m) = Y at *
      generalize hmt : m + (7 - m) = q at *
      have HZZ := Lib.hid (show (Y : Int) % 2 = (Z : Int) by omega)
      clear hz
      go_wp2
      go_ret
      refine ⟨?_, rfl⟩
      rw [← HZZ.out]
      rfl
def emC (f : Nat → ByteArray) : Array Value := ((List.range 257).map fun d => Value.string (f d)).toArray
theorem emC_size (f : Nat → ByteArray) : (emC f).size = 257 := by simp [emC]
theorem emC_at (f : Nat → ByteArray) {d : Nat} (h : d < 257) : (emC f)[d]? = some (.string (f d)) := by simp [emC, h]
theorem emC_set (f f' : Nat → ByteArray) {d : Nat} (x : ByteArray) (hx : f' d = x) (ho : ∀ i, i < 257 → i ≠ d → f' i = f i) : (emC f).setIfInBounds d (.string x) = emC f' := by
  apply Array.ext
  · simp [emC]
  · intro i h1 h2
    have hi : i < 257 := by simpa [emC] using h2
    rw [Array.getElem_setIfInBounds (by simpa using h1)]
    by_cases h : d = i
    · subst h; simp [emC, hx]
    · rw [if_neg h]
      simp [emC, ho i hi (fun e => h e.symm)]
theorem emC_one (f : Nat → ByteArray) : (emC f).all (·.oneCell') = true := by
  rw [Array.all_eq_true_iff_forall_mem]
  intro v hv
  simp [emC] at hv
  obtain ⟨d, _, rfl⟩ := hv
  rfl
theorem infoEm : (Try.prog.info? 55).map (·.size) = some 257 := by kernel_rfl
theorem em_load {w : World} {g : Nat} {f : Nat → ByteArray} (h : Blk w g 55 (emC f)) : (loadVar 55 ⟨g, 0, none⟩).run Try.prog w = .ok (.agg (emC f)) w :=
  run_loadVar_row w g 55 55 (emC f) (0, 0) _ h Try.underlying55 rfl (by rw [emC_size]; exact infoEm)
end Go.Proofs.Ytjdjndginacdnaa
