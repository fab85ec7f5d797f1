/-
  The three hashers, and Hash, behind layer 1's texts.
-/
import Derived.Test.YtjdjndginacdnaaCHsh
import Derived.Test.YtjdjndginacdnaaRefSum
namespace Go.Proofs.Ytjdjndginacdnaa
open Go.RowKit

theorem nums_atC (s : ByteArray) {i : Nat} (h : i < s.size) : (nums s).getD i 0 = s[i].toNat := by
  simp [nums, List.getD_eq_getElem?_getD]
  rw [Array.getElem?_eq_getElem (by simpa using h)]
  rfl
theorem str_idxC (s : ByteArray) (j : Nat) (hj : j < s.size) (W : World) : (Instr.index 9 (.string s) (.int .i64 (j : Int))).run Try.prog W = .ok (.int .u8 ((nums s).getD j 0 : Nat)) W := by
  have h2 : (j : Int) < (s.size : Int) := by omega
  rw [nums_atC s hj]
  go_simp
/-- the weak hasher's number behind j bytes -/
def wkF (s : ByteArray) : Nat → Nat
  | 0 => 7
  | j + 1 => (wkF s j * 31 + (nums s).getD j 0 + j) % 1009
theorem wkF_lt (s : ByteArray) : ∀ j, wkF s j < 1009
  | 0 => by show 7 < 1009; decide
  | _ + 1 => Nat.mod_lt _ (by decide)
def wkL (s : ByteArray) (m : Nat) : List Nat := wkF s s.size % m :: List.replicate 31 0
def wkH (m : Nat) (s : ByteArray) : ByteArray := strN (wkL s m)
theorem wkH_size (m : Nat) (s : ByteArray) : (wkH m s).size = 32 := by unfold wkH; rw [strN_size]; rfl
def z32 : Array Value := Array.replicate 32 (.int .u8 0)
theorem make32C (W : World) : (Instr.makeSlice 57 (.int .i64 32) (.int .i64 32)).run Try.prog W = .ok (.slice (some ⟨W.heap.size, 0, none⟩) 32 32) (W.alloc (.cells z32 5)) := by
  obtain ⟨i0, hi, hz0, hz1, hz2⟩ := info_parts byteInfo
  have := run_makeSlice (P := Try.prog) W 57 5 i0 _ Try.underlying57 hi hz0 .i64 .i64 32 32 (by decide) (by decide) (by rw [hz1]; decide) (by rw [hz2]; decide) (by decide)
  have e : madeCells (Value.int IntKind.u8 0).cells (Int.toNat 32 * 1) = z32 := by kernel_rfl
  rw [this, hz1, e]
  rfl
theorem z32_at {j : Nat} (h : j < 32) : z32[j]? = some (.int .u8 0) := by unfold z32; simp [h]
theorem conv_wk (w : World) (B y : Nat) (hB : w.heap.size = B) : (convert 57 9 (.slice (some ⟨B, 0, none⟩) 32 32)).run Try.prog ((w.alloc (.cells z32 5)).setCell ⟨B, 0, none⟩ (.int .u8 (y : Int))) =
    .ok (.string (strN (y :: List.replicate 31 0))) ((w.alloc (.cells z32 5)).setCell ⟨B, 0, none⟩ (.int .u8 (y : Int))) := by
  have hb : Blk (w.alloc (.cells z32 5)) B 5 z32 := by rw [← hB]; exact Blk.new _ _ _
  have := conv_cells (P := Try.prog) ((w.alloc (.cells z32 5)).setCell ⟨B, 0, none⟩ (.int .u8 (y : Int))) 57 5 9 Try.underlying57 Try.underlying5 Try.underlying9 B 32 (y :: List.replicate 31 0) (fun j hj => by
    have hj' : j < 32 := by simpa using hj
    rw [(hb.set_ 0 (.int .u8 (y : Int))).cell]
    cases j with
    | zero => rw [Array.getElem?_setIfInBounds_self]; rfl
    | succ j =>
      rw [Array.getElem?_setIfInBounds_ne (by omega), z32_at hj']
      show _ = some (U8 ((List.replicate 31 0).getD j 0))
      rw [List.getD_eq_getElem?_getD, List.getElem?_replicate]
      split <;> rfl)
  exact this
set_option maxRecDepth 100000 in
set_option maxHeartbeats 1000000 in
theorem weak_any (s : ByteArray) (hs : s.size ≤ 1000) (m : Nat) (hm : 1 ≤ m) (hm5 : m ≤ 5) (w : World) : Calls Try.prog 42 #[.string s, .int .i64 m] w fun e w' => e = .returned (.string (wkH m s)) ∧ Below w.heap.size w w' := by
  obtain ⟨R, hR⟩ : ∃ R, wkH m s = R := ⟨_, rfl⟩
  rw [hR]
  have HR := Lib.hid hR
  clear hR
  obtain ⟨B, hB⟩ : ∃ B, w.heap.size = B := ⟨_, rfl⟩
  have hmk := make32C w
  go_enter Try.func42, Try.ntmps42
  go_wp2
  go_loop [5, 6] (fun k i => ∃ j : Nat, j ≤ s.size ∧ k = .int .i64 (wkF s j : Nat) ∧ i = .int .i64 j) (fun _ i => s.size - (intOf i).toNat)
  case atStart => exact ⟨0, by omega, rfl, rfl⟩
  case round =>
    obtain ⟨j, hj, rfl, rfl⟩ := hrel
    have hk := wkF_lt s j
    by_cases hlt : j < s.size
    · have hlt' : (j : Int) < (s.size : Int) := by omega
      have hx := str_idxC s j hlt
      have hb : (nums s).getD j 0 < 256 := by
        rw [nums_atC s hlt]; exact UInt8.toNat_lt _
      have HE := Lib.hid (show ((wkF s (j + 1) : Nat) : Int) = ((wkF s j : Nat) * 31 + ((nums s).getD j 0 : Nat) + (j : Nat) : Int) % 1009 by
        show (((wkF s j * 31 + (nums s).getD j 0 + j) % 1009 : Nat) : Int) = _
        omega)
      generalize wkF s j = k at *
      generalize (nums s).getD j 0 = b at *
      go_wp2
      go_round
      case rel => exact ⟨j + 1, by omega, by rw [HE.out], by go_num⟩
      case measure => simp [intOf]; omega
    · obtain rfl : j = s.size := by omega
      have hlt' : ¬ ((s.size : Nat) : Int) < ((s.size : Nat) : Int) := by omega
      obtain ⟨y, hy⟩ : ∃ y, wkF s s.size % m = y := ⟨_, rfl⟩
      have hyl : y < 5 := by rw [← hy]; have := Nat.mod_lt (wkF s s.size) (show 0 < m by omega); omega
      have HY := Lib.hid hy
      have e1 : ((wkF s s.size : Nat) : Int) % (m : Int) = (y : Int) := by rw [← hy]; omega
      have e1t : ((wkF s s.size : Nat) : Int).tmod (m : Int) = (y : Int) := by rw [Int.tmod_eq_emod_of_nonneg (by omega)]; exact e1
      have hcv := conv_wk w B y hB
      have hRL : strN (y :: List.replicate 31 0) = R := by rw [← HR.out, ← hy]; rfl
      rw [hRL] at hcv
      clear hRL
      have hm0 : ¬ (m : Int) = 0 := by omega
      have hbl : Blk (w.alloc (.cells z32 5)) B 5 z32 := by rw [← hB]; exact Blk.new _ _ _
      have cz := (hbl.cell 0).trans (z32_at (by decide))
      have fz := hbl.frozen 0
      have hBl : Below w.heap.size w (w.alloc (.cells z32 5)) := (Below.refl _ w).alloc (Nat.le_refl _) _
      have hBl2 := hBl.setCell (p := ⟨B, 0, none⟩) (by show w.heap.size ≤ B; omega) (.int .u8 (y : Int))
      rw [hB] at hBl2
      generalize wkF s s.size = k at *
      generalize w.alloc (.cells z32 5) = w1 at *
      have ey : (y : Int) % 256 = y := by omega
      clear hy
      go_wp2
      go_ret
      exact ⟨rfl, hBl2⟩
theorem two_any (s : ByteArray) (hs : s.size ≤ 1000) (w : World) : Calls Try.prog 21 #[.string s] w fun e w' => e = .returned (.string (wkH 2 s)) ∧ Below w.heap.size w w' := by
  have H := Lib.hid (fun W => weak_any s hs 2 (by decide) (by decide) W)
  generalize wkH 2 s = R at *
  go_enter Try.func21, Try.ntmps21
  go_wp2_with fail
  refine (H.out _).mono ?_
  rintro e w' ⟨rfl, hb⟩
  go_wp2
  go_ret
  exact ⟨rfl, hb⟩
theorem five_any (s : ByteArray) (hs : s.size ≤ 1000) (w : World) : Calls Try.prog 22 #[.string s] w fun e w' => e = .returned (.string (wkH 5 s)) ∧ Below w.heap.size w w' := by
  have H := Lib.hid (fun W => weak_any s hs 5 (by decide) (by decide) W)
  generalize wkH 5 s = R at *
  go_enter Try.func22, Try.ntmps22
  go_wp2_with fail
  refine (H.out _).mono ?_
  rintro e w' ⟨rfl, hb⟩
  go_wp2
  go_ret
  exact ⟨rfl, hb⟩
theorem shaC_size (m : List Nat) : (SHA m).size = 32 := by unfold SHA dgst; rw [strN_size, flat_len, hstN_length]
def shaC (s : ByteArray) : ByteArray := SHA (nums s)
theorem full_any (s : ByteArray) (hs : s.size ≤ 1000) (w : World) : Calls Try.prog 16 #[.string s] w fun e w' => e = .returned (.string (shaC s)) ∧ Below w.heap.size w w' := by
  have H := Lib.hid (fun W => refsum_any s (by omega) W)
  change Hid (∀ W, Calls _ _ _ W fun e w' => e = .returned (.string (shaC s)) ∧ _) at H
  generalize shaC s = R at *
  go_enter Try.func16, Try.ntmps16
  go_wp2_with fail
  refine (H.out _).mono ?_
  rintro e w' ⟨rfl, hb⟩
  go_wp2
  go_ret
  exact ⟨rfl, hb⟩
theorem hsh_two : Hsh 21 (wkH 2) := ⟨enters_of Try.func21 (by kernel_rfl) rfl, wkH_size 2, fun s W hs => two_any s hs W⟩
theorem hsh_five : Hsh 22 (wkH 5) := ⟨enters_of Try.func22 (by kernel_rfl) rfl, wkH_size 5, fun s W hs => five_any s hs W⟩
theorem hsh_full : Hsh 16 shaC := ⟨enters_of Try.func16 (by kernel_rfl) rfl, fun s => shaC_size _, fun s W hs => full_any s hs W⟩
/-- one of the three -/
def hF (q : Nat) : ByteArray → ByteArray := if q % 3 = 0 then wkH 2 else if q % 3 = 1 then wkH 5 else shaC
theorem hF_size (q : Nat) (s : ByteArray) : (hF q s).size = 32 := by
  unfold hF
  split
  · exact wkH_size 2 s
  · split
    · exact wkH_size 5 s
    · exact shaC_size _
theorem hF0 {q : Nat} (h : q % 3 = 0) : hF q = wkH 2 := by unfold hF; rw [if_pos h]
theorem hF1 {q : Nat} (h : q % 3 = 1) : hF q = wkH 5 := by unfold hF; rw [if_neg (by omega), if_pos h]
theorem hF2 {q : Nat} (h : q % 3 = 2) : hF q = shaC := by unfold hF; rw [if_neg (by omega), if_neg (by omega)]
set_option maxRecDepth 100000 in
theorem hash_any (q : Nat) (hq : q < 256) (s : ByteArray) (W : World) (hs : s.size ≤ 1000) : Calls Try.prog 23 #[.int .u8 q, .string s] W fun e w' => e = .returned (.string (hF q s)) ∧ Below W.heap.size W w' := by
  rcases (show q % 3 = 0 ∨ q % 3 = 1 ∨ q % 3 = 2 by omega) with h | h | h
  · rw [hF0 h]
    have e : (q : Int) % 3 = 0 := by omega
    have H := Lib.hid (fun W => two_any s hs W)
    generalize wkH 2 s = R at *
    go_enter Try.func23, Try.ntmps23
    go_wp2_with fail
    refine (H.out _).mono ?_
    rintro e w' ⟨rfl, hb⟩
    go_wp2
    go_ret
    exact ⟨rfl, hb⟩
  · rw [hF1 h]
    have e : (q : Int) % 3 = 1 := by omega
    have H := Lib.hid (fun W => five_any s hs W)
    generalize wkH 5 s = R at *
    go_enter Try.func23, Try.ntmps23
    go_wp2_with fail
    refine (H.out _).mono ?_
    rintro e w' ⟨rfl, hb⟩
    go_wp2
    go_ret
    exact ⟨rfl, hb⟩
  · rw [hF2 h]
    have e : (q : Int) % 3 = 2 := by omega
    have H := Lib.hid (fun W => full_any s hs W)
    generalize shaC s = R at *
    go_enter Try.func23, Try.ntmps23
    go_wp2_with fail
    refine (H.out _).mono ?_
    rintro e w' ⟨rfl, hb⟩
    go_wp2
    go_ret
    exact ⟨rfl, hb⟩
end Go.Proofs.Ytjdjndginacdnaa
