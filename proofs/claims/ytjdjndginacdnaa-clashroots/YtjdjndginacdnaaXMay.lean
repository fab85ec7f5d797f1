/-
  Layer 9: whether an answer may hold under some root.
-/
import Derived.Test.YtjdjndginacdnaaXOps
namespace Go.Proofs.Ytjdjndginacdnaa
open Go.RowKit

theorem eqT9 {a b : ByteArray} (h : a = b) : (a.toList == b.toList) = true ∧ (a.toList != b.toList) = false := by subst h; simp
theorem eqF9 {a b : ByteArray} (h : ¬ a = b) : (a.toList == b.toList) = false ∧ (a.toList != b.toList) = true := by
  have h1 : (a.toList == b.toList) = false := by
    rw [beq_eq_false_iff_ne]
    intro e
    rw [ByteArray.toList_eq, ByteArray.toList_eq] at e
    exact h (ByteArray.ext (Array.toList_inj.1 e))
  exact ⟨h1, by unfold bne; rw [h1]; rfl⟩
theorem empty_no {v : ByteArray} (h : v.size ≠ 0) : v.toList.isEmpty = false := by
  rw [ByteArray.toList_eq, List.isEmpty_eq_false_iff]
  intro e
  have := congrArg List.length e
  rw [Array.length_toList] at this
  exact h this
set_option maxRecDepth 100000 in
set_option maxHeartbeats 1000000 in
theorem well9_any (s : ByteArray) (hs : s.size ≤ 1073741824) (w : World) : Calls Try.prog 71 #[.string s] w fun e w' => e = .returned (.bool (wfS s)) ∧ w' = w := by
  by_cases h32 : s.size < 32
  · have h32' : (s.size : Int) < 32 := by omega
    have HR := Lib.hid (show wfS s = false by unfold wfS; simp; omega)
    rw [HR.out]
    go_enter Try.func71, Try.ntmps71
    go_wp2
    go_ret
    exact ⟨rfl, rfl⟩
  · have h32' : ¬ (s.size : Int) < 32 := by omega
    have HR := Lib.hid (show wfS s = decide (s.size = (1 + cntS s 256) * 32) by unfold wfS; simp; omega)
    have HC0 : Hid (cntS s (8 * 0) = 0) := Lib.hid rfl
    have HCS := Lib.hid (cntS_byte s)
    have HCL := Lib.hid (fun k => cntS_le s (8 * k))
    have HC2 : Hid (cntS s 256 = cntS s (8 * 32)) := Lib.hid rfl
    rw [HR.out, HC2.out]
    generalize hcf : (fun k => cntS s (8 * k)) = cf at *
    have hcf' : ∀ k, cntS s (8 * k) = cf k := fun k => by rw [← hcf]
    rw [hcf'] at HC0 ⊢
    simp only [hcf'] at HCS HCL
    have HO := Lib.hid (fun k W => ones_any ((nums s).getD k 0) (nums_get_lt s k) W)
    have HP := Lib.hid (fun k => pop8_le ((nums s).getD k 0))
    clear hcf hcf' HR HC2 h32
    go_enter Try.func71, Try.ntmps71
    go_wp2
    go_loop [3, 8] (fun t i => ∃ k : Nat, k ≤ 32 ∧ t = .int .i64 (cf k : Nat) ∧ i = .int .i64 k) (fun _ i => 32 - (intOf i).toNat)
    case atStart => exact ⟨0, by omega, by rw [HC0.out]; rfl, rfl⟩
    case round =>
      obtain ⟨k, hk, rfl, rfl⟩ := hrel
      have hcl := HCL.out k
      by_cases hlt : k < 32
      · have hlt' : (k : Int) < 32 := by omega
        have hx := str_idx s k (by omega) w
        have HO1 := Lib.hid (HO.out k)
        have hp := HP.out k
        have HC1 := Lib.hid (HCS.out k)
        generalize (nums s).getD k 0 = x at *
        generalize pop8 x = px at *
        go_wp2_with fail
        refine (HO1.out _).mono ?_
        rintro e w' ⟨rfl, rfl⟩
        go_wp2
        go_round
        case rel => exact ⟨k + 1, by omega, by rw [HC1.out]; go_num, by go_num⟩
        case measure => simp [intOf]; omega
      · obtain rfl : k = 32 := by omega
        clear hlt hk
        rw [show ((32 : Nat) : Int) = 32 from rfl]
        go_wp2
        go_ret
        refine ⟨boolEq ?_, rfl⟩
        rw [Bool.eq_iff_iff]
        simp
        omega
theorem may9_false {k : ByteArray} {th : Bool} {v s : ByteArray} (h : 255 < k.size ∨ 255 < v.size ∨ (th = false ∧ v.size ≠ 0)) : may9 k th v s = false := by
  rw [Bool.eq_false_iff]
  intro e
  obtain ⟨h1, h2, h3, _⟩ := may9_parts e
  rcases h with h | h | ⟨h, h'⟩
  · omega
  · omega
  · exact h' (h3 h)
theorem may9_wf {k : ByteArray} {th : Bool} {v s : ByteArray} (h1 : k.size ≤ 255) (h2 : v.size ≤ 255) (h3 : th = true ∨ v.size = 0) : may9 k th v s = wfS s := by
  unfold may9
  rw [decide_eq_true h1, decide_eq_true h2]
  rcases h3 with rfl | h3
  · simp
  · rw [decide_eq_true h3]; simp
set_option maxRecDepth 100000 in
set_option maxHeartbeats 1000000 in
theorem mayHold9_any (k : ByteArray) (th : Bool) (v s : ByteArray) (hk : k.size ≤ 1073741824) (hv : v.size ≤ 1073741824) (hs : s.size ≤ 1073741824) (w : World) :
    Calls Try.prog 49 #[.string k, .agg (ansA th v s)] w fun e w' => e = .returned (.bool (may9 k th v s)) ∧ Below w.heap.size w w' := by
  have HWE := Lib.hid (fun W => well9_any s hs W)
  obtain ⟨w0, hw0⟩ : ∃ w0, w.alloc (.cells (ansA th v s) 23) = w0 := ⟨_, rfl⟩
  have b0 : Blk w0 w.heap.size 23 (ansA th v s) := by rw [← hw0]; exact Blk.new _ _ _
  have hB0 : Below w.heap.size w w0 := by rw [← hw0]; exact (Below.refl _ w).alloc (Nat.le_refl _) _
  have q0 : w0.cell? ⟨w.heap.size, 0, none⟩ = some (.bool th) := b0.cell 0
  have q1 : w0.cell? ⟨w.heap.size, 1, none⟩ = some (.string v) := b0.cell 1
  have q2 : w0.cell? ⟨w.heap.size, 2, none⟩ = some (.string s) := b0.cell 2
  have HM := Lib.hid (@may9_false k th v s)
  have HMW := Lib.hid (@may9_wf k th v s)
  have HB0 := Lib.hid hB0
  have HW : Hid (w.alloc (.cells #[.bool th, .string v, .string s] 23) = w0) := Lib.hid hw0
  show Calls _ _ #[_, .agg #[.bool th, .string v, .string s]] _ _
  clear hw0 b0 hB0
  by_cases h1 : 255 < k.size
  · have h1' : (255 : Int) < (k.size : Int) := by omega
    rw [HM.out (.inl h1)]
    clear HM HMW HWE h1
    go_enter Try.func49, Try.ntmps49
    go_wp2_with (rw [HW.out])
    go_ret
    exact ⟨rfl, HB0.out⟩
  · have h1' : ¬ (255 : Int) < (k.size : Int) := by omega
    by_cases h2 : 255 < v.size
    · have h2' : (255 : Int) < (v.size : Int) := by omega
      rw [HM.out (.inr (.inl h2))]
      clear HM HMW HWE h1 h2
      go_enter Try.func49, Try.ntmps49
      go_wp2_with (rw [HW.out])
      go_ret
      exact ⟨rfl, HB0.out⟩
    · have h2' : ¬ (255 : Int) < (v.size : Int) := by omega
      cases th
      · by_cases hz : v.size = 0
        · rw [HMW.out (by omega) (by omega) (.inr hz)]
          have f1 : v.toList.isEmpty = true := by rw [size_nil hz, ByteArray.toList_eq]; rfl
          clear HM HMW h1 h2 hz
          go_enter Try.func49, Try.ntmps49
          go_wp2_with (rw [HW.out])
          refine (HWE.out _).mono ?_
          rintro e w' ⟨rfl, rfl⟩
          go_wp2
          go_ret
          exact ⟨rfl, HB0.out⟩
        · rw [HM.out (.inr (.inr ⟨rfl, hz⟩))]
          have f1 : v.toList.isEmpty = false := empty_no hz
          clear HM HMW HWE h1 h2 hz
          go_enter Try.func49, Try.ntmps49
          go_wp2_with (rw [HW.out])
          go_ret
          exact ⟨rfl, HB0.out⟩
      · rw [HMW.out (by omega) (by omega) (.inl rfl)]
        clear HM HMW h1 h2
        go_enter Try.func49, Try.ntmps49
        go_wp2_with (rw [HW.out])
        refine (HWE.out _).mono ?_
        rintro e w' ⟨rfl, rfl⟩
        go_wp2
        go_ret
        exact ⟨rfl, HB0.out⟩
end Go.Proofs.Ytjdjndginacdnaa
