/-
  The iterator over stretches.
-/
import Derived.Test.YtmokkahkfmmnmaaRStr
import Derived.Lib.Hide
namespace Go.Proofs.Ytmokkahkfmmnmaa
open Go.RowKit Go.Shelf
attribute [local go_sem] Oper.semAt_some

/-- what is asked of bits.Len -/
def LenOf : Prop := ∀ (x : Nat) (W : World), 0 < x → x < 9223372036854775808 → Calls Try.prog 47 #[.int .u64 x] W fun e w' => e = .returned (.int .i64 ((Nat.log2 x + 1 : Nat) : Int)) ∧ w' = W
abbrev encN (x : Nat) : Array Value := #[.int .i64 ((x : Nat) : Int)]
set_option maxRecDepth 100000 in
set_option maxHeartbeats 1000000 in
theorem str1_in (HLN : Hid LenOf) (n l Bn : Nat) (hn : 1 ≤ n) (z : Int) (hz : z ≤ 9223372036854775807) (J : List Nat → World → Prop)
    (hY : ∀ (pre : List Nat) (x : Nat) (rest : List Nat) (W : World), strL z.toNat = pre ++ x :: rest → J pre W → YieldAt Fence.wide (n - 1) Try.prog l (encN x) W fun e W' => e = .returned (.bool true) ∧ J (pre ++ [x]) W')
    (W : World) (hB : W.cell? ⟨Bn, 0, none⟩ = some (.int .i64 z)) (h0 : J [] W) :
    CallsIn Fence.wide n Try.prog 46 #[.func (.yield l) #[] #[], .pointer (some ⟨Bn, 0, none⟩)] W fun e W' => (∃ v, e = .returned v) ∧ J (strL z.toNat) W' := by
  refine callsIn_of_wp Try.func46 rfl trivial ?_ rfl
  simp only [Try.ntmps46, List.size_toArray, List.length_cons, List.length_nil, Nat.reduceAdd, Nat.reduceSub, Array.replicate_succ, Array.replicate_zero, List.push_toArray, List.append_toArray, List.nil_append, List.cons_append]
  have HY := Lib.hid hY
  obtain ⟨L, hL⟩ : ∃ L, strL z.toNat = L := ⟨_, rfl⟩
  rw [hL] at HY ⊢
  clear hY
  gi_wp2
  gi_loopw [3] (fun v wr => ∃ (y : Int) (pre : List Nat), v = .int .i64 y ∧ y ≤ 9223372036854775807 ∧ L = pre ++ strL y.toNat ∧ J pre wr)
    (fun v _ => (intOf v).toNat)
  case atStart =>
    exact ⟨z, [], rfl, hz, hL.symm, h0⟩
  case round =>
    obtain ⟨y, pre, rfl, hy2, hx, hJs⟩ := hrel
    by_cases hpos : 0 < y
    · obtain ⟨r, rfl⟩ : ∃ r : Nat, y = (r : Int) := ⟨y.toNat, by omega⟩
      rw [Int.toNat_natCast] at hx
      have hr0 : 0 < r := by omega
      have hle := log2_le hr0
      have hlt := lt_log2 hr0
      rw [strL_pos hr0] at hx
      obtain ⟨fn, tmps, assign, body, hy, hRy⟩ := HY.out pre _ _ wr hx hJs
      have HLr := Lib.hid (fun W => HLN.out r W hr0 (by omega))
      obtain ⟨k, hk⟩ : ∃ k, Nat.log2 r = k := ⟨_, rfl⟩
      rw [hk] at hx hle hlt hy HLr hRy
      have hk62 : k ≤ 62 := by
        have h : 2 ^ k < 2 ^ 63 := by omega
        have := (Nat.pow_lt_pow_iff_right (by decide : 1 < 2)).1 h
        omega
      have hpow : ((2 ^ k : Nat) : Int) = (2 : Int) ^ k := by simp
      have hw : wrap64 ((2 : Int) ^ k) = ((2 ^ k : Nat) : Int) := by
        rw [← hpow]
        unfold wrap64
        omega
      have hp0 := Nat.two_pow_pos k
      dsimp only [encN] at hy
      obtain ⟨p, hp⟩ : ∃ p, 2 ^ k = p := ⟨_, rfl⟩
      rw [hp] at hx hle hy hw hp0 hRy
      clear hpow hk
      gi_wp2_with (refine ⟨trivial, ?_⟩; gi_at_call 47; refine (callsIn_wide.2 (HLr.out _)).mono ?_; rintro e w' ⟨rfl, rfl⟩)
      refine hRy.mono ?_
      rintro e W3 ⟨rfl, hJ3⟩
      rw [hw]
      clear hw hlt hk62 hp HLr hRy hy HY
      gi_wp2
      go_roundw
      case rel => exact ⟨(r : Int) - (p : Int), pre ++ [p], by go_num, by omega, by rw [hx, show ((r : Int) - (p : Int)).toNat = r - p by omega, List.append_assoc]; rfl, hJ3⟩
      case measure => simp [intOf]; omega
    · have he : y.toNat = 0 := by omega
      rw [he, strL_zero, List.append_nil] at hx
      subst hx
      clear he
      gi_wp2
      go_end0
      exact ⟨⟨_, rfl⟩, hJs⟩
theorem str1_hands (HLN : Hid LenOf) (n Bn : Nat) (hn : 1 ≤ n) (z : Int) (hz : z ≤ 9223372036854775807) (w : World) (hBn : Bn < w.heap.size) (hB : w.cell? ⟨Bn, 0, none⟩ = some (.int .i64 z)) :
    Hands n 46 #[.pointer (some ⟨Bn, 0, none⟩)] encN (strL z.toNat) w := fun l J W hW hY h0 =>
  str1_in HLN n l Bn hn z hz J hY W ((hW.cell (p := ⟨Bn, 0, none⟩) hBn).trans hB) h0
set_option maxRecDepth 100000 in
theorem stretches_in (n : Nat) (z : Int) (w : World) : CallsIn Fence.wide n Try.prog 29 #[.int .i64 z] w fun e w' =>
    e = .returned (.func (.func 46) #[] #[.pointer (some ⟨w.heap.size, 0, none⟩)]) ∧ w.alloc (.cells #[.int .i64 z] 3) = w' := by
  refine callsIn_wide.2 ?_
  go_enter Try.func29, Try.ntmps29
  go_wp2
  go_ret
  exact ⟨rfl, rfl⟩
end Go.Proofs.Ytmokkahkfmmnmaa
