/-
  The walk of the law ClashRoots.
-/
import Derived.Test.YtjdjndginacdnaaXRef2
import Derived.Test.YtjdjndginacdnaaXRoot
import Derived.Test.YtjdjndginacdnaaXAw
namespace Go.Proofs.Ytjdjndginacdnaa
open Go.RowKit

theorem rroot9_any (q : Nat) (hq : q < 256) (k : ByteArray) (th : Bool) (v s : ByteArray) (hf : few9 k v s = true) (w : World) :
    Calls Try.prog 9 #[.int .u8 q, .string k, .agg (ansA th v s)] w fun e w' => e = .returned (.tuple #[.string (rt9 (hF q) k th v s), .bool (may9 k th v s)]) ∧ Below w.heap.size w w' := by
  obtain ⟨_, _, hs⟩ := few9_parts hf
  by_cases h1 : 255 < k.size
  · exact rroot9_k q k th v s h1 w
  by_cases h2 : 255 < v.size
  · exact rroot9_v q k th v s (by omega) h2 w
  by_cases hz : th = true ∨ v.size = 0
  · by_cases h3 : s.size < 32
    · exact rroot9_s q k th v s (by omega) (by omega) hz h3 w
    by_cases h4 : s.size % 32 = 0
    · exact rroot9_in q hq k th v s (by omega) (by omega) hz (by omega) hs h4 w
    · exact rroot9_m q k th v s (by omega) (by omega) hz (by omega) h4 w
  · have ht : th = false := by cases th; rfl; exact absurd (.inl rfl) hz
    exact rroot9_n q k th v s (by omega) (by omega) ht (fun e => hz (.inr e)) w
/-- with one of the hashers -/
theorem lroot9_one (q : Nat) (k : ByteArray) (th : Bool) (v s : ByteArray) (R : ByteArray) (b : Bool) (w : World)
    (HC : ∀ W, (q % 3 = 0 → Calls Try.prog 15 #[.func (.func 21) #[] #[], .string k, .agg (ansA th v s)] W fun e w' => e = .returned (.tuple #[.string R, .bool b]) ∧ Below W.heap.size W w') ∧
      (q % 3 = 1 → Calls Try.prog 15 #[.func (.func 22) #[] #[], .string k, .agg (ansA th v s)] W fun e w' => e = .returned (.tuple #[.string R, .bool b]) ∧ Below W.heap.size W w') ∧
      (q % 3 = 2 → Calls Try.prog 15 #[.func (.func 16) #[] #[], .string k, .agg (ansA th v s)] W fun e w' => e = .returned (.tuple #[.string R, .bool b]) ∧ Below W.heap.size W w')) :
    Calls Try.prog 8 #[.int .u8 q, .string k, .agg (ansA th v s)] w fun e w' => e = .returned (.tuple #[.string R, .bool b]) ∧ Below w.heap.size w w' := by
  obtain ⟨w0, hw0⟩ : ∃ w0, w.alloc (.cells (ansA th v s) 23) = w0 := ⟨_, rfl⟩
  have b0 : Blk w0 w.heap.size 23 (ansA th v s) := by rw [← hw0]; exact Blk.new _ _ _
  have hB0 : Below w.heap.size w w0 := by rw [← hw0]; exact (Below.refl _ w).alloc (Nat.le_refl _) _
  have q0 : w0.cell? ⟨w.heap.size, 0, none⟩ = some (.bool th) := b0.cell 0
  have q1 : w0.cell? ⟨w.heap.size, 1, none⟩ = some (.string v) := b0.cell 1
  have q2 : w0.cell? ⟨w.heap.size, 2, none⟩ = some (.string s) := b0.cell 2
  have HW : Hid (w.alloc (.cells #[.bool th, .string v, .string s] 23) = w0) := Lib.hid hw0
  show Calls _ _ #[_, _, .agg #[.bool th, .string v, .string s]] _ _
  have HB0 := Lib.hid hB0
  clear hw0 b0 hB0
  rcases (show q % 3 = 0 ∨ q % 3 = 1 ∨ q % 3 = 2 by omega) with hh | hh | hh
  · have H1 := Lib.hid (fun W => (HC W).1 hh)
    change Hid (∀ W, Calls _ _ #[_, _, .agg #[.bool th, .string v, .string s]] W _) at H1
    have e1 : (q : Int) % 3 = 0 := by omega
    clear HC hh
    go_enter Try.func8, Try.ntmps8
    go_wp2_with (rw [HW.out])
    refine (H1.out _).mono ?_
    rintro e w' ⟨rfl, hb⟩
    have hB := HB0.out.trans (hb.mono HB0.out.size)
    go_wp2
    go_ret2
    exact ⟨rfl, hB⟩
  · have H1 := Lib.hid (fun W => (HC W).2.1 hh)
    change Hid (∀ W, Calls _ _ #[_, _, .agg #[.bool th, .string v, .string s]] W _) at H1
    have e1 : (q : Int) % 3 = 1 := by omega
    clear HC hh
    go_enter Try.func8, Try.ntmps8
    go_wp2_with (rw [HW.out])
    refine (H1.out _).mono ?_
    rintro e w' ⟨rfl, hb⟩
    have hB := HB0.out.trans (hb.mono HB0.out.size)
    go_wp2
    go_ret2
    exact ⟨rfl, hB⟩
  · have H1 := Lib.hid (fun W => (HC W).2.2 hh)
    change Hid (∀ W, Calls _ _ #[_, _, .agg #[.bool th, .string v, .string s]] W _) at H1
    have e1 : (q : Int) % 3 = 2 := by omega
    clear HC hh
    go_enter Try.func8, Try.ntmps8
    go_wp2_with (rw [HW.out])
    refine (H1.out _).mono ?_
    rintro e w' ⟨rfl, hb⟩
    have hB := HB0.out.trans (hb.mono HB0.out.size)
    go_wp2
    go_ret2
    exact ⟨rfl, hB⟩
theorem lroot9_any (q : Nat) (k : ByteArray) (th : Bool) (v s : ByteArray) (hf : few9 k v s = true) (w : World) :
    Calls Try.prog 8 #[.int .u8 q, .string k, .agg (ansA th v s)] w fun e w' => e = .returned (.tuple #[.string (rt9 (hF q) k th v s), .bool (may9 k th v s)]) ∧ Below w.heap.size w w' := by
  obtain ⟨hk, hv, hs⟩ := few9_parts hf
  refine lroot9_one q k th v s _ _ w fun W => ⟨fun e => ?_, fun e => ?_, fun e => ?_⟩
  · rw [hF0 e]; exact root9_any hsh_two k th v s hk hv hs W
  · rw [hF1 e]; exact root9_any hsh_five k th v s hk hv hs W
  · rw [hF2 e]; exact root9_any hsh_full k th v s hk hv hs W
set_option maxRecDepth 100000 in
set_option maxHeartbeats 1000000 in
theorem law_roots9 (q : Int) (hq9 : 0 ≤ q ∧ q ≤ 255) (k : ByteArray) (_ : k.size ≤ 9223372036854775807) (th : Bool) (v s : ByteArray) (w : World) :
    Calls Try.prog 3 #[.int .u8 q, .string k, .agg #[.bool th, .string v, .string s]] w fun e w' => e = .returned (.bool true) ∧ Below w.heap.size w w' := by
  obtain ⟨q, rfl⟩ := Int.eq_ofNat_of_zero_le hq9.1
  have hq : q < 256 := by omega
  have HAW := Lib.hid awake9_any
  have HFE := Lib.hid (fun W => few9_any k th v s W)
  have HLR := Lib.hid (fun hf W => lroot9_any q k th v s hf W)
  have HRR := Lib.hid (fun hf W => rroot9_any q hq k th v s hf W)
  obtain ⟨w0, hw0⟩ : ∃ w0, w.alloc (.cells (ansA th v s) 23) = w0 := ⟨_, rfl⟩
  have b0 : Blk w0 w.heap.size 23 (ansA th v s) := by rw [← hw0]; exact Blk.new _ _ _
  have hB0 : Below w.heap.size w w0 := by rw [← hw0]; exact (Below.refl _ w).alloc (Nat.le_refl _) _
  have HW : Hid (w.alloc (.cells #[.bool th, .string v, .string s] 23) = w0) := Lib.hid hw0
  have HK0 := Lib.hid b0
  have HB0 := Lib.hid hB0
  change Hid (∀ W, Calls _ _ #[_, .agg #[.bool th, .string v, .string s]] W _) at HFE
  change Hid (_ → ∀ W, Calls _ _ #[_, _, .agg #[.bool th, .string v, .string s]] W _) at HLR
  change Hid (_ → ∀ W, Calls _ _ #[_, _, .agg #[.bool th, .string v, .string s]] W _) at HRR
  clear hw0 b0 hB0
  generalize rt9 (hF q) k th v s = R at *
  generalize may9 k th v s = M at *
  obtain ⟨F, hF⟩ : ∃ F, few9 k v s = F := ⟨_, rfl⟩
  rw [hF] at HFE HLR HRR
  have hqq : (R.toList == R.toList) = true := beq_self_eq_true _
  clear hF
  go_enter Try.func3, Try.ntmps3
  go_wp2_with (rw [HW.out])
  refine (HAW.out _).mono ?_
  rintro e w1 ⟨rfl, hb⟩
  have hB1 := HB0.out.trans (hb.mono HB0.out.size)
  have hK1 := HK0.out.below hb HK0.out.lt
  have q0 : w1.cell? ⟨w.heap.size, 0, none⟩ = some (.bool th) := hK1.cell 0
  have q1 : w1.cell? ⟨w.heap.size, 1, none⟩ = some (.string v) := hK1.cell 1
  have q2 : w1.cell? ⟨w.heap.size, 2, none⟩ = some (.string s) := hK1.cell 2
  clear hb HB0 HK0
  go_wp2_with fail
  refine (HFE.out _).mono ?_
  rintro e w2 ⟨rfl, hb⟩
  have hB2 := hB1.trans (hb.mono hB1.size)
  have hK2 := hK1.below hb hK1.lt
  clear hb hB1 hK1 HFE q0 q1 q2
  cases F
  · clear HLR HRR hK2
    go_wp2_with fail
    refine (HAW.out _).mono ?_
    rintro e w3 ⟨rfl, hb⟩
    have hB3 := hB2.trans (hb.mono hB2.size)
    go_wp2
    go_ret
    exact ⟨rfl, hB3⟩
  · have HLR1 := Lib.hid (HLR.out rfl)
    have HRR1 := Lib.hid (HRR.out rfl)
    have q0 : w2.cell? ⟨w.heap.size, 0, none⟩ = some (.bool th) := hK2.cell 0
    have q1 : w2.cell? ⟨w.heap.size, 1, none⟩ = some (.string v) := hK2.cell 1
    have q2 : w2.cell? ⟨w.heap.size, 2, none⟩ = some (.string s) := hK2.cell 2
    clear HLR HRR HAW
    go_wp2_with fail
    refine (HLR1.out _).mono ?_
    rintro e w3 ⟨rfl, hb⟩
    have hB3 := hB2.trans (hb.mono hB2.size)
    have hK3 := hK2.below hb hK2.lt
    have r0 : w3.cell? ⟨w.heap.size, 0, none⟩ = some (.bool th) := hK3.cell 0
    have r1 : w3.cell? ⟨w.heap.size, 1, none⟩ = some (.string v) := hK3.cell 1
    have r2 : w3.cell? ⟨w.heap.size, 2, none⟩ = some (.string s) := hK3.cell 2
    clear hb hB2 hK2 q0 q1 q2 HLR1 hK3
    go_wp2_with fail
    refine (HRR1.out _).mono ?_
    rintro e w4 ⟨rfl, hb⟩
    have hB4 := hB3.trans (hb.mono hB3.size)
    clear hb hB3 r0 r1 r2 HRR1
    go_wp2
    go_ret
    exact ⟨by simp, hB4⟩
end Go.Proofs.Ytjdjndginacdnaa
