/-
  sha's rounds: eight words go through the rounds, each for every world.
-/
import Derived.Test.YtbkmclgddknijaaPrimBits
import Derived.Test.YtbkmclgddknijaaTable
import Derived.BigQuiet
import Derived.Deep.QuietTactic
import Derived.Deep.WholeRow
namespace Go.Proofs.Ytbkmclgddknijaa
open Go.RowKit

/-- eight words -/
structure S8 where
  a : Nat
  b : Nat
  c : Nat
  d : Nat
  e : Nat
  f : Nat
  g : Nat
  h : Nat
def S8.ok (s : S8) : Prop := s.a < 4294967296 ∧ s.b < 4294967296 ∧ s.c < 4294967296 ∧ s.d < 4294967296 ∧ s.e < 4294967296 ∧ s.f < 4294967296 ∧ s.g < 4294967296 ∧ s.h < 4294967296
def tOne (s : S8) (k w : Nat) : Nat := (s.h + bS1 s.e + cho s.e s.f s.g + k + w) % 4294967296
def tTwo (s : S8) : Nat := (bS0 s.a + mjr s.a s.b s.c) % 4294967296
/-- one round -/
def rnd (s : S8) (k w : Nat) : S8 := ⟨(tOne s k w + tTwo s) % 4294967296, s.a, s.b, s.c, (s.d + tOne s k w) % 4294967296, s.e, s.f, s.g⟩
/-- the first n rounds -/
def rnds (K W : Nat → Nat) (s : S8) : Nat → S8
  | 0 => s
  | n + 1 => rnd (rnds K W s n) (K n) (W n)
theorem rnd_ok {s : S8} (h : s.ok) (k w : Nat) : (rnd s k w).ok := by
  obtain ⟨h1, h2, h3, h4, h5, h6, h7, h8⟩ := h
  exact ⟨Nat.mod_lt _ (by decide), h1, h2, h3, Nat.mod_lt _ (by decide), h5, h6, h7⟩
theorem rnds_ok {K W : Nat → Nat} {s : S8} (h : s.ok) : ∀ n, (rnds K W s n).ok
  | 0 => h
  | n + 1 => rnd_ok (rnds_ok h n) _ _
def S8.vals (s : S8) : Array Value := #[U32 s.a, U32 s.b, U32 s.c, U32 s.d, U32 s.e, U32 s.f, U32 s.g, U32 s.h]

theorem vals_size (s : S8) : s.vals.size = 8 := rfl
theorem info8w : (Try.prog.info? 25).map (·.size) = some 8 := by kernel_rfl
theorem vals_one (s : S8) : s.vals.all (·.oneCell') = true := by kernel_rfl
theorem quiet_left {P : Program} {f : FuncId} {args : Array Value} {w : World} {n : Nat} {v : Value}
    (h : Calls P f args (w.drewN n) fun e w' => e = .returned v ∧ w.drewN n = w') : Calls P f args (w.drewN n) fun e w'' => e = .returned v ∧ ∃ m, w'' = w.drewN m :=
  h.mono fun _ _ ⟨he, hm⟩ => ⟨he, n, hm.symm⟩

def z8 : Array Value := Array.replicate 8 (U32 0)
theorem z8_size : z8.size = 8 := by simp [z8]
theorem z8_run (w : World) : (zeroValue 25).run Try.prog w = .ok (.agg z8) w := by kernel_rfl

set_option maxRecDepth 100000 in
set_option maxHeartbeats 1000000 in
theorem rounds_any (s : S8) (hs : s.ok) (kb wb : Nat) (K W : Nat → Nat) (hK : ∀ n, K n < 4294967296) (hW : ∀ n, W n < 4294967296) (w : World)
    (kl : kb < w.heap.size) (wl : wb < w.heap.size) (ck : ∀ n, n < 64 → w.cell? ⟨kb, n, none⟩ = some (.int .u32 (K n : Nat))) (cw : ∀ n, n < 64 → w.cell? ⟨wb, n, none⟩ = some (.int .u32 (W n : Nat))) :
    Calls Try.prog 63 #[.agg s.vals, .pointer (some ⟨kb, 0, none⟩), .pointer (some ⟨wb, 0, none⟩)] w fun e w' => e = .returned (.agg (rnds K W s 64).vals) ∧ Below w.heap.size w w' := by
  have hz := z8_run
  have CK := Lib.hid ck
  have CW := Lib.hid cw
  clear ck cw
  go_enter Try.func63, Try.ntmps63
  go_wp2
  obtain ⟨W0, hW0⟩ : ∃ W0, (w.alloc (Obj.cells s.vals 25)).alloc (Obj.cells z8 25) = W0 := ⟨_, rfl⟩
  rw [hW0]
  have b0 : Blk W0 w.heap.size 25 s.vals := by rw [← hW0]; exact (Blk.new _ _ _).alloc _
  have b1 : Blk W0 (w.heap.size + 1) 25 z8 := by rw [← hW0]; exact Blk.new_at (by simp)
  have hB : Below w.heap.size w W0 := by rw [← hW0]; exact ((Below.refl _ w).alloc (Nat.le_refl _) _).alloc (by simp) _
  clear hW0 hz
  have c0 := b0.cell 0
  have c1 := b0.cell 1
  have c2 := b0.cell 2
  have c3 := b0.cell 3
  have c4 := b0.cell 4
  have c5 := b0.cell 5
  have c6 := b0.cell 6
  have c7 := b0.cell 7
  simp only [S8.vals, U32, List.getElem?_toArray, List.getElem?_cons_zero, List.getElem?_cons_succ] at c0 c1 c2 c3 c4 c5 c6 c7
  go_quiet (fail)
  clear c0 c1 c2 c3 c4 c5 c6 c7
  go_wp2
  go_loopw [7, 8, 9, 10, 11, 12, 13, 14, 34] (fun a b c d e f g h i wr => ∃ n : Nat, n ≤ 64 ∧ i = .int .i64 n ∧ a = .int .u32 ((rnds K W s n).a : Nat) ∧ b = .int .u32 ((rnds K W s n).b : Nat) ∧ c = .int .u32 ((rnds K W s n).c : Nat) ∧
      d = .int .u32 ((rnds K W s n).d : Nat) ∧ e = .int .u32 ((rnds K W s n).e : Nat) ∧ f = .int .u32 ((rnds K W s n).f : Nat) ∧ g = .int .u32 ((rnds K W s n).g : Nat) ∧ h = .int .u32 ((rnds K W s n).h : Nat) ∧ Blk wr (w.heap.size + 1) 25 z8 ∧ Below w.heap.size w wr)
    (fun _ _ _ _ _ _ _ _ i _ => 64 - (intOf i).toNat)
  case atStart => exact ⟨0, by omega, rfl, rfl, rfl, rfl, rfl, rfl, rfl, rfl, rfl, b1, below_drewN hB _⟩
  case round =>
    obtain ⟨n, hn, rfl, rfl, rfl, rfl, rfl, rfl, rfl, rfl, rfl, hb1, hBr⟩ := hrel
    clear b0 b1 hB
    by_cases hlt : n < 64
    · have q1 : wr.cell? ⟨kb, n, none⟩ = some (.int .u32 (K n : Nat)) := (hBr.cell (p := ⟨kb, n, none⟩) kl).trans (CK.out n hlt)
      have q2 : wr.cell? ⟨wb, n, none⟩ = some (.int .u32 (W n : Nat)) := (hBr.cell (p := ⟨wb, n, none⟩) wl).trans (CW.out n hlt)
      have hk := hK n
      have hw := hW n
      have hlt' : (n : Int) < 64 := by omega
      obtain ⟨h1, h2, h3, h4, h5, h6, h7, h8⟩ := rnds_ok (K := K) (W := W) hs n
      have HR := Lib.hid (show rnds K W s (n + 1) = rnd (rnds K W s n) (K n) (W n) from rfl)
      generalize rnds K W s n = S at *
      generalize K n = kn at *
      generalize W n = wn at *
      go_wp2_with fail
      go_quiet ((first | (go_at_call 67; exact quiet_left (bS1_any _ h5 _)) | (go_at_call 68; exact quiet_left (cho_any _ _ _ h5 h6 h7 _))))
      go_wp2_with fail
      refine (bS0_any _ h1 _).mono ?_
      rintro e w' ⟨rfl, rfl⟩
      go_wp2_with fail
      refine (mjr_any _ _ _ h1 h2 h3 _).mono ?_
      rintro e w' ⟨rfl, rfl⟩
      go_wp2
      go_roundw
      case rel =>
        refine ⟨n + 1, by omega, by go_num, ?_, by rw [HR.out]; rfl, by rw [HR.out]; rfl, by rw [HR.out]; rfl, ?_, by rw [HR.out]; rfl, by rw [HR.out]; rfl, by rw [HR.out]; rfl, hb1, below_drewN hBr _⟩
        · rw [HR.out]; exact congrArg (Value.int .u32) (by simp [rnd, tOne, tTwo])
        · rw [HR.out]; exact congrArg (Value.int .u32) (by simp [rnd, tOne])
      case measure => simp [intOf]; omega
    · obtain rfl : n = 64 := by omega
      have ho : z8.size = (rnds K W s 64).vals.size := by rw [vals_size, z8_size]
      have HI := Lib.hid (show (Try.prog.info? 25).map (·.size) = some (rnds K W s 64).vals.size by rw [vals_size]; exact info8w)
      have HO := Lib.hid ho
      clear ho
      generalize hS : rnds K W s 64 = S at *
      have HS := Lib.hid hS
      clear hS
      go_wp2_with (refine wpList_build_as rfl 25 _ rfl S.vals (by kernel_rfl) ?_; refine wpList_store_row rfl 25 _ _ rfl (w.heap.size + 1) S.vals rfl rfl 25 z8 hb1 HI.out HO.out (vals_one S) ?_)
      refine bodyPost_ret (v := .agg S.vals) ?_ rfl ?_
      · exact results_cell_row rfl _ _ (w.heap.size + 1) 25 S.vals (0, 0) _ rfl (setRow_heap _ _ z8 _ _ _ hb1) Try.underlying25 rfl HI.out
      · exact ⟨by rw [HS.out], below_setRow hBr (by omega) _⟩
end Go.Proofs.Ytbkmclgddknijaa
