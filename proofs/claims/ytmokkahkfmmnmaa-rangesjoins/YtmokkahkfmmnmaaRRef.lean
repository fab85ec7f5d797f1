/-
  The roots of the stretches: the reference's.
-/
import Derived.Test.YtmokkahkfmmnmaaRMath
import Derived.Test.YtmokkahkfmmnmaaRInt
import Derived.Test.YtmokkahkfmmnmaaMRefRt
namespace Go.Proofs.Ytmokkahkfmmnmaa
open Go.RowKit

theorem take_snoc {L : List Nat} {k : Nat} (h : k < L.length) : L.take (k + 1) = L.take k ++ [L.getD k 0] := by
  rw [List.take_succ_eq_append_getElem h, List.getD_eq_getElem?_getD, List.getElem?_eq_getElem h]; rfl
theorem sum_step {L : List Nat} {k : Nat} (h : k < L.length) : (L.take (k + 1)).sum = (L.take k).sum + L.getD k 0 := by rw [take_snoc h]; simp
theorem chk_step {L : List Nat} {k : Nat} (h : k < L.length) (l : List ByteArray) : chk (L.take (k + 1)) l = chk (L.take k) l ++ [rootM ((l.drop (L.take k).sum).take (L.getD k 0))] := by rw [take_snoc h, chk_append]; rfl
theorem sum_le (L : List Nat) (k : Nat) : (L.take k).sum ≤ L.sum := by
  conv => rhs; rw [← List.take_append_drop k L, List.sum_append]
  omega
set_option maxRecDepth 100000 in
theorem slice_mid (oa : Option Addr) (n cap l h : Nat) (hl : l < h) (hh : h ≤ cap) (W : World) : (Instr.slice 22 (.slice oa n cap) (some (.int .i64 (l : Int))) (some (.int .i64 (h : Int))) none).run Try.prog W = .ok (.slice (oa.map (·.add l)) (h - l) (cap - l)) W := by
  rw [run_slice_lh W _ _ n cap Try.underlying22 .i64 .i64 (l : Int) (h : Int) (by omega) (by omega) (by omega)]
  have hs : (sizeOf (Try.prog.elem 22)).run Try.prog W = .ok 1 W := by kernel_rfl
  rw [hs]
  simp only [Result.andThen_ok, sliced, Int.toNat_natCast, if_neg (show ¬ cap = l by omega), Nat.mul_one]
theorem own_below {w a b : World} {v : Value} {B : Nat} {ss : List ByteArray} (h : Below w.heap.size w a) (hv : Own a B v ss) (hB : w.heap.size ≤ B) (hg : a.grownBy b v.ownBlock) : Below w.heap.size w b :=
  h.grown hg h.size (fun k hk => by
    rcases hv.2 with ⟨rfl, _⟩ | ⟨g, cap, cur, rfl, hge, _⟩
    · cases hk
    · simp [Value.ownBlock] at hk; omega)
theorem cell_kept_row {a b : World} {v : Value} {B : Nat} {ss : List ByteArray} {p : Addr} {u : Value} (hg : a.grownBy b v.ownBlock) (hv : Own a B v ss) (hc : a.cell? p = some u) (hp : p.block < B) : b.cell? p = some u := by
  have hlt : p.block < a.heap.size := by
    rcases Nat.lt_or_ge p.block a.heap.size with h | h
    · exact h
    · unfold World.cell? at hc
      rw [Array.getElem?_eq_none h] at hc
      simp at hc
  refine (World.cell?_of_block (hg.block p.block hlt ?_)).trans hc
  rcases hv.2 with ⟨rfl, _⟩ | ⟨g, cap, cur, rfl, hge, _⟩
  · simp [Value.ownBlock]
  · simp [Value.ownBlock]; omega
set_option maxRecDepth 100000 in
set_option maxHeartbeats 2000000 in
theorem rof_any (oa : Option Addr) (n cap : Nat) (ss : List ByteArray) (hn : ss.length = n) (h64 : n ≤ 64) (hcap : n ≤ cap) (hz : Sz ss) (w : World) (hc : Strs w oa ss) :
    Calls Try.prog 14 #[.slice oa n cap] w (RT (ofM ss) w) := by
  obtain ⟨L, hL⟩ : ∃ L, strL n = L := ⟨_, rfl⟩
  obtain ⟨m, hm⟩ : ∃ m, L.length = m := ⟨_, rfl⟩
  have hm64 : m ≤ 64 := by
    have := strL_len 63 n (by have : (2 : Nat) ^ 63 = 9223372036854775808 := by decide
                              omega)
    rw [← hm, ← hL]; omega
  have HS := Lib.hid (fun W => sizes_any n (by omega) W)
  rw [hL] at HS
  have HRT := Lib.hid (show ∀ e w', RT (ofM ss) w e w' = ∃ v, e = .returned v ∧ Own w' w.heap.size v (chk (L.take m) ss) ∧ Below w.heap.size w w' from fun _ _ => by
    unfold RT ofM
    rw [hn, hL, ← hm, List.take_length])
  have HP := Lib.hid (show ∀ k, k < m → 0 < L.getD k 0 ∧ (L.take (k + 1)).sum = (L.take k).sum + L.getD k 0 ∧ (L.take k).sum + L.getD k 0 ≤ n from fun k hk => by
    have h1 := sum_step (L := L) (k := k) (by omega)
    have h2 := sum_le L (k + 1)
    have h3 := strL_sum n
    rw [hL] at h3
    have h4 := strL_le (n := n) (x := L.getD k 0) (by rw [hL, List.getD_eq_getElem?_getD, List.getElem?_eq_getElem (by omega)]; exact List.getElem_mem _)
    exact ⟨h4.1, h1, by omega⟩)
  have HFS := Lib.hid (show ∀ k, k < m → chk (L.take (k + 1)) ss = chk (L.take k) ss ++ [rootM ((ss.drop (L.take k).sum).take (L.getD k 0))] from fun k hk => chk_step (by omega) ss)
  have HFL := Lib.hid (show ∀ k, k ≤ m → (chk (L.take k) ss).length = k from fun k hk => by rw [chk_length, List.length_take]; omega)
  have HR := Lib.hid (fun (a x : Nat) (h0 : a + x ≤ n) (W : World) (hW : Strs W oa ss) => rroot_any x (oa.map (·.add a)) (cap - a) ((ss.drop a).take x) (by rw [List.length_take, List.length_drop]; omega) (by omega) (by omega) ((hz.drop a).take x) W ((hW.drop a).take x))
  have HC := Lib.hid hc
  generalize RT (ofM ss) w = PO at *
  clear hn hz hc hL
  go_enter Try.func14, Try.ntmps14
  go_wp2_with fail
  refine (HS.out _).mono ?_
  rintro e w1 ⟨vs, rfl, hvs, hb1⟩
  obtain ⟨os, caps, rfl, hI, _⟩ := hvs.formc
  rw [hm]
  have HI := Lib.hid hI
  have HML := Lib.hid hm
  have hB1 : Below w.heap.size w w1 := hb1
  clear hvs hI hm hb1 HS
  go_wp2
  go_loopw [3, 5, 6] (fun v at_ i wr => ∃ k : Nat, k ≤ m ∧ i = .int .i64 k ∧ at_ = .int .i64 (((L.take k).sum : Nat) : Int) ∧ Own wr w1.heap.size v (chk (L.take k) ss) ∧ Below w1.heap.size w1 wr) (fun _ _ i _ => m - (intOf i).toNat)
  case atStart => exact ⟨0, by omega, rfl, rfl, own_nil _ _, Below.refl _ _⟩
  case round =>
    obtain ⟨k, hk, rfl, rfl, hown, hB⟩ := hrel
    by_cases hlt : k < m
    · have hlt' : (k : Int) < (m : Int) := by omega
      obtain ⟨hx0, hx1, hx2⟩ := HP.out k hlt
      have HX1 := Lib.hid hx1
      obtain ⟨a, rfl, hab, hc0⟩ := HI.out k (by have := HML.out; omega)
      have hcc : wr.cell? (a.add k) = some (vI (L.getD k 0)) := (hB.cell (by rw [add_block]; exact hab)).trans hc0
      have HFK := Lib.hid (HFS.out k hlt)
      have hlen : (chk (L.take k) ss).length ≤ 1073741824 := by rw [HFL.out k hk]; omega
      have hcw := (HC.out.below hB1).below hB
      have HRK := Lib.hid (fun W hW => HR.out (L.take k).sum (L.getD k 0) hx2 W hW)
      have HSM := Lib.hid (fun W => slice_mid oa n cap (L.take k).sum ((L.take k).sum + L.getD k 0) (by omega) (by omega) W)
      have HFL' := Lib.hid (HFL.out k hk)
      obtain ⟨x, HXD0⟩ : ∃ x, L.getD k 0 = x := ⟨_, rfl⟩
      rw [HXD0] at hx0 hx2 HX1 hcc HFK HRK HSM hc0
      have HC0 := Lib.hid hc0
      clear HXD0 hx1
      generalize rootM ((ss.drop (L.take k).sum).take x) = R at *
      generalize (L.take k).sum = A at *
      generalize chk (L.take k) ss = F at *
      dsimp only [vI] at hcc
      rw [show ((A + x : Nat) : Int) = (A : Int) + (x : Int) by omega, show A + x - A = x by omega] at HSM
      have hsm := HSM.out
      have hA64 : (A : Int) + (x : Int) ≤ 64 := by omega
      clear hc0 HSM
      go_wp2_with fail
      refine (HRK.out _ hcw).mono ?_
      rintro e w2 ⟨rfl, hb2⟩
      have hown2 := hown.below hb2
      have hB2 := hB.trans (hb2.mono hB.size)
      have hcc2 : w2.cell? (a.add k) = some (.int .i64 (x : Int)) := (hB2.cell (by rw [add_block]; exact hab)).trans HC0.out
      clear hcw hcc hb2 hown hB HRK
      go_wp2_with (refine wpList_append_txt rfl _ _ rfl w1.heap.size _ F rfl hown2 R rfl hlen hB2.size ?_; intro g cap' w3 hown3 hg3; have hcc3 : w3.cell? (a.add k) = some (.int .i64 (x : Int)) := (cell_kept_row hg3 hown2 hcc2 (by rw [add_block]; exact hab)); have hB3 := own_below hB2 hown2 (Nat.le_refl _) hg3)
      rw [HFL'.out] at hown3 ⊢
      go_wp2
      go_roundw
      case rel => exact ⟨k + 1, by omega, by go_num, by rw [HX1.out]; go_num, by rw [HFK.out]; exact hown3, hB3⟩
      case measure => simp [intOf]; omega
    · obtain rfl : k = m := by omega
      have hB' := hB1.trans (hB.mono hB1.size)
      have hown' := hown.mono hB1.size
      go_wp2
      rw [HRT.out]
      exact ⟨_, rfl, hown', hB'⟩
end Go.Proofs.Ytmokkahkfmmnmaa
