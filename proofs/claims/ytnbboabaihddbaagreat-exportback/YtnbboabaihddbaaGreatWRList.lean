/-
 The reference's List.
-/
import Derived.Test.YtnbboabaihddbaaGreatWBldWStrsWListWBeWCut
namespace Go.Proofs.YtnbboabaihddbaaGreat
open Go.RowKit

set_option maxRecDepth 100000 in
set_option maxHeartbeats 1000000 in
theorem rlist_any (oa : Option Addr) (n cap : Nat) (ss : List ByteArray) (hn : ss.length = n) (hsz : (txts ss).size ≤ 1099511627776) (hn2 : n ≤ 1099511627776) (w : World) (hc : Strs w oa ss) :
 Calls Tryz.prog 37 #[.slice oa n cap] w fun e w' => e = .returned (.string (listB ss)) ∧ Below w.heap.size w w' := by
 have HC := Lib.hid hc
 have HN := Lib.hid hn
 have HM := Lib.hid (fun W => rnumber_any (n : Int) W)
 have h4 := num4_size (n : Int)
 have HF := Lib.hid (show ⟨#[76]⟩ ++ num4 (n : Int) ++ txts ss = listB ss by unfold listB; rw [hn])
 obtain ⟨N, hN⟩ : ∃ N, num4 (n : Int) = N := ⟨_, rfl⟩
 rw [hN] at HM h4 HF
 have hadd : ¬ (⟨#[76]⟩ : ByteArray).size + N.size > 9223372036854775807 := by rw [h4]; decide
 have HS : Hid ((⟨#[76]⟩ ++ N : ByteArray).size = 5) := by rw [ByteArray.size_append, h4]; rfl
 clear hc hn hN h4
 go_enter Tryz.func37, Tryz.ntmps37
 go_wp2_with fail
 refine (HM.out _).mono ?_
 rintro e w1 ⟨rfl, hB1⟩
 go_wp2
 have h0 : Hid ((⟨#[76]⟩ : ByteArray) ++ N = ⟨#[76]⟩ ++ N ++ txts (ss.take 0)) := by
  show _ = _ ++ (⟨#[]⟩ : ByteArray)
  rw [append_empty]
 generalize (⟨#[76]⟩ : ByteArray) ++ N = L0 at *
 clear hadd
 go_loopw [3, 4] (fun s i wr => ∃ k : Nat, ∃ a : ByteArray, k ≤ n ∧ i = .int .i64 k ∧ s = .string a ∧ Hid (a = L0 ++ txts (ss.take k)) ∧ Below w.heap.size w wr) (fun _ i _ => n - (intOf i).toNat)
 case atStart => exact ⟨0, L0, by omega, rfl, rfl, h0, hB1⟩
 case round =>
  clear hB1 h0
  obtain ⟨k, A, hk, rfl, rfl, HA, hB⟩ := hrel
  by_cases hlt : k < n
  · have hlt' : (k : Int) < (n : Int) := by omega
    have hkl : k < ss.length := by have := HN.out; omega
    obtain ⟨a, rfl, hab, hc0⟩ := HC.out k hkl
    have hc : wr.cell? (a.add k) = some (.string (ss.getD k ByteArray.empty)) := (hB.cell (by rw [add_block]; exact hab)).trans hc0
    have HT := Lib.hid (txts_take ss k hkl)
    have hts := txts_get_size ss k
    have htk := txts_take_size ss (k + 1)
    rw [HT.out, ByteArray.size_append] at htk
    have hAs : A.size = 5 + (txts (ss.take k)).size := by rw [HA.out, ByteArray.size_append, HS.out]
    have HX := Lib.hid (fun W => rtext_any (ss.getD k ByteArray.empty) (by omega) W)
    generalize ss.getD k ByteArray.empty = x at *
    have hadd : ¬ A.size + (txt x).size > 9223372036854775807 := by omega
    have HR := Lib.hid (show A ++ txt x = L0 ++ txts (ss.take (k + 1)) by rw [HT.out, HA.out, ByteArray.append_assoc])
    generalize txt x = X at *
    clear hc0 hkl hAs hts htk
    go_wp2_with fail
    refine (HX.out _).mono ?_
    rintro e w5 ⟨rfl, hB5⟩
    have hB5' := hB.trans (hB5.mono hB.size)
    clear hB hB5 hc
    go_wp2
    go_roundw
    case rel => exact ⟨k + 1, _, by omega, by go_num, rfl, HR, hB5'⟩
    case measure => simp [intOf]; omega
  · obtain rfl : k = n := by omega
    have hall : ss.take k = ss := by rw [List.take_of_length_le]; have := HN.out; omega
    have HL := Lib.hid (show A = listB ss by rw [HA.out, hall, HF.out])
    clear hall hlt
    go_wp2
    go_ret
    exact ⟨strEq HL.out, hB⟩
end Go.Proofs.YtnbboabaihddbaaGreat
