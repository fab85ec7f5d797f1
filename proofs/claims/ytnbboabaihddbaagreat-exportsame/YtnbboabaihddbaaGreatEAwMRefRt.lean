/-
  What every law of layer 12 asks first; times that are looked at. Roots: the reference's.
-/
import Derived.Test.YtnbboabaihddbaaGreatEPre
import Derived.Test.YtnbboabaihddbaaGreatMMathMRoot
namespace Go.Proofs.YtnbboabaihddbaaGreat
open Go.RowKit

theorem exp0 : expB ⟨[], [], []⟩ = ⟨#[83, 76, 0, 0, 0, 0, 76, 0, 0, 0, 0]⟩ := by decide +kernel
set_option maxRecDepth 100000 in
set_option maxHeartbeats 400000 in
theorem awake12_any (w : World) : Calls Tryz.prog 8 #[] w fun e w' => e = .returned (.bool true) ∧ Below w.heap.size w w' := by
 have HX := Lib.hid (fun X => export_any (fun _ => True) zeroSt ⟨[], [], []⟩ InvW.nil X (zeroSt_at X _))
 rw [exp0] at HX
 have z1 := zeroS
 go_enter Tryz.func8, Tryz.ntmps8
 go_wp2_with fail
 refine (HX.out _).mono ?_
 rintro e w1 ⟨rfl, hb1⟩
 go_wp2
 go_ret
 exact ⟨rfl, hb1⟩
/-- what times answers -/
def RTimes (os : List OpR) (w : World) (e : Ending) (w' : World) : Prop := (∃ b, e = .returned (.bool b) ∧ (b = true → ∀ x ∈ os, x.now ≤ 2147483647)) ∧ Below w.heap.size w w'
set_option maxRecDepth 100000 in
set_option maxHeartbeats 1000000 in
theorem times_any (oa : Option Addr) (n cap : Nat) (os : List OpR) (hn : os.length = n) (hn2 : n ≤ 1000000) (w : World) (hR : RowG opK w oa os) :
 Calls Tryz.prog 10 #[.slice oa n cap] w (RTimes os w) := by
 have HRT := Lib.hid (show ∀ e w', RTimes os w e w' = ((∃ b, e = .returned (.bool b) ∧ (b = true → ∀ x ∈ os, x.now ≤ 2147483647)) ∧ Below w.heap.size w w') from fun _ _ => rfl)
 have HP := Lib.hid hR
 have HN := Lib.hid hn
 generalize RTimes os w = PO at *
 clear hR hn
 go_enter Tryz.func10, Tryz.ntmps10
 go_wp2
 go_loopw [3] (fun v wr => ∃ k : Nat, k ≤ n ∧ v = .int .i64 k ∧ Hid (∀ x ∈ os.take k, x.now ≤ 2147483647) ∧ Below w.heap.size w wr) (fun v _ => n - (intOf v).toNat)
 case atStart => exact ⟨0, by omega, rfl, Lib.hid (fun x hx => by cases hx), Below.refl _ _⟩
 case round =>
  obtain ⟨k, hk, rfl, HA, hB⟩ := hrel
  by_cases hlt : k < n
  · have hlt' : (k : Int) < (n : Int) := by omega
    have hkl : k < os.length := by have := HN.out; omega
    obtain ⟨g, o, rfl, hg, _, _, _, _, _, _, c6⟩ := op_at HP.out (i := k) hkl
    have HTK := Lib.hid (show os.take (k + 1) = os.take k ++ [os[k]] from List.take_succ_eq_append_getElem hkl)
    have c := (hB.cell (p := ⟨g, o + k * 7 + 6, none⟩) hg).trans c6
    generalize os[k] = x at *
    clear c6 hkl
    by_cases hx : 2147483647 < x.now
    · go_wp2
      rw [HRT.out]
      exact ⟨⟨false, rfl, fun h => by cases h⟩, hB⟩
    · have HA2 : Hid (∀ y ∈ os.take (k + 1), y.now ≤ 2147483647) := Lib.hid fun y hy => by
       rw [HTK.out] at hy
       rcases List.mem_append.1 hy with hy | hy
       · exact HA.out y hy
       · obtain rfl := List.mem_singleton.1 hy
         omega
      go_wp2
      go_roundw
      case rel => exact ⟨k + 1, by omega, by go_num, HA2, hB⟩
      case measure => simp [intOf]; omega
  · obtain rfl : n = k := by omega
    have hltN : ¬ (n : Int) < (n : Int) := by omega
    have hA := HA.out
    rw [List.take_of_length_le (by rw [HN.out]; exact Nat.le_refl _)] at hA
    have HAA := Lib.hid hA
    clear hA
    go_wp2
    rw [HRT.out]
    exact ⟨⟨true, rfl, fun _ => HAA.out⟩, hB⟩
end Go.Proofs.YtnbboabaihddbaaGreat
namespace Go.Proofs.YtnbboabaihddbaaGreat
open Go.RowKit

set_option maxRecDepth 100000 in
set_option maxHeartbeats 4000000 in
theorem rroot_any (n : Nat) : ∀ (oa : Option Addr) (cap : Nat) (ss : List ByteArray) (_ : ss.length = n) (_ : n ≤ 64) (_ : n ≤ cap) (_ : Sz ss) (w0 : World) (_ : Strs w0 oa ss),
 Calls Tryz.prog 49 #[.slice oa n cap] w0 fun e w' => e = .returned (.string (rootM ss)) ∧ Below w0.heap.size w0 w' := by
 induction n using Nat.strongRecOn with
 | _ n ih =>
 intro oa cap ss hn hm hcap hz w0 hc0
 by_cases h2 : 2 ≤ n
 · have hn0 : ((n : Int) == 0) = false := by rw [beq_eq_false_iff_ne]; omega
   have hn1 : ((n : Int) == 1) = false := by rw [beq_eq_false_iff_ne]; omega
   have HP := Lib.hid (fun W => half_any n h2 hm W)
   have hk1 := kM_lt h2
   have hk0 := kM_pos n
   have HR := Lib.hid (show rootM ss = nodM (rootM (ss.take (kM n))) (rootM (ss.drop (kM n))) by rw [rootM_more (by omega), hn])
   have HL := Lib.hid (fun W hW => ih (kM n) hk1 oa cap (ss.take (kM n)) (by rw [List.length_take]; omega) (by omega) (by omega) (hz.take _) W hW)
   have HRR := Lib.hid (fun W hW => ih (n - kM n) (by omega) (oa.map (·.add (kM n))) (cap - kM n) (ss.drop (kM n)) (by rw [List.length_drop]; omega) (by omega) (by omega) (hz.drop _) W hW)
   have z1 := rootM_sz (hz.take (kM n))
   have z2 := rootM_sz (hz.drop (kM n))
   have hs1 := slice_to oa n cap (kM n) (by omega)
   have hs2 := slice_on oa n cap (kM n) hk1 hcap
   have HC1 := Lib.hid (hc0.take (kM n))
   have HC2 := Lib.hid (hc0.drop (kM n))
   generalize ss.take (kM n) = s1 at *
   generalize ss.drop (kM n) = s2 at *
   generalize rootM ss = R at *
   generalize rootM s1 = R1 at *
   generalize rootM s2 = R2 at *
   have z0 : (⟨#[1]⟩ : ByteArray).size = 1 := rfl
   have r1 := addRun (a := ⟨#[1]⟩) (b := R1) (by omega)
   have r2 := addRun (a := ⟨#[1]⟩ ++ R1) (b := R2) (by simp only [ByteArray.size_append]; omega)
   have HJ := Lib.hid (fun W => rh4_any (⟨#[1]⟩ ++ R1 ++ R2) (by simp only [ByteArray.size_append]; omega) W)
   change Hid (∀ W, Calls Tryz.prog 76 _ W fun e w' => e = .returned (.string (nodM R1 R2)) ∧ Below W.heap.size W w') at HJ
   rw [← HR.out] at HJ
   generalize kM n = k at *
   generalize oa.map (·.add k) = ob at *
   clear HR ih hz hc0 hn z0 z1 z2
   go_enter Tryz.func49, Tryz.ntmps49
   go_wp2_with fail
   refine (HP.out _).mono ?_
   rintro e w' ⟨rfl, hw⟩
   rw [hw]
   clear hw
   go_wp2
   go_region_held3 (fun w' => Below w0.heap.size w0 w')
    ((first | exact hB3' | exact hB2' | exact hB1' | exact (Below.refl _ _).drew | exact Below.refl _ _))
    (first
     | (have := hB2'; go_at_call 76; refine (HJ.out _).mono ?_; rintro e w3 ⟨rfl, hb3⟩; have hB3' : Below w0.heap.size w0 w3 := hB2'.trans (hb3.mono hB2'.size))
     | (have := hB1'; go_at_call 49; refine (HRR.out _ (HC2.out.below hB1')).mono ?_; rintro e w2 ⟨rfl, hb2⟩; have hB2' : Below w0.heap.size w0 w2 := hB1'.trans (hb2.mono hB1'.size))
     | (go_at_call 49; refine (HL.out _ (HC1.out.below (Below.refl _ _).drew)).mono ?_; rintro e w1 ⟨rfl, hb1⟩; have hB1' : Below w0.heap.size w0 w1 := (Below.refl _ _).drew.trans hb1))
   go_wp2
   go_ret
   exact ⟨rfl, hB3'⟩
 · by_cases h1 : n = 1
   · have HR := Lib.hid (rootM_one (l := ss) (by omega))
     have hn1 : n = 1 := h1
     obtain ⟨a, rfl, hab, hcell⟩ := hc0 0 (by omega)
     rw [HR.out]
     generalize ss.getD 0 ByteArray.empty = R at *
     rw [show a.add 0 = a from rfl] at hcell
     subst hn1
     clear HR ih hz hc0 hn h2
     go_enter Tryz.func49, Tryz.ntmps49
     go_wp2
     go_ret
     exact ⟨rfl, Below.refl _ _⟩
   · obtain rfl : n = 0 := by omega
     have HR := Lib.hid (rootM_nil hn)
     have HS := Lib.hid (fun W => rh4_any ⟨#[]⟩ (by decide) W)
     rw [HR.out]
     generalize hB ⟨#[]⟩ = R at *
     clear HR ih hz hc0 hn h2
     go_enter Tryz.func49, Tryz.ntmps49
     go_wp2_with fail
     refine (HS.out _).mono ?_
     rintro e w' ⟨rfl, hB⟩
     go_wp2
     go_ret
     exact ⟨rfl, hB⟩
end Go.Proofs.YtnbboabaihddbaaGreat
