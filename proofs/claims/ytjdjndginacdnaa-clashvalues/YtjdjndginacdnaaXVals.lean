/-
  Layer 9: Values.
-/
import Derived.Test.YtjdjndginacdnaaXMeet
import Derived.Deep.RegionHeld3
namespace Go.Proofs.Ytjdjndginacdnaa
open Go.RowKit

/-- do both hold under the root, and contradict each other? -/
def okV (h : ByteArray → ByteArray) (r k : ByteArray) (ta : Bool) (va sa : ByteArray) (tb : Bool) (vb sb : ByteArray) : Bool :=
  dif9 ta va tb vb && (may9 k ta va sa && decide (rt9 h k ta va sa = r)) && (may9 k tb vb sb && decide (rt9 h k tb vb sb = r))
theorem led9_way {h : ByteArray → ByteArray} {k : ByteArray} {th : Bool} {v s r : ByteArray} : led9 (way9 h k th v s) r = (may9 k th v s && decide (rt9 h k th v s = r)) := by
  cases hm : may9 k th v s with
  | false => rw [show way9 h k th v s = [] by unfold way9; rw [hm]; rfl]; rfl
  | true =>
    obtain ⟨hl, ht⟩ := way9_top (h := h) hm
    have hlen : (way9 h k th v s).length = 257 := by unfold way9; rw [hm]; exact wy9_len h _ _ _ _
    unfold led9
    rw [List.getLast?_eq_getElem?, List.getElem?_eq_getElem (by omega)]
    have e : (way9 h k th v s)[(way9 h k th v s).length - 1]'(by omega) = (way9 h k th v s)[256] := by congr 1; omega
    rw [e, Bool.true_and]
    show decide ((way9 h k th v s)[256].2 = r) = _
    rw [ht]
theorem way9_len {h : ByteArray → ByteArray} {k : ByteArray} {th : Bool} {v s : ByteArray} : (way9 h k th v s).length ≤ 1000 := by
  unfold way9
  split
  · rw [wy9_len]; decide
  · decide
theorem led9_len {h : ByteArray → ByteArray} {k : ByteArray} {th : Bool} {v s r : ByteArray} (hl : led9 (way9 h k th v s) r = true) : (way9 h k th v s).length = 257 := by
  rw [led9_way, Bool.and_eq_true] at hl
  unfold way9
  rw [hl.1]
  exact wy9_len h _ _ _ _
/-- what Values answers -/
def RV9 (h : ByteArray → ByteArray) (ok : Bool) (w : World) (e : Ending) (w' : World) : Prop :=
  (if ok then ∃ A D : ByteArray, e = .returned (.tuple #[.agg (prA A D), .bool true]) ∧ A ≠ D ∧ h A = h D ∧ A.size ≤ 1000 ∧ D.size ≤ 1000 else e = .returned (.tuple #[.agg (prA ⟨#[]⟩ ⟨#[]⟩), .bool false])) ∧ Below w.heap.size w w'
set_option maxRecDepth 100000 in
/-- where both hold and contradict each other, what the ways' meeting tells is a collision -/
theorem meets9 {h : ByteArray → ByteArray} (h32 : ∀ s, (h s).size = 32) {r k : ByteArray} {ta : Bool} {va sa : ByteArray} {tb : Bool} {vb sb : ByteArray} (hok : okV h r k ta va sa tb vb sb = true) {w : World} {e : Ending} {w' : World}
    (hM : RM9 (way9 h k ta va sa) (way9 h k tb vb sb) w e w') : ∃ A D : ByteArray, e = .returned (.tuple #[.agg (prA A D), .bool true]) ∧ A ≠ D ∧ h A = h D ∧ A.size ≤ 1000 ∧ D.size ≤ 1000 := by
  unfold okV at hok
  simp only [Bool.and_eq_true, decide_eq_true_eq] at hok
  obtain ⟨⟨hd, ha, hra⟩, hb, hrb⟩ := hok
  obtain ⟨ka, va5, za, wa⟩ := may9_parts ha
  obtain ⟨_, vb5, zb, wb⟩ := may9_parts hb
  have ea : way9 h k ta va sa = wy9 h (pa9 h k) sa (ow9 k ta va) 257 := by unfold way9; rw [ha]; rfl
  have eb : way9 h k tb vb sb = wy9 h (pa9 h k) sb (ow9 k tb vb) 257 := by unfold way9; rw [hb]; rfl
  have ra : rt9 h k ta va sa = h (tx9 h (pa9 h k) sa (ow9 k ta va) 256) := by unfold rt9; rw [ha]; rfl
  have rb : rt9 h k tb vb sb = h (tx9 h (pa9 h k) sb (ow9 k tb vb) 256) := by unfold rt9; rw [hb]; rfl
  have hne := ow9_ne (key := k) za zb (of_decide_eq_true hd)
  obtain ⟨i, hi, h1, h2⟩ := meet9 h h32 (p := pa9 h k) wa wb hne (by rw [← ra, ← rb, hra, hrb])
  have oa5 : (ow9 k ta va).size ≤ 512 := by have := ow9_size k ta va; omega
  have ob5 : (ow9 k tb vb).size ≤ 512 := by have := ow9_size k tb vb; omega
  rw [ea, eb] at hM
  obtain ⟨⟨A, D, f, he, hM⟩, _⟩ := hM
  rcases hM with ⟨rfl, j, j1, j2, hA, hD, hAD, hhh⟩ | ⟨_, _, _, hno⟩
  · have j1' : j < 257 := by rwa [wy9_len] at j1
    have gA : (wy9 h (pa9 h k) sa (ow9 k ta va) 257)[j] = stp9 h (pa9 h k) sa (ow9 k ta va) j := wy9_get h _ _ _ j1
    have gD : (wy9 h (pa9 h k) sb (ow9 k tb vb) 257)[j] = stp9 h (pa9 h k) sb (ow9 k tb vb) j := wy9_get h _ _ _ j2
    have tA : A = tx9 h (pa9 h k) sa (ow9 k ta va) j := hA.trans (congrArg Prod.fst gA)
    have tD : D = tx9 h (pa9 h k) sb (ow9 k tb vb) j := hD.trans (congrArg Prod.fst gD)
    have tE : h (tx9 h (pa9 h k) sa (ow9 k ta va) j) = h (tx9 h (pa9 h k) sb (ow9 k tb vb) j) := (congrArg Prod.snd gA).symm.trans (hhh.trans (congrArg Prod.snd gD))
    refine ⟨A, D, he, hAD, by rw [tA, tD]; exact tE, ?_, ?_⟩
    · rw [tA]; exact Nat.le_trans (tx9_size h h32 wa _ oa5 j (by omega)) (by decide)
    · rw [tD]; exact Nat.le_trans (tx9_size h h32 wb _ ob5 j (by omega)) (by decide)
  · have i1 : i < (wy9 h (pa9 h k) sa (ow9 k ta va) 257).length := by rw [wy9_len]; exact hi
    have i2 : i < (wy9 h (pa9 h k) sb (ow9 k tb vb) 257).length := by rw [wy9_len]; exact hi
    have gA := wy9_get h (pa9 h k) sa (ow9 k ta va) i1
    have gD := wy9_get h (pa9 h k) sb (ow9 k tb vb) i2
    exact absurd ((congrArg Prod.snd gA).trans (h2.trans (congrArg Prod.snd gD).symm)) (hno i i1 i2 (fun e => h1 ((congrArg Prod.fst gA).symm.trans (e.trans (congrArg Prod.fst gD)))))
set_option maxRecDepth 100000 in
set_option maxHeartbeats 4000000 in
theorem values9_any {g : Nat} {h : ByteArray → ByteArray} (H : Hsh g h) (r k : ByteArray) (ta : Bool) (va sa : ByteArray) (tb : Bool) (vb sb : ByteArray) (hk : k.size ≤ 300) (hva : va.size ≤ 300) (hsa : sa.size ≤ 10000) (hvb : vb.size ≤ 300) (hsb : sb.size ≤ 10000) (w : World) :
    Calls Try.prog 25 #[.func (.func g) #[] #[], .string r, .string k, .agg (ansA ta va sa), .agg (ansA tb vb sb)] w (RV9 h (okV h r k ta va sa tb vb sb) w) := by
  have HCO := Lib.hid (fun W => contra9_any ta va sa tb vb sb W)
  have HCa := Lib.hid (fun W => climb9_any H k ta va sa hk hva hsa W)
  have HCb := Lib.hid (fun W => climb9_any H k tb vb sb hk hvb hsb W)
  unfold RC9 at HCa HCb
  have HLa := Lib.hid (fun oa cap W hP => leads9_any oa cap (way9 h k ta va sa) way9_len r W hP)
  have HLb := Lib.hid (fun oa cap W hP => leads9_any oa cap (way9 h k tb vb sb) way9_len r W hP)
  have HNa := Lib.hid (@led9_len h k ta va sa r)
  have HNb := Lib.hid (@led9_len h k tb vb sb r)
  have HOK : Hid (okV h r k ta va sa tb vb sb = (dif9 ta va tb vb && led9 (way9 h k ta va sa) r && led9 (way9 h k tb vb sb) r)) := Lib.hid (by rw [led9_way, led9_way]; rfl)
  have HME := Lib.hid (fun hok w e w' => @meets9 h H.size r k ta va sa tb vb sb hok w e w')
  have HMT := Lib.hid (fun oa oa' cap cap' hp hq W hP hQ => meet9_any oa oa' 257 cap cap' (way9 h k ta va sa) (way9 h k tb vb sb) hp hq (by decide) W hP hQ)
  have HRV : Hid (∀ ok e w', RV9 h ok w e w' = ((if ok then ∃ A D : ByteArray, e = .returned (.tuple #[.agg (prA A D), .bool true]) ∧ A ≠ D ∧ h A = h D ∧ A.size ≤ 1000 ∧ D.size ≤ 1000 else e = .returned (.tuple #[.agg (prA ⟨#[]⟩ ⟨#[]⟩), .bool false])) ∧ Below w.heap.size w w')) := Lib.hid fun _ _ _ => rfl
  generalize RV9 h = RV at *
  generalize way9 h k ta va sa = LA at *
  generalize way9 h k tb vb sb = LB at *
  obtain ⟨ok, hok⟩ : ∃ ok, okV h r k ta va sa tb vb sb = ok := ⟨_, rfl⟩
  rw [hok] at HOK HME ⊢
  obtain ⟨B, hB⟩ : ∃ B, w.heap.size = B := ⟨_, rfl⟩
  obtain ⟨w0, hw0⟩ : ∃ w0, w.alloc (.cells (ansA ta va sa) 23) = w0 := ⟨_, rfl⟩
  obtain ⟨w1, hw1⟩ : ∃ w1, w0.alloc (.cells (ansA tb vb sb) 23) = w1 := ⟨_, rfl⟩
  obtain ⟨w2, hw2⟩ : ∃ w2, w1.alloc (.cells (prA ⟨#[]⟩ ⟨#[]⟩) 31) = w2 := ⟨_, rfl⟩
  have z0 : w0.heap.size = B + 1 := by rw [← hw0]; simp [hB]
  have z1 : w1.heap.size = B + 1 + 1 := by rw [← hw1]; simp [z0]
  have kA : Blk w2 B 23 (ansA ta va sa) := by rw [← hw2, ← hw1, ← hw0, ← hB]; exact ((Blk.new _ _ _).alloc _).alloc _
  have kB : Blk w2 (B + 1) 23 (ansA tb vb sb) := by rw [← hw2, ← hw1]; exact (Blk.new_at z0.symm).alloc _
  have kP : Blk w2 (B + 1 + 1) 31 (prA ⟨#[]⟩ ⟨#[]⟩) := by rw [← hw2]; exact Blk.new_at z1.symm
  have hB2 : Below w.heap.size w w2 := by rw [← hw2, ← hw1, ← hw0]; exact (((Below.refl _ w).alloc (Nat.le_refl _) _).alloc (by simp) _).alloc (by simp; omega) _
  have HW0 : Hid (w.alloc (.cells #[.bool ta, .string va, .string sa] 23) = w0) := Lib.hid hw0
  have HW1 : Hid (w0.alloc (.cells #[.bool tb, .string vb, .string sb] 23) = w1) := Lib.hid hw1
  have HW2 : Hid (w1.alloc (.cells #[.string ⟨#[]⟩, .string ⟨#[]⟩] 31) = w2) := Lib.hid hw2
  change Hid (∀ W, Calls _ _ #[.agg #[.bool ta, .string va, .string sa], .agg #[.bool tb, .string vb, .string sb]] W _) at HCO
  change Hid (∀ W, Calls _ _ #[_, _, .agg #[.bool ta, .string va, .string sa]] W _) at HCa
  change Hid (∀ W, Calls _ _ #[_, _, .agg #[.bool tb, .string vb, .string sb]] W _) at HCb
  show Calls _ _ #[_, _, _, .agg #[.bool ta, .string va, .string sa], .agg #[.bool tb, .string vb, .string sb]] _ _
  have HKP : Hid (∀ W, Below w2.heap.size w2 W → ((W.cell? ⟨B, 0, none⟩ = some (.bool ta) ∧ W.cell? ⟨B, 1, none⟩ = some (.string va) ∧ W.cell? ⟨B, 2, none⟩ = some (.string sa)) ∧ (W.cell? ⟨B + 1, 0, none⟩ = some (.bool tb) ∧ W.cell? ⟨B + 1, 1, none⟩ = some (.string vb) ∧ W.cell? ⟨B + 1, 2, none⟩ = some (.string sb))) ∧ Below w2.heap.size w2 W) :=
    Lib.hid fun W hW => ⟨⟨⟨(kA.below hW kA.lt).cell 0, (kA.below hW kA.lt).cell 1, (kA.below hW kA.lt).cell 2⟩, ⟨(kB.below hW kB.lt).cell 0, (kB.below hW kB.lt).cell 1, (kB.below hW kB.lt).cell 2⟩⟩, hW⟩
  have HP2 := Lib.hid kP
  have HB2 := Lib.hid hB2
  obtain ⟨⟨⟨x0, x1, x2⟩, y0, y1, y2⟩, _⟩ := HKP.out w2 (Below.refl _ _)
  clear hw0 hw1 hw2 kA kB kP hB2 hok
  obtain ⟨dd, hdd⟩ : ∃ dd, dif9 ta va tb vb = dd := ⟨_, rfl⟩
  rw [hdd] at HCO HOK
  clear hdd
  cases dd
  · have hf : ok = false := HOK.out
    subst hf
    clear HCa HCb HLa HLb HNa HNb HME HMT HOK
    go_enter Try.func25, Try.ntmps25
    go_wp2_with (first | rw [HW0.out] | rw [HW1.out] | rw [HW2.out])
    refine (HCO.out _).mono ?_
    rintro e w3 ⟨rfl, hb⟩
    have hT := HP2.out.below (hb.mono (Nat.le_refl _)) HP2.out.lt
    have hB3 := HB2.out.trans (hb.mono HB2.out.size)
    have s0 : w3.cell? ⟨B + 1 + 1, 0, none⟩ = some (.string ⟨#[]⟩) := hT.cell 0
    have s1 : w3.cell? ⟨B + 1 + 1, 1, none⟩ = some (.string ⟨#[]⟩) := hT.cell 1
    have f0 := hT.frozen 0
    have f1 := hT.frozen 1
    have HT := Lib.hid hT
    have HB3 := Lib.hid hB3
    clear hT hB3 hb x0 x1 x2 y0 y1 y2
    go_wp2
    have n1 : Blk ((w3.setCell ⟨B + 1 + 1, 0, none⟩ (.string ⟨#[]⟩)).setCell ⟨B + 1 + 1, 1, none⟩ (.string ⟨#[]⟩)) (B + 1 + 1) 31 (prA ⟨#[]⟩ ⟨#[]⟩) := (HT.out.set_ 0 (.string ⟨#[]⟩)).set_ 1 (.string ⟨#[]⟩)
    have hBF := ((HB3.out.setCell (p := ⟨B + 1 + 1, 0, none⟩) (by show w.heap.size ≤ B + 1 + 1; omega) (.string ⟨#[]⟩)).setCell (p := ⟨B + 1 + 1, 1, none⟩) (by show w.heap.size ≤ B + 1 + 1; omega) (.string ⟨#[]⟩))
    refine bodyPost_ret (results_grw rfl _ _ (B + 1 + 1) 31 (prA ⟨#[]⟩ ⟨#[]⟩) _ rfl n1 Try.underlying31 rfl infoPr9) rfl ?_
    rw [HRV.out]
    exact ⟨rfl, hBF⟩
  · go_enter Try.func25, Try.ntmps25
    go_wp2_with (first | rw [HW0.out] | rw [HW1.out] | rw [HW2.out])
    refine (HCO.out _).mono ?_
    rintro e w3 ⟨rfl, hb⟩
    have hB0' : Below w2.heap.size w2 w3 := hb
    clear x0 x1 x2 y0 y1 y2 hb HCO
    obtain ⟨⟨⟨x0, x1, x2⟩, y0, y1, y2⟩, _⟩ := HKP.out w3 hB0'
    go_wp2_with fail
    go_region_held3 (fun W => ((W.cell? ⟨B, 0, none⟩ = some (.bool ta) ∧ W.cell? ⟨B, 1, none⟩ = some (.string va) ∧ W.cell? ⟨B, 2, none⟩ = some (.string sa)) ∧ (W.cell? ⟨B + 1, 0, none⟩ = some (.bool tb) ∧ W.cell? ⟨B + 1, 1, none⟩ = some (.string vb) ∧ W.cell? ⟨B + 1, 2, none⟩ = some (.string sb))) ∧ Below w2.heap.size w2 W)
      ((refine HKP.out _ ?_; first | exact hB2' | exact hB1' | exact hB0'.drew | exact hB0'))
      (first
        | (have := hB1'; go_at_call 31; refine (HCb.out _).mono ?_; rintro e w5 ⟨v5, rfl, hownB, hb5⟩; have hB2' : Below w2.heap.size w2 w5 := hB1'.trans (hb5.mono hB1'.size))
        | (go_at_call 31; refine (HCa.out _).mono ?_; rintro e w4 ⟨v4, rfl, hownA, hb4⟩; have hB1' : Below w2.heap.size w2 w4 := hB0'.drew.trans (hb4.mono hB0'.drew.size)))
    have hownA5 := hownA.below hb5
    obtain ⟨o1, c1, rfl, hc1, hP1⟩ := hownA5.form
    obtain ⟨o2, c2, rfl, hc2, hP2⟩ := hownB.form
    have HT := Lib.hid (HP2.out.below hB2' HP2.out.lt)
    have HB3 := Lib.hid (HB2.out.trans (hB2'.mono HB2.out.size))
    have HPa := Lib.hid hP1
    have HPb := Lib.hid hP2
    clear hownA hownB hownA5 hb4 hb5 hB0' hB1' hB2' HKP HCa HCb hP1 hP2 x0 x1 x2 y0 y1 y2 hc1 hc2
    obtain ⟨la, hla⟩ : ∃ la, led9 LA r = la := ⟨_, rfl⟩
    rw [hla] at HLa HNa HOK
    clear hla
    rename_i hHeld
    clear hHeld
    cases la
    · have hf : ok = false := HOK.out
      subst hf
      clear HLb HNa HNb HME HMT HOK
      have s0 : w5.cell? ⟨B + 1 + 1, 0, none⟩ = some (.string ⟨#[]⟩) := HT.out.cell 0
      have s1 : w5.cell? ⟨B + 1 + 1, 1, none⟩ = some (.string ⟨#[]⟩) := HT.out.cell 1
      have f0 := HT.out.frozen 0
      have f1 := HT.out.frozen 1
      go_wp2_with fail
      refine (HLa.out _ _ _ HPa.out).mono ?_
      rintro e w' ⟨rfl, hw'⟩; rw [hw']; clear hw' w'
      go_wp2
      have n1 : Blk ((w5.setCell ⟨B + 1 + 1, 0, none⟩ (.string ⟨#[]⟩)).setCell ⟨B + 1 + 1, 1, none⟩ (.string ⟨#[]⟩)) (B + 1 + 1) 31 (prA ⟨#[]⟩ ⟨#[]⟩) := (HT.out.set_ 0 (.string ⟨#[]⟩)).set_ 1 (.string ⟨#[]⟩)
      have hBF := ((HB3.out.setCell (p := ⟨B + 1 + 1, 0, none⟩) (by show w.heap.size ≤ B + 1 + 1; omega) (.string ⟨#[]⟩)).setCell (p := ⟨B + 1 + 1, 1, none⟩) (by show w.heap.size ≤ B + 1 + 1; omega) (.string ⟨#[]⟩))
      refine bodyPost_ret (results_grw rfl _ _ (B + 1 + 1) 31 (prA ⟨#[]⟩ ⟨#[]⟩) _ rfl n1 Try.underlying31 rfl infoPr9) rfl ?_
      rw [HRV.out]
      exact ⟨rfl, hBF⟩
    · obtain ⟨lb, hlb⟩ : ∃ lb, led9 LB r = lb := ⟨_, rfl⟩
      rw [hlb] at HLb HNb HOK
      clear hlb
      cases lb
      · have hf : ok = false := HOK.out
        subst hf
        clear HNa HNb HME HMT HOK
        have s0 : w5.cell? ⟨B + 1 + 1, 0, none⟩ = some (.string ⟨#[]⟩) := HT.out.cell 0
        have s1 : w5.cell? ⟨B + 1 + 1, 1, none⟩ = some (.string ⟨#[]⟩) := HT.out.cell 1
        have f0 := HT.out.frozen 0
        have f1 := HT.out.frozen 1
        go_wp2_with fail
        refine (HLa.out _ _ _ HPa.out).mono ?_
        rintro e w' ⟨rfl, hw'⟩; rw [hw']; clear hw' w'
        go_wp2_with fail
        refine (HLb.out _ _ _ HPb.out).mono ?_
        rintro e w' ⟨rfl, hw'⟩; rw [hw']; clear hw' w'
        go_wp2
        have n1 : Blk ((w5.setCell ⟨B + 1 + 1, 0, none⟩ (.string ⟨#[]⟩)).setCell ⟨B + 1 + 1, 1, none⟩ (.string ⟨#[]⟩)) (B + 1 + 1) 31 (prA ⟨#[]⟩ ⟨#[]⟩) := (HT.out.set_ 0 (.string ⟨#[]⟩)).set_ 1 (.string ⟨#[]⟩)
        have hBF := ((HB3.out.setCell (p := ⟨B + 1 + 1, 0, none⟩) (by show w.heap.size ≤ B + 1 + 1; omega) (.string ⟨#[]⟩)).setCell (p := ⟨B + 1 + 1, 1, none⟩) (by show w.heap.size ≤ B + 1 + 1; omega) (.string ⟨#[]⟩))
        refine bodyPost_ret (results_grw rfl _ _ (B + 1 + 1) 31 (prA ⟨#[]⟩ ⟨#[]⟩) _ rfl n1 Try.underlying31 rfl infoPr9) rfl ?_
        rw [HRV.out]
        exact ⟨rfl, hBF⟩
      · have hf : ok = true := HOK.out
        subst hf
        have hla := HNa.out rfl
        have hlb := HNb.out rfl
        have HMC := Lib.hid (HMT.out o1 o2 c1 c2 hla hlb w5 HPa.out HPb.out)
        have HME1 := Lib.hid (HME.out rfl w5)
        rw [hla] at HLa ⊢
        rw [hlb] at HLb ⊢
        clear HNa HNb HME HMT HOK hla hlb
        go_wp2_with fail
        refine (HLa.out _ _ _ HPa.out).mono ?_
        rintro e w' ⟨rfl, hw'⟩; rw [hw']; clear hw' w'
        go_wp2_with fail
        refine (HLb.out _ _ _ HPb.out).mono ?_
        rintro e w' ⟨rfl, hw'⟩; rw [hw']; clear hw' w'
        go_wp2_with fail
        refine HMC.out.mono ?_
        intro e w6 hM
        have hb6 := hM.2
        obtain ⟨X, Y, rfl, hne, heq, hxs, hys⟩ := HME1.out _ _ hM
        have hT6 := HT.out.below hb6 HT.out.lt
        have hB6 := HB3.out.trans (hb6.mono HB3.out.size)
        have s0 : w6.cell? ⟨B + 1 + 1, 0, none⟩ = some (.string ⟨#[]⟩) := hT6.cell 0
        have s1 : w6.cell? ⟨B + 1 + 1, 1, none⟩ = some (.string ⟨#[]⟩) := hT6.cell 1
        have f0 := hT6.frozen 0
        have f1 := hT6.frozen 1
        have HT6 := Lib.hid hT6
        have HB6 := Lib.hid hB6
        clear hT6 hB6 hb6 hM HMC HME1
        dsimp only
        unfold prA
        go_wp2
        have n1 : Blk ((w6.setCell ⟨B + 1 + 1, 0, none⟩ (.string X)).setCell ⟨B + 1 + 1, 1, none⟩ (.string Y)) (B + 1 + 1) 31 (prA X Y) := (HT6.out.set_ 0 (.string X)).set_ 1 (.string Y)
        have hBF := ((HB6.out.setCell (p := ⟨B + 1 + 1, 0, none⟩) (by show w.heap.size ≤ B + 1 + 1; omega) (.string X)).setCell (p := ⟨B + 1 + 1, 1, none⟩) (by show w.heap.size ≤ B + 1 + 1; omega) (.string Y))
        refine bodyPost_ret (results_grw rfl _ _ (B + 1 + 1) 31 (prA X Y) _ rfl n1 Try.underlying31 rfl infoPr9) rfl ?_
        rw [HRV.out]
        exact ⟨⟨X, Y, rfl, hne, heq, hxs, hys⟩, hBF⟩
end Go.Proofs.Ytjdjndginacdnaa
