/-
  Consistency proofs: the program's. Proofs' sizes. Heads: whether one may be, and its bytes: the program's and the reference's. Texts one behind the other; slices that read as texts; what a builder's state stands. How long texts one behind the other are at most.
-/
import Derived.Test.YtakgolbgeeoioaaGreatLoadsSProveMPath
import Derived.Test.YtakgolbgeeoioaaGreatWNumWReqYKind
import Derived.Test.YtakgolbgeeoioaaGreatWBldWBldSFoll
namespace Go.Proofs.YtakgolbgeeoioaaGreat
open Go.RowKit

theorem conM_true {ss : List ByteArray} {n : Nat} (hn : ss.length = n) : conM ss n true = [] := by rw [conM, if_pos hn.symm, if_pos rfl]
theorem conM_false {ss : List ByteArray} {n : Nat} (hn : ss.length = n) : conM ss n false = [rootM ss] := by rw [conM, if_pos hn.symm]; rfl
theorem conM_left {ss : List ByteArray} {n m : Nat} {b : Bool} (hn : ss.length = n) (h2 : 2 ≤ n) (h1 : m ≠ n) (hi : m ≤ kM n) : conM ss m b = conM (ss.take (kM n)) m b ++ [rootM (ss.drop (kM n))] := by
  subst hn; rw [conM, if_neg h1, dif_pos h2, if_pos hi]
theorem conM_right {ss : List ByteArray} {n m : Nat} {b : Bool} (hn : ss.length = n) (h2 : 2 ≤ n) (h1 : m ≠ n) (hi : ¬ m ≤ kM n) : conM ss m b = conM (ss.drop (kM n)) (m - kM n) false ++ [rootM (ss.take (kM n))] := by
  subst hn; rw [conM, if_neg h1, dif_pos h2, if_neg hi]
theorem lenM_le (n : Nat) : ∀ m b, lenM m n b ≤ n + 1 := by
  induction n using Nat.strongRecOn with
  | _ n ih =>
    intro m b
    rw [lenM]
    split
    · split <;> omega
    · split
      · rename_i h2
        have hk := kM_lt h2
        have hk0 := kM_pos n
        split
        · have := ih _ hk m b; omega
        · have := ih (n - kM n) (by omega) (m - kM n) false; omega
      · omega
theorem own_one (W : World) (y : ByteArray) : Own (W.alloc (.cells #[.string y] 9)) W.heap.size (.slice (some ⟨W.heap.size, 0, none⟩) 1 1) [y] :=
  ⟨rfl, .inr ⟨W.heap.size, 1, #[.string y], rfl, Nat.le_refl _, Blk.new _ _ _, Nat.le_refl _, by decide, rfl, rfl⟩⟩

section
attribute [-go_sem] loadVar
set_option maxRecDepth 100000 in
set_option maxHeartbeats 8000000 in
theorem sub_any (n : Nat) : ∀ (oa : Option Addr) (cap m : Nat) (b : Bool) (ss : List ByteArray) (_ : ss.length = n) (_ : 1 ≤ n) (_ : n ≤ 256) (_ : n ≤ cap) (_ : 1 ≤ m) (_ : m ≤ n) (_ : Sz ss) (w : World) (_ : Strs w oa ss),
    Calls Tryz.prog 89 #[.agg tabV, .slice oa n cap, .int .i64 m, .bool b] w (RT (conM ss m b) w) := by
  induction n using Nat.strongRecOn with
  | _ n ih =>
  intro oa cap m b ss hn hn0 hm hcap hm1 hmn hz w hc
  have HRT := Lib.hid (show ∀ e w', RT (conM ss m b) w e w' = ∃ v, e = .returned v ∧ Own w' w.heap.size v (conM ss m b) ∧ Below w.heap.size w w' from fun _ _ => rfl)
  generalize RT (conM ss m b) w = PO at *
  have hB0 := (Below.refl _ w).alloc (Nat.le_refl _) (.cells tabV 29)
  have hT : Blk (w.alloc (.cells tabV 29)) w.heap.size 29 tabV := Blk.new _ _ _
  have hc0 := hc.below hB0
  clear hc
  by_cases h2 : m ≠ n
  · have hnm : ((m : Int) == (n : Int)) = false := by rw [beq_eq_false_iff_ne]; omega
    have h2n : 2 ≤ n := by omega
    have HP := Lib.hid (fun W => parting_any n h2n hm W)
    have hk1 := kM_lt h2n
    have hk0 := kM_pos n
    have hs1 := slice_to oa n cap (kM n) (by omega)
    have hs2 := slice_on oa n cap (kM n) hk1 hcap
    have HC1 := Lib.hid (hc0.take (kM n))
    have HC2 := Lib.hid (hc0.drop (kM n))
    by_cases hik : m ≤ kM n
    · have HI := Lib.hid (conM_left hn h2n h2 hik (b := b))
      have HIL := Lib.hid (show (conM (ss.take (kM n)) m b).length ≤ 1073741824 by rw [conM_length]; have := lenM_le (ss.take (kM n)).length m b; rw [List.length_take] at this ⊢; omega)
      have HL := Lib.hid (fun W hW => ih (kM n) hk1 oa cap m b (ss.take (kM n)) (by rw [List.length_take]; omega) (by omega) (by omega) (by omega) hm1 hik (hz.take _) W hW)
      have HRR := Lib.hid (fun W hW => mroot_any (n - kM n) (oa.map (·.add (kM n))) (cap - kM n) (ss.drop (kM n)) (by rw [List.length_drop]; omega) (by omega) (by omega) (hz.drop _) W hW)
      have hik' : (m : Int) ≤ (kM n : Int) := by omega
      generalize ss.take (kM n) = s1 at *
      generalize ss.drop (kM n) = s2 at *
      generalize conM ss m b = R at *
      generalize conM s1 m b = R1 at *
      generalize rootM s2 = R2 at *
      generalize kM n = k at *
      generalize oa.map (·.add k) = ob at *
      clear ih hz hc0 hn
      go_enter Tryz.func89, Tryz.ntmps89
      go_wp2_with fail
      refine (HP.out _).mono ?_
      rintro e w' ⟨rfl, rfl⟩
      go_wp2
      generalize w.alloc (.cells tabV 29) = w0 at *
      obtain ⟨B, hBB⟩ : ∃ B, w.heap.size = B := ⟨_, rfl⟩
      rw [hBB] at hB0 hT ⊢
      have HBB := Lib.hid hBB
      clear hBB
      have HKP : Hid (∀ W, Below w0.heap.size w0 W → (loadVar 29 ⟨B, 0, none⟩).run Tryz.prog W = .ok (.agg tabV) W ∧ Below w0.heap.size w0 W) := Lib.hid fun W hW => ⟨tab_run (hT.below hW hT.lt), hW⟩
      clear hT
      go_region_held3 (fun w' => (loadVar 29 ⟨B, 0, none⟩).run Tryz.prog w' = .ok (.agg tabV) w' ∧ Below w0.heap.size w0 w')
        ((refine HKP.out _ ?_; first | exact hB3' | exact hB2'.alloc hB2'.size _ | exact hB2' | exact hB1' | exact (Below.refl _ _).drew | exact Below.refl _ _))
        (first
          | (have := hB1'; go_at_call 47; refine (HRR.out _ (HC2.out.below hB1')).mono ?_; rintro e w2 ⟨rfl, hb2⟩; have hB2' : Below w0.heap.size w0 w2 := hB1'.trans (hb2.mono hB1'.size))
          | (go_at_call 89; refine (HL.out _ (HC1.out.below (Below.refl _ _).drew)).mono ?_; rintro e w1 ⟨v, rfl, hown, hb1⟩; have hB1' : Below w0.heap.size w0 w1 := (Below.refl _ _).drew.trans hb1)
          | (have := hB2'; (refine step_append_txt (by rfl) _ _ (by rfl) w0.heap.size v R1 (by rfl) (Own.below hown hb2) R2 (by rfl) HIL.out hB2'.size ?_; intro g2 cap2 w3 hown2 hgr2; have hB3' : Below w0.heap.size w0 w3 := hB2'.grown hgr2 hB2'.size (fun q hq => (World.ownsRow.lt hown q hq).1))))
      rw [← HI.out] at hown2
      have hB6 := hB0.trans (hB3'.mono (by have := hB0.size; have := HBB.out; omega))
      have hown3 := hown2.mono (B' := B) (by have := hB0.size; have := HBB.out; omega)
      rw [← HBB.out] at hB6 hown3
      go_wp2
      rw [HRT.out]
      exact ⟨_, rfl, hown3, hB6⟩
    · have HI := Lib.hid (conM_right hn h2n h2 hik (b := b))
      have HIL := Lib.hid (show (conM (ss.drop (kM n)) (m - kM n) false).length ≤ 1073741824 by rw [conM_length]; have := lenM_le (ss.drop (kM n)).length (m - kM n) false; rw [List.length_drop] at this ⊢; omega)
      have HL := Lib.hid (fun W hW => ih (n - kM n) (by omega) (oa.map (·.add (kM n))) (cap - kM n) (m - kM n) false (ss.drop (kM n)) (by rw [List.length_drop]; omega) (by omega) (by omega) (by omega) (by omega) (by omega) (hz.drop _) W hW)
      have HRR := Lib.hid (fun W hW => mroot_any (kM n) oa cap (ss.take (kM n)) (by rw [List.length_take]; omega) (by omega) (by omega) (hz.take _) W hW)
      have hik' : ¬ (m : Int) ≤ (kM n : Int) := by omega
      have hwr : IntKind.i64.wrap ((m : Int) - (kM n : Int)) = ((m - kM n : Nat) : Int) := by rw [IntKind.wrap_i64]; omega
      generalize ss.take (kM n) = s1 at *
      generalize ss.drop (kM n) = s2 at *
      generalize conM ss m b = R at *
      generalize m - kM n = d at *
      generalize conM s2 d false = R1 at *
      generalize rootM s1 = R2 at *
      generalize kM n = k at *
      generalize oa.map (·.add k) = ob at *
      clear ih hz hc0 hn
      go_enter Tryz.func89, Tryz.ntmps89
      go_wp2_with fail
      refine (HP.out _).mono ?_
      rintro e w' ⟨rfl, rfl⟩
      go_wp2
      generalize w.alloc (.cells tabV 29) = w0 at *
      obtain ⟨B, hBB⟩ : ∃ B, w.heap.size = B := ⟨_, rfl⟩
      rw [hBB] at hB0 hT ⊢
      have HBB := Lib.hid hBB
      clear hBB
      have HKP : Hid (∀ W, Below w0.heap.size w0 W → (loadVar 29 ⟨B, 0, none⟩).run Tryz.prog W = .ok (.agg tabV) W ∧ Below w0.heap.size w0 W) := Lib.hid fun W hW => ⟨tab_run (hT.below hW hT.lt), hW⟩
      clear hT
      go_region_held3 (fun w' => (loadVar 29 ⟨B, 0, none⟩).run Tryz.prog w' = .ok (.agg tabV) w' ∧ Below w0.heap.size w0 w')
        ((refine HKP.out _ ?_; first | exact hB3' | exact hB2'.alloc hB2'.size _ | exact hB2' | exact hB1' | exact (Below.refl _ _).drew | exact Below.refl _ _))
        (first
          | (have := hB1'; go_at_call 47; refine (HRR.out _ (HC1.out.below hB1')).mono ?_; rintro e w2 ⟨rfl, hb2⟩; have hB2' : Below w0.heap.size w0 w2 := hB1'.trans (hb2.mono hB1'.size))
          | (go_at_call 89; refine (HL.out _ (HC2.out.below (Below.refl _ _).drew)).mono ?_; rintro e w1 ⟨v, rfl, hown, hb1⟩; have hB1' : Below w0.heap.size w0 w1 := (Below.refl _ _).drew.trans hb1)
          | (have := hB2'; (refine step_append_txt (by rfl) _ _ (by rfl) w0.heap.size v R1 (by rfl) (Own.below hown hb2) R2 (by rfl) HIL.out hB2'.size ?_; intro g2 cap2 w3 hown2 hgr2; have hB3' : Below w0.heap.size w0 w3 := hB2'.grown hgr2 hB2'.size (fun q hq => (World.ownsRow.lt hown q hq).1))))
      rw [← HI.out] at hown2
      have hB6 := hB0.trans (hB3'.mono (by have := hB0.size; have := HBB.out; omega))
      have hown3 := hown2.mono (B' := B) (by have := hB0.size; have := HBB.out; omega)
      rw [← HBB.out] at hB6 hown3
      go_wp2
      rw [HRT.out]
      exact ⟨_, rfl, hown3, hB6⟩
  · obtain rfl : m = n := by omega
    have hnm : ((m : Int) == (m : Int)) = true := by rw [beq_iff_eq]
    cases b with
    | true =>
      have HI := Lib.hid (conM_true hn)
      clear ih hz hc0 hn h2 hT
      go_enter Tryz.func89, Tryz.ntmps89
      go_wp2
      rw [HRT.out, HI.out]
      exact ⟨_, rfl, own_nil _ _, hB0⟩
    | false =>
      have HI := Lib.hid (conM_false hn)
      have HR := Lib.hid (fun W hW => mroot_any m oa cap ss hn hm hcap hz W hW)
      have HC := Lib.hid hc0
      have hT1 := tab_run hT
      generalize rootM ss = R at *
      clear ih hz hc0 hn h2 hT
      go_enter Tryz.func89, Tryz.ntmps89
      go_wp2_with fail
      refine (HR.out _ HC.out).mono ?_
      rintro e w1 ⟨rfl, hB1⟩
      have hB2 := hB0.trans (hB1.mono hB0.size)
      have hB3 := hB2.alloc hB2.size (.cells #[.string R] 9)
      have hown := (own_one w1 R).mono (B' := w.heap.size) hB2.size
      clear hB1 hB2 hB0 hT1
      go_wp2
      rw [HRT.out, HI.out]
      exact ⟨_, rfl, hown, hB3⟩
end
end Go.Proofs.YtakgolbgeeoioaaGreat
namespace Go.Proofs.YtakgolbgeeoioaaGreat

/-- the sizes of a proof's hashes -/
theorem incM_sz {l : List ByteArray} (h : Sz l) (i : Nat) : Sz (incM l i) := by
  induction hn : l.length using Nat.strongRecOn generalizing l i with
  | _ n ih =>
    subst hn
    rw [incM]
    split
    · rename_i h2
      split
      · intro x hx
        rcases List.mem_append.1 hx with hx | hx
        · exact ih _ (kM_lt h2) (h.take _) i (len_take h2) x hx
        · rw [List.mem_singleton] at hx; subst hx; exact rootM_sz (h.drop _)
      · intro x hx
        rcases List.mem_append.1 hx with hx | hx
        · exact ih _ (by have := kM_pos l.length; omega) (h.drop _) _ (len_drop l) x hx
        · rw [List.mem_singleton] at hx; subst hx; exact rootM_sz (h.take _)
    · intro x hx; simp at hx
/-- the sizes of a proof's hashes -/
theorem conM_sz {l : List ByteArray} (h : Sz l) (m : Nat) (b : Bool) : Sz (conM l m b) := by
  induction hn : l.length using Nat.strongRecOn generalizing l m b with
  | _ n ih =>
    subst hn
    rw [conM]
    split
    · split
      · intro x hx; simp at hx
      · intro x hx; rw [List.mem_singleton] at hx; subst hx; exact rootM_sz h
    · split
      · rename_i h2
        split
        · intro x hx
          rcases List.mem_append.1 hx with hx | hx
          · exact ih _ (kM_lt h2) (h.take _) m b (len_take h2) x hx
          · rw [List.mem_singleton] at hx; subst hx; exact rootM_sz (h.drop _)
        · intro x hx
          rcases List.mem_append.1 hx with hx | hx
          · exact ih _ (by have := kM_pos l.length; omega) (h.drop _) _ _ (len_drop l) x hx
          · rw [List.mem_singleton] at hx; subst hx; exact rootM_sz (h.take _)
      · intro x hx; simp at hx
theorem depM_le (n : Nat) : ∀ i, depM i n ≤ n := by
  induction n using Nat.strongRecOn with
  | _ n ih =>
    intro i
    rw [depM]
    split
    · rename_i h2
      have h3 := kM_lt h2
      have h4 := kM_pos n
      split
      · have := ih _ h3 i; omega
      · have := ih (n - kM n) (by omega) (i - kM n); omega
    · omega
end Go.Proofs.YtakgolbgeeoioaaGreat
namespace Go.Proofs.YtakgolbgeeoioaaGreat
open Go.RowKit

/-- whether a head may be -/
def rheadB (a b c : Int) (r m : ByteArray) : Bool := decide (0 ≤ a ∧ a ≤ 2147483647 ∧ 0 ≤ b ∧ b ≤ 2147483647 ∧ 0 ≤ c ∧ c ≤ 2147483647 ∧ r.size = 32 ∧ m.size = 32)
/-- a head's value -/
def headV (a b c : Int) (r m : ByteArray) : Array Value := #[.int .i64 a, .int .i64 b, .int .i64 c, .string r, .string m]
/-- a head's bytes -/
def headB (a b c : Int) (r m : ByteArray) : ByteArray := ⟨#[72]⟩ ++ num4 a ++ num4 b ++ num4 c ++ r ++ m
theorem headB_size (a b c : Int) (r m : ByteArray) : (headB a b c r m).size = 13 + r.size + m.size := by
 unfold headB
 simp only [ByteArray.size_append, num4_size]
 show 1 + 4 + 4 + 4 + r.size + m.size = _
 omega

set_option maxRecDepth 100000 in
set_option maxHeartbeats 2000000 in
theorem head_any (a b c : Int) (r m : ByteArray) (hr : r.size ≤ 1099511627776) (hm : m.size ≤ 1099511627776) (w : World) :
 Calls Tryz.prog 30 #[.agg (headV a b c r m)] w fun e w' => e = .returned (.string (headB a b c r m)) ∧ Below w.heap.size w w' := by
 unfold headV headB
 have H1 := Lib.hid (fun W => number_any a W)
 have H2 := Lib.hid (fun W => number_any b W)
 have H3 := Lib.hid (fun W => number_any c W)
 have z1 := num4_size a; have z2 := num4_size b; have z3 := num4_size c
 generalize num4 a = N1 at *; generalize num4 b = N2 at *; generalize num4 c = N3 at *
 have z0 : (⟨#[72]⟩ : ByteArray).size = 1 := rfl
 have r1 := addRun (a := ⟨#[72]⟩) (b := N1) (by omega)
 have r2 := addRun (a := ⟨#[72]⟩ ++ N1) (b := N2) (by simp only [ByteArray.size_append]; omega)
 have r3 := addRun (a := ⟨#[72]⟩ ++ N1 ++ N2) (b := N3) (by simp only [ByteArray.size_append]; omega)
 have r4 := addRun (a := ⟨#[72]⟩ ++ N1 ++ N2 ++ N3) (b := r) (by simp only [ByteArray.size_append]; omega)
 have r5 := addRun (a := ⟨#[72]⟩ ++ N1 ++ N2 ++ N3 ++ r) (b := m) (by simp only [ByteArray.size_append]; omega)
 clear z0 z1 z2 z3
 have HB := Lib.hid ((Below.refl _ w).alloc (Nat.le_refl _) (.cells #[.int .i64 a, .int .i64 b, .int .i64 c, .string r, .string m] 51))
 have HK5 : Hid (∀ W, Below (w.alloc (.cells #[.int .i64 a, .int .i64 b, .int .i64 c, .string r, .string m] 51)).heap.size (w.alloc (.cells #[.int .i64 a, .int .i64 b, .int .i64 c, .string r, .string m] 51)) W → (W.cell? ⟨w.heap.size, 0, none⟩ = some (.int .i64 a) ∧ W.cell? ⟨w.heap.size, 1, none⟩ = some (.int .i64 b) ∧ W.cell? ⟨w.heap.size, 2, none⟩ = some (.int .i64 c) ∧ W.cell? ⟨w.heap.size, 3, none⟩ = some (.string r) ∧ W.cell? ⟨w.heap.size, 4, none⟩ = some (.string m)) ∧ Below (w.alloc (.cells #[.int .i64 a, .int .i64 b, .int .i64 c, .string r, .string m] 51)).heap.size (w.alloc (.cells #[.int .i64 a, .int .i64 b, .int .i64 c, .string r, .string m] 51)) W) :=
  Lib.hid fun W hW => ⟨cells5 ((Blk.new w 51 _).below hW (by simp)), hW⟩
 go_enter Tryz.func30, Tryz.ntmps30
 go_wp2
 generalize w.alloc (.cells #[.int .i64 a, .int .i64 b, .int .i64 c, .string r, .string m] 51) = w0 at *
 have hB0 := HB.out
 generalize hgg : w.heap.size = g at *
 have HG := Lib.hid hgg
 clear hgg
 go_region_held3 (fun w' => (w'.cell? ⟨g, 0, none⟩ = some (.int .i64 a) ∧ w'.cell? ⟨g, 1, none⟩ = some (.int .i64 b) ∧ w'.cell? ⟨g, 2, none⟩ = some (.int .i64 c) ∧ w'.cell? ⟨g, 3, none⟩ = some (.string r) ∧ w'.cell? ⟨g, 4, none⟩ = some (.string m)) ∧ Below w0.heap.size w0 w')
  ((refine HK5.out _ ?_; first | exact hB3' | exact hB2' | exact hB1' | exact (Below.refl _ _).drew | exact Below.refl _ _))
  (first
   | (have := hB2'; go_at_call 63; refine (H3.out _).mono ?_; rintro e w3 ⟨rfl, hb3⟩; have hB3' : Below w0.heap.size w0 w3 := hB2'.trans (hb3.mono hB2'.size))
   | (have := hB1'; go_at_call 63; refine (H2.out _).mono ?_; rintro e w2 ⟨rfl, hb2⟩; have hB2' : Below w0.heap.size w0 w2 := hB1'.trans (hb2.mono hB1'.size))
   | (go_at_call 63; refine (H1.out _).mono ?_; rintro e w1 ⟨rfl, hb1⟩; have hB1' : Below w0.heap.size w0 w1 := (Below.refl _ _).drew.trans hb1))
 rw [← HG.out] at hB0
 have hB6 := hB0.trans (hB3'.mono hB0.size)
 go_wp2
 go_ret
 exact ⟨rfl, hB6⟩
theorem eq32 {n : Nat} (h : n = 32) : ((n : Int) == 32) = true := by subst h; rfl
theorem ne32 {n : Nat} (h : n ≠ 32) : ((n : Int) == 32) = false := by rw [beq_eq_false_iff_ne]; omega
end Go.Proofs.YtakgolbgeeoioaaGreat
namespace Go.Proofs.YtakgolbgeeoioaaGreat
open Go.RowKit

def txts : List ByteArray → ByteArray
 | [] => ⟨#[]⟩
 | s :: r => txt s ++ txts r
theorem txts_append (a b : List ByteArray) : txts (a ++ b) = txts a ++ txts b := by
 induction a with
 | nil => show txts b = (⟨#[]⟩ : ByteArray) ++ txts b; apply ByteArray.ext; rw [ByteArray.data_append]; simp
 | cons x r ih => show txt x ++ txts (r ++ b) = txt x ++ txts r ++ txts b; rw [ih, ByteArray.append_assoc]
theorem txts_take (ss : List ByteArray) (k : Nat) (h : k < ss.length) : txts (ss.take (k + 1)) = txts (ss.take k) ++ txt (ss.getD k ByteArray.empty) := by
 rw [List.take_succ_eq_append_getElem h, txts_append]
 congr 1
 rw [List.getD_eq_getElem?_getD, List.getElem?_eq_getElem h]
 exact append_empty _
theorem txts_take_size (ss : List ByteArray) (k : Nat) : (txts (ss.take k)).size ≤ (txts ss).size := by
 have := txts_append (ss.take k) (ss.drop k)
 rw [List.take_append_drop] at this
 rw [this, ByteArray.size_append]
 omega
theorem txts_get_size (ss : List ByteArray) (k : Nat) : (ss.getD k ByteArray.empty).size ≤ (txts ss).size := by
 rcases Nat.lt_or_ge k ss.length with h | h
 · have h1 := txts_take_size ss (k + 1)
   rw [txts_take ss k h, ByteArray.size_append, txt_size] at h1
   omega
 · rw [List.getD_eq_getElem?_getD, List.getElem?_eq_none h]
   exact Nat.zero_le _
/-- a list's bytes -/
def listB (ss : List ByteArray) : ByteArray := ⟨#[76]⟩ ++ num4 ss.length ++ txts ss
theorem listB_size (ss : List ByteArray) : (listB ss).size = 5 + (txts ss).size := by
 unfold listB
 rw [ByteArray.size_append, ByteArray.size_append, num4_size]
 rfl

theorem Bld.below {w w' : World} {B b : Nat} {l : List UInt8} (h : Bld w B b l) (hb : Below w.heap.size w w') : Bld w' B b l := by
 have key : ∀ p, Lib.BuilderAtF 142 5 B b p (Lib.byteCells l) w → Lib.BuilderAtF 142 5 B b p (Lib.byteCells l) w' := by
  intro p hp
  have hlt := hp.lt
  obtain ⟨hB, v, hbk, hown, hne⟩ := hp
  exact ⟨hB, v, (hb.block b hlt).trans hbk, hown.kept (only_of_below hb none) (by cases hv : v.ownBlock <;> simp), hne⟩
 exact h.elim (fun x => .inl (key _ x)) (fun x => .inr (key _ x))
end Go.Proofs.YtakgolbgeeoioaaGreat
namespace Go.Proofs.YtakgolbgeeoioaaGreat

theorem txts_bound {ss : List ByteArray} {c : Nat} (h : ∀ s ∈ ss, s.size ≤ c) : (txts ss).size ≤ ss.length * (4 + c) := by
 induction ss with
 | nil => exact Nat.zero_le _
 | cons s r ih =>
  show (txt s ++ txts r).size ≤ (r.length + 1) * (4 + c)
  have h1 := ih (fun x hx => h x (by simp [hx]))
  have h2 := h s (by simp)
  rw [ByteArray.size_append, txt_size, Nat.succ_mul]
  omega
end Go.Proofs.YtakgolbgeeoioaaGreat
