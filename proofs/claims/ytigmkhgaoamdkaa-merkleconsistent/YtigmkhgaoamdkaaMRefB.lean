/-
  Both: the reference's.
-/
import Derived.Test.YtigmkhgaoamdkaaMRefU
import Derived.Deep.WholeRow
namespace Go.Proofs.Ytigmkhgaoamdkaa
open Go.RowKit

theorem cell_far {W : World} {p c : Addr} (h : c.block ≠ p.block) (u : Value) : (W.setCell p u).cell? c = W.cell? c := World.cell?_of_block (Below.heap_setCell W p u c.block h)
theorem two_info (a b : ByteArray) : (Try.prog.info? 48).map (·.size) = some (#[Value.string a, Value.string b] : Array Value).size := by
  rw [show (#[Value.string a, Value.string b] : Array Value).size = 2 from rfl]; kernel_rfl
set_option maxRecDepth 100000 in
set_option maxHeartbeats 8000000 in
theorem both_any (n : Nat) : ∀ (m : Nat) (first : ByteArray) (b : Bool) (oa : Option Addr) (q cap : Nat) (p : List ByteArray) (_ : first.size ≤ 1073741824) (_ : 1 ≤ m) (_ : m ≤ n) (_ : n ≤ 64) (_ : p.length = q) (_ : q = lenM m n b) (_ : q ≤ cap) (_ : Sz p) (w : World) (_ : Strs w oa p),
    Calls Try.prog 25 #[.int .i64 m, .int .i64 n, .string first, .slice oa q cap, .bool b] w fun e w' => e = .returned (.agg #[.string (botM m n first b p).1, .string (botM m n first b p).2.1]) ∧ Below w.heap.size w w' := by
  induction n using Nat.strongRecOn with
  | _ n ih =>
  intro m first b oa q cap p hl hm1 hmn hn hq hql hcap hz w hc
  have hB0 := (Below.refl _ w).alloc (Nat.le_refl _) (.cells #[.string ⟨#[]⟩, .string ⟨#[]⟩] 48)
  have hres : Blk (w.alloc (.cells #[.string ⟨#[]⟩, .string ⟨#[]⟩] 48)) w.heap.size 48 #[.string ⟨#[]⟩, .string ⟨#[]⟩] := Blk.new _ _ _
  have hc0 := hc.below hB0
  by_cases h1 : m = n
  · subst h1
    have hmm : ((m : Int) == (m : Int)) = true := by rw [beq_iff_eq]
    cases b with
    | true =>
      rw [botM_whole]
      show Calls _ _ _ _ fun e w' => e = .returned (.agg #[.string first, .string first]) ∧ _
      have HI := Lib.hid (two_info first first)
      clear ih hz hc0 hq hl hql hc
      go_enter Try.func25, Try.ntmps25
      go_wp2
      exact bodyPost_ret (results_cell_row rfl _ _ w.heap.size 48 #[.string first, .string first] (0, 0) _ rfl (Blk.new _ _ _) Try.underlying48 rfl HI.out) rfl ⟨rfl, (Below.refl _ w).alloc (Nat.le_refl _) _⟩
    | false =>
      have hd : lenM m m false = 1 := by rw [lenM, if_pos rfl]; rfl
      rw [botM_same (by omega)]
      show Calls _ _ _ _ fun e w' => e = .returned (.agg #[.string (endM p), .string (endM p)]) ∧ _
      obtain rfl : q = 1 := by omega
      obtain ⟨a, rfl, hab, hcell⟩ := hc 0 (by omega)
      have he : endM p = p.getD 0 ByteArray.empty := by unfold endM; rw [hq]
      rw [← he, show a.add 0 = a from rfl] at hcell
      generalize endM p = x at *
      have HI := Lib.hid (two_info x x)
      clear ih hz hc0 hq hl hql hc hd he
      have HKP : Hid (∀ W, Below w.heap.size w W → W.cell? a = some (.string x) ∧ Below w.heap.size w W) := Lib.hid fun W hW => ⟨(hW.cell hab).trans hcell, hW⟩
      clear hab hcell
      go_enter Try.func25, Try.ntmps25
      go_wp2
      go_region_held3 (fun w' => w'.cell? a = some (.string x) ∧ Below w.heap.size w w')
        ((refine HKP.out _ ?_; first | exact hB0 | exact ((Below.refl _ w).alloc (Nat.le_refl _) _).drew))
        (fail)
      go_wp2
      exact bodyPost_ret (results_cell_row rfl _ _ w.heap.size 48 #[.string x, .string x] (0, 0) _ rfl (Blk.new w 48 #[.string x, .string x]).drew Try.underlying48 rfl HI.out) rfl ⟨rfl, ((Below.refl _ w).alloc (Nat.le_refl _) _).drew⟩
  · have hmm : ((m : Int) == (n : Int)) = false := by rw [beq_eq_false_iff_ne]; omega
    have h2 : 2 ≤ n := by omega
    have HP := Lib.hid (fun W => half_any n h2 hn W)
    have hk1 := kM_lt h2
    have hk0 := kM_pos n
    have ze := endM_sz hz
    have hdn := lenM_le n m b
    have z0 : (⟨#[1]⟩ : ByteArray).size = 1 := rfl
    have HCC := Lib.hid hc0.cut
    have HRES := Lib.hid hres
    by_cases hik : m ≤ kM n
    · have hik' : (m : Int) ≤ (kM n : Int) := by omega
      have hd := lenM_left (b := b) h2 h1 hik
      obtain ⟨q1, hq1⟩ : ∃ q1, q = q1 + 1 := ⟨q - 1, by omega⟩
      obtain ⟨a, rfl, hab, hcell⟩ := hc q1 (by omega)
      have he : endM p = p.getD q1 ByteArray.empty := by unfold endM; rw [hq, hq1, Nat.add_sub_cancel]
      rw [← he] at hcell
      have HR := Lib.hid (botM_left (first := first) (b := b) h2 h1 (by omega) hik (p := p))
      have HL := Lib.hid (fun W hW => ih (kM n) hk1 m first b (some a) q1 cap (cutM p) hl hm1 hik (by omega) (by rw [cutM_length, hq, hq1, Nat.add_sub_cancel]) (by omega) (by omega) (cutM_sz hz) W hW)
      have zr := botM_sz m (kM n) b hl (cutM_sz hz)
      have hsl := slice_to (some a) q cap q1 (by omega)
      rw [HR.out]
      show Calls _ _ _ _ fun e w' => e = .returned (.agg #[.string (botM m (kM n) first b (cutM p)).1, .string (nodM (botM m (kM n) first b (cutM p)).2.1 (endM p))]) ∧ _
      generalize (botM m (kM n) first b (cutM p)).1 = r1 at *
      generalize (botM m (kM n) first b (cutM p)).2.1 = r2 at *
      generalize endM p = x at *
      generalize cutM p = c at *
      have p1 := addRun (a := ⟨#[1]⟩) (b := r2) (by omega)
      have p2 := addRun (a := ⟨#[1]⟩ ++ r2) (b := x) (by simp only [ByteArray.size_append]; omega)
      have HJ := Lib.hid (fun W => rh4_any (⟨#[1]⟩ ++ r2 ++ x) (by simp only [ByteArray.size_append]; omega) W)
      change Hid (∀ W, Calls Try.prog 30 _ W fun e w' => e = .returned (.string (nodM r2 x)) ∧ Below W.heap.size W w') at HJ
      generalize nodM r2 x = R at *
      generalize kM n = k at *
      have hm0 : (0 : Int) ≤ (q1 : Int) := by omega
      have hm3 : (q1 : Int) < (q : Int) := by omega
      have HM := Lib.hid (show (q : Int) - 1 = (q1 : Int) by omega)
      have hm4 : q1 ≤ 65 := by omega
      have hm5 : q ≤ 66 := by omega
      have HI := Lib.hid (two_info r1 R)
      have HCP := Lib.hid (fun (W : World) (hW : Below w.heap.size w W) => show W.cell? (a.add q1) = some (.string x) from (hW.cell (by rw [add_block]; exact hab)).trans hcell)
      have HAB := Lib.hid hab
      clear ih hz hc0 hq hq1 hql hdn hd he hcell hl ze zr z0 HR hab hc
      go_enter Try.func25, Try.ntmps25
      go_wp2_with fail
      refine (HP.out _).mono ?_
      rintro e w' ⟨rfl, hw⟩
      rw [hw]
      clear hw
      rw [HM.out]
      obtain ⟨w0, hw0⟩ : ∃ w0, w.alloc (.cells #[.string ⟨#[]⟩, .string ⟨#[]⟩] 48) = w0 := ⟨_, rfl⟩
      rw [hw0] at HRES hB0 HCC ⊢
      clear hw0 hres
      go_wp2_with fail
      refine (HL.out _ HCC.out).mono ?_
      rintro e w1 ⟨rfl, hb1⟩
      have hB1 := hB0.trans (hb1.mono hB0.size)
      have hres1 := HRES.out.below hb1 HRES.out.lt
      have hlt1 := hres1.lt
      clear hb1 hB0 HRES HCC
      go_wp2
      have hx2 : Blk (w1.alloc (.cells #[.string r1, .string r2] 48)) w1.heap.size 48 #[.string r1, .string r2] := Blk.new _ _ _
      have hB2 := hB1.alloc hB1.size (.cells #[.string r1, .string r2] 48)
      have hres2 := hres1.alloc (.cells #[.string r1, .string r2] 48)
      generalize w1.alloc (.cells #[.string r1, .string r2] 48) = w2 at *
      obtain ⟨G, hG⟩ : ∃ G, w1.heap.size = G := ⟨_, rfl⟩
      rw [hG] at hx2 hlt1 ⊢
      have hGL : G < w2.heap.size := hx2.lt
      obtain ⟨B, hBB⟩ : ∃ B, w.heap.size = B := ⟨_, rfl⟩
      rw [hBB] at hB2 hres2 hlt1 HAB HCP ⊢
      have HBB := Lib.hid hBB
      have HR2 := Lib.hid hres2
      have HKP : Hid (∀ W, Below w2.heap.size w2 W → (W.cell? ⟨G, 0, none⟩ = some (.string r1) ∧ W.cell? ⟨G, 1, none⟩ = some (.string r2) ∧ W.cell? (a.add q1) = some (.string x)) ∧ Below B w W) :=
        Lib.hid fun W hW => ⟨⟨(hx2.below hW hGL).cell 0, (hx2.below hW hGL).cell 1, HCP.out _ (hB2.trans (hW.mono (Nat.le_of_lt hres2.lt)))⟩, hB2.trans (hW.mono (Nat.le_of_lt hres2.lt))⟩
      have HKS : Hid (∀ W u v, Below w2.heap.size w2 W → (((W.setCell ⟨B, 0, none⟩ u).setCell ⟨B, 1, none⟩ v).cell? ⟨G, 0, none⟩ = some (.string r1) ∧ ((W.setCell ⟨B, 0, none⟩ u).setCell ⟨B, 1, none⟩ v).cell? ⟨G, 1, none⟩ = some (.string r2) ∧ ((W.setCell ⟨B, 0, none⟩ u).setCell ⟨B, 1, none⟩ v).cell? (a.add q1) = some (.string x)) ∧ Below B w ((W.setCell ⟨B, 0, none⟩ u).setCell ⟨B, 1, none⟩ v)) :=
        Lib.hid fun W u v hW => ⟨⟨by rw [cell_far (by show G ≠ B; omega), cell_far (by show G ≠ B; omega)]; exact (HKP.out W hW).1.1, by rw [cell_far (by show G ≠ B; omega), cell_far (by show G ≠ B; omega)]; exact (HKP.out W hW).1.2.1, by rw [cell_far (by rw [add_block]; have := HAB.out; show a.block ≠ B; omega), cell_far (by rw [add_block]; have := HAB.out; show a.block ≠ B; omega)]; exact (HKP.out W hW).1.2.2⟩, ((HKP.out W hW).2.setCell (p := ⟨B, 0, none⟩) (Nat.le_refl _) u).setCell (p := ⟨B, 1, none⟩) (Nat.le_refl _) v⟩
      clear hx2 hB2 hres2 hlt1 hG hBB hGL hres1 hB1 HCP HAB HL HP
      go_region_held3 (fun w' => (w'.cell? ⟨G, 0, none⟩ = some (.string r1) ∧ w'.cell? ⟨G, 1, none⟩ = some (.string r2) ∧ w'.cell? (a.add q1) = some (.string x)) ∧ Below B w w')
        (first | exact HKP.out _ hB3' | exact HKS.out _ _ _ hB3' | exact HKP.out _ (Below.refl _ _).drew | exact HKP.out _ (Below.refl _ _))
        (first | (go_at_call 30; refine (HJ.out _).mono ?_; rintro e w3 ⟨rfl, hb3⟩; have hB3' : Below w2.heap.size w2 w3 := (Below.refl _ _).drew.trans hb3; have hblk := HR2.out.below hB3' HR2.out.lt; have k0 := hblk.cell 0; have k1 := hblk.cell 1; have f0 := hblk.frozen 0; have f1 := hblk.frozen 1))
      have hblk2 := (hblk.set_ 0 (.string r1)).set_ 1 (.string R)
      have hB6 := (HKS.out w3 (.string r1) (.string R) hB3').2
      rw [← HBB.out] at hB6 hblk2 ⊢
      go_wp2
      exact bodyPost_ret (results_cell_row rfl _ _ w.heap.size 48 #[.string r1, .string R] (0, 0) _ rfl hblk2 Try.underlying48 rfl HI.out) rfl ⟨rfl, hB6⟩
    · have hik' : ¬ (m : Int) ≤ (kM n : Int) := by omega
      have hd := lenM_right (b := b) h2 h1 hik
      obtain ⟨q1, hq1⟩ : ∃ q1, q = q1 + 1 := ⟨q - 1, by omega⟩
      obtain ⟨a, rfl, hab, hcell⟩ := hc q1 (by omega)
      have he : endM p = p.getD q1 ByteArray.empty := by unfold endM; rw [hq, hq1, Nat.add_sub_cancel]
      rw [← he] at hcell
      have HR := Lib.hid (botM_right (first := first) (b := b) h2 h1 (by omega) hik (p := p))
      have HL := Lib.hid (fun W hW => ih (n - kM n) (by omega) (m - kM n) first false (some a) q1 cap (cutM p) hl (by omega) (by omega) (by omega) (by rw [cutM_length, hq, hq1, Nat.add_sub_cancel]) (by omega) (by omega) (cutM_sz hz) W hW)
      rw [show ((m - kM n : Nat) : Int) = (m : Int) - (kM n : Int) by omega, show ((n - kM n : Nat) : Int) = (n : Int) - (kM n : Int) by omega] at HL
      have zr := botM_sz (m - kM n) (n - kM n) false hl (cutM_sz hz)
      have hsl := slice_to (some a) q cap q1 (by omega)
      rw [HR.out]
      show Calls _ _ _ _ fun e w' => e = .returned (.agg #[.string (nodM (endM p) (botM (m - kM n) (n - kM n) first false (cutM p)).1), .string (nodM (endM p) (botM (m - kM n) (n - kM n) first false (cutM p)).2.1)]) ∧ _
      generalize (botM (m - kM n) (n - kM n) first false (cutM p)).1 = r1 at *
      generalize (botM (m - kM n) (n - kM n) first false (cutM p)).2.1 = r2 at *
      generalize endM p = x at *
      generalize cutM p = c at *
      have p1 := addRun (a := ⟨#[1]⟩) (b := x) (by omega)
      have p2 := addRun (a := ⟨#[1]⟩ ++ x) (b := r1) (by simp only [ByteArray.size_append]; omega)
      have p3 := addRun (a := ⟨#[1]⟩ ++ x) (b := r2) (by simp only [ByteArray.size_append]; omega)
      have HJ := Lib.hid (fun W => rh4_any (⟨#[1]⟩ ++ x ++ r1) (by simp only [ByteArray.size_append]; omega) W)
      change Hid (∀ W, Calls Try.prog 30 _ W fun e w' => e = .returned (.string (nodM x r1)) ∧ Below W.heap.size W w') at HJ
      have HJ2 := Lib.hid (fun W => rh4_any (⟨#[1]⟩ ++ x ++ r2) (by simp only [ByteArray.size_append]; omega) W)
      change Hid (∀ W, Calls Try.prog 30 _ W fun e w' => e = .returned (.string (nodM x r2)) ∧ Below W.heap.size W w') at HJ2
      generalize nodM x r1 = R1 at *
      generalize nodM x r2 = R at *
      generalize kM n = k at *
      have hm0 : (0 : Int) ≤ (q1 : Int) := by omega
      have hm3 : (q1 : Int) < (q : Int) := by omega
      have HM := Lib.hid (show (q : Int) - 1 = (q1 : Int) by omega)
      have hm4 : q1 ≤ 65 := by omega
      have hm5 : q ≤ 66 := by omega
      have HI := Lib.hid (two_info R1 R)
      have HCP := Lib.hid (fun (W : World) (hW : Below w.heap.size w W) => show W.cell? (a.add q1) = some (.string x) from (hW.cell (by rw [add_block]; exact hab)).trans hcell)
      have HAB := Lib.hid hab
      clear ih hz hc0 hq hq1 hql hdn hd he hcell hl ze zr z0 HR hab hc
      go_enter Try.func25, Try.ntmps25
      go_wp2_with fail
      refine (HP.out _).mono ?_
      rintro e w' ⟨rfl, hw⟩
      rw [hw]
      clear hw
      rw [HM.out]
      obtain ⟨w0, hw0⟩ : ∃ w0, w.alloc (.cells #[.string ⟨#[]⟩, .string ⟨#[]⟩] 48) = w0 := ⟨_, rfl⟩
      rw [hw0] at HRES hB0 HCC ⊢
      clear hw0 hres
      go_wp2_with fail
      refine (HL.out _ HCC.out).mono ?_
      rintro e w1 ⟨rfl, hb1⟩
      have hB1 := hB0.trans (hb1.mono hB0.size)
      have hres1 := HRES.out.below hb1 HRES.out.lt
      have hlt1 := hres1.lt
      clear hb1 hB0 HRES HCC
      go_wp2
      have hx2 : Blk (w1.alloc (.cells #[.string r1, .string r2] 48)) w1.heap.size 48 #[.string r1, .string r2] := Blk.new _ _ _
      have hB2 := hB1.alloc hB1.size (.cells #[.string r1, .string r2] 48)
      have hres2 := hres1.alloc (.cells #[.string r1, .string r2] 48)
      generalize w1.alloc (.cells #[.string r1, .string r2] 48) = w2 at *
      obtain ⟨G, hG⟩ : ∃ G, w1.heap.size = G := ⟨_, rfl⟩
      rw [hG] at hx2 hlt1 ⊢
      have hGL : G < w2.heap.size := hx2.lt
      obtain ⟨B, hBB⟩ : ∃ B, w.heap.size = B := ⟨_, rfl⟩
      rw [hBB] at hB2 hres2 hlt1 HAB HCP ⊢
      have HBB := Lib.hid hBB
      have HR2 := Lib.hid hres2
      have HKP : Hid (∀ W, Below w2.heap.size w2 W → (W.cell? ⟨G, 0, none⟩ = some (.string r1) ∧ W.cell? ⟨G, 1, none⟩ = some (.string r2) ∧ W.cell? (a.add q1) = some (.string x)) ∧ Below B w W) :=
        Lib.hid fun W hW => ⟨⟨(hx2.below hW hGL).cell 0, (hx2.below hW hGL).cell 1, HCP.out _ (hB2.trans (hW.mono (Nat.le_of_lt hres2.lt)))⟩, hB2.trans (hW.mono (Nat.le_of_lt hres2.lt))⟩
      have HKS : Hid (∀ W u v, Below w2.heap.size w2 W → (((W.setCell ⟨B, 0, none⟩ u).setCell ⟨B, 1, none⟩ v).cell? ⟨G, 0, none⟩ = some (.string r1) ∧ ((W.setCell ⟨B, 0, none⟩ u).setCell ⟨B, 1, none⟩ v).cell? ⟨G, 1, none⟩ = some (.string r2) ∧ ((W.setCell ⟨B, 0, none⟩ u).setCell ⟨B, 1, none⟩ v).cell? (a.add q1) = some (.string x)) ∧ Below B w ((W.setCell ⟨B, 0, none⟩ u).setCell ⟨B, 1, none⟩ v)) :=
        Lib.hid fun W u v hW => ⟨⟨by rw [cell_far (by show G ≠ B; omega), cell_far (by show G ≠ B; omega)]; exact (HKP.out W hW).1.1, by rw [cell_far (by show G ≠ B; omega), cell_far (by show G ≠ B; omega)]; exact (HKP.out W hW).1.2.1, by rw [cell_far (by rw [add_block]; have := HAB.out; show a.block ≠ B; omega), cell_far (by rw [add_block]; have := HAB.out; show a.block ≠ B; omega)]; exact (HKP.out W hW).1.2.2⟩, ((HKP.out W hW).2.setCell (p := ⟨B, 0, none⟩) (Nat.le_refl _) u).setCell (p := ⟨B, 1, none⟩) (Nat.le_refl _) v⟩
      clear hx2 hB2 hres2 hlt1 hG hBB hGL hres1 hB1 HCP HAB HL HP
      go_region_held3 (fun w' => (w'.cell? ⟨G, 0, none⟩ = some (.string r1) ∧ w'.cell? ⟨G, 1, none⟩ = some (.string r2) ∧ w'.cell? (a.add q1) = some (.string x)) ∧ Below B w w')
        (first | exact HKP.out _ hB4' | exact HKS.out _ _ _ hB4' | exact HKP.out _ hB3' | exact HKP.out _ (Below.refl _ _).drew | exact HKP.out _ (Below.refl _ _))
        (first
          | (have := hB3'; go_at_call 30; refine (HJ2.out _).mono ?_; rintro e w4 ⟨rfl, hb4⟩; have hB4' : Below w2.heap.size w2 w4 := hB3'.trans (hb4.mono hB3'.size); have hblk := HR2.out.below hB4' HR2.out.lt; have k0 := hblk.cell 0; have k1 := hblk.cell 1; have f0 := hblk.frozen 0; have f1 := hblk.frozen 1)
          | (go_at_call 30; refine (HJ.out _).mono ?_; rintro e w3 ⟨rfl, hb3⟩; have hB3' : Below w2.heap.size w2 w3 := (Below.refl _ _).drew.trans hb3))
      have hblk2 := (hblk.set_ 0 (.string R1)).set_ 1 (.string R)
      have hB6 := (HKS.out w4 (.string R1) (.string R) hB4').2
      rw [← HBB.out] at hB6 hblk2 ⊢
      go_wp2
      exact bodyPost_ret (results_cell_row rfl _ _ w.heap.size 48 #[.string R1, .string R] (0, 0) _ rfl hblk2 Try.underlying48 rfl HI.out) rfl ⟨rfl, hB6⟩
end Go.Proofs.Ytigmkhgaoamdkaa
