/-
  Roots of entries at a depth.
-/
import Derived.Test.YtjmjkcgldencoaaGreatSPartSSortSOrd
import Derived.Test.YtjmjkcgldencoaaGreatSConvSPlant
namespace Go.Proofs.YtjmjkcgldencoaaGreat
open Go.RowKit

/-- the root of entries, so many depths above the last -/
def rootK : Nat → List Ent → ByteArray
  | 0, [] => empK 0
  | 0, x :: _ => ownS x.key x.val
  | k + 1, [] => empK (k + 1)
  | k + 1, x :: r => nodS (rootK k (zer (255 - k) (x :: r))) (rootK k (one (255 - k) (x :: r)))
theorem rootK_nil (k : Nat) : rootK k [] = empK k := by cases k <;> simp [rootK]
theorem rootK_size (k : Nat) (es : List Ent) : (rootK k es).size = 32 := by
  cases k with
  | zero => cases es with
    | nil => rw [rootK]; exact empK_size _
    | cons x r => rw [rootK]; exact ownS_size _ _
  | succ k => cases es with
    | nil => rw [rootK]; exact empK_size _
    | cons x r => rw [rootK]; exact nodS_size _ _
/-- keys and values that are not too long -/
def Fit (es : List Ent) : Prop := ∀ x ∈ es, x.key.size ≤ 1073741824 ∧ x.val.size ≤ 1073741824
theorem Fit.filter {es : List Ent} (h : Fit es) (f : Ent → Bool) : Fit (es.filter f) := fun x hx => h x (List.mem_filter.1 hx).1
set_option maxRecDepth 100000 in
theorem bitAt_any (d : Nat) (w : World) : Calls Tryz.prog 76 #[.int .i64 d] w fun e w' => e = .returned (.func (.func 88) #[] #[.pointer (some ⟨w.heap.size, 0, none⟩)]) ∧ w.alloc (.cells #[.int .i64 d] 3) = w' := by
  go_enter Tryz.func76, Tryz.ntmps76
  go_wp2
  go_ret
  exact ⟨rfl, rfl⟩

section
attribute [-go_sem] loadVar
set_option maxRecDepth 100000 in
set_option maxHeartbeats 2000000 in
theorem troot_any (g : Nat) {b : Nat} (k : Nat) : ∀ (d : Nat) (_ : d + k = 256) (oa : Option Addr) (n cap : Nat) (es : List Ent) (_ : es.length = n) (_ : n ≤ 1000000) (_ : n ≤ cap) (_ : Good d es) (_ : Fit es) (w : World) (_ : Tre w g) (_ : Ents w b oa es),
    Calls Tryz.prog 59 #[.pointer (some ⟨g, 0, none⟩), .int .i64 d, .slice oa n cap] w fun e w' => e = .returned (.string (rootK k es)) ∧ Below w.heap.size w w' := by
  induction k with
  | zero =>
    intro d hd oa n cap es hn hsz hcap hG hF w hT hE
    obtain rfl : d = 256 := by omega
    cases es with
    | nil =>
      obtain rfl : n = 0 := by simpa using hn.symm
      have hc := txt_load (tre_cell hT (d := 256) (by decide))
      rw [rootK_nil]
      change (loadVar 9 _).run Tryz.prog w = .ok (.string (empK 0)) w at hc
      generalize empK 0 = R at *
      rw [show (72 + 256 : Nat) = 328 from rfl] at hc
      clear hG hF hT hE hn
      go_enter Tryz.func59, Tryz.ntmps59
      go_wp2
      go_ret
      exact ⟨rfl, Below.refl _ _⟩
    | cons x r =>
      rcases hE with hE | ⟨g1, o, rfl, _, hE⟩
      · cases hE
      obtain ⟨_, e1, e2⟩ := hE.2 0 (by simp)
      simp only [List.getElem_cons_zero, Nat.zero_mul, Nat.add_zero] at e1 e2
      have hn1 : 1 ≤ n := by rw [← hn]; simp
      have hn0 : ((n : Int) == 0) = false := by rw [beq_eq_false_iff_ne]; omega
      have hnp : 0 < n := hn1
      obtain ⟨f1, f2⟩ := hF x (by simp)
      have HV := Lib.hid (fun W h1 h2 => tvalue_any g x.key x.val f1 f2 W h1 h2)
      rw [show rootK 0 (x :: r) = ownS x.key x.val by rw [rootK]]
      have HT := Lib.hid hT
      have HKP : Hid (∀ W, Below w.heap.size w W → ((loadVar 9 ⟨g1, o + 1, none⟩).run Tryz.prog W = .ok (.string x.key) W ∧ (loadVar 9 ⟨g1, o + 2, none⟩).run Tryz.prog W = .ok (.string x.val) W) ∧ Below w.heap.size w W) :=
        Lib.hid fun W hW => ⟨⟨txt_load ((hW.cell (p := ⟨g1, o + 1, none⟩) hE.1).trans e1), txt_load ((hW.cell (p := ⟨g1, o + 2, none⟩) hE.1).trans e2)⟩, hW⟩
      generalize ownS x.key x.val = R at *
      generalize x.key = X at *
      generalize x.val = Y at *
      clear hG hF hT hE e1 e2 f1 f2 hn
      go_enter Tryz.func59, Tryz.ntmps59
      go_wp2
      go_region_held3 (fun w' => ((loadVar 9 ⟨g1, o + 1, none⟩).run Tryz.prog w' = .ok (.string X) w' ∧ (loadVar 9 ⟨g1, o + 2, none⟩).run Tryz.prog w' = .ok (.string Y) w') ∧ Below w.heap.size w w')
        ((refine HKP.out _ ?_; first | exact hB1' | exact (Below.refl _ _).drew | exact Below.refl _ _))
        (first
          | (go_at_call 74; refine (HV.out w.drew HT.out.lt (fun W hW => tre_tab (Blk.below (w := w.drew) HT.out hW HT.out.lt))).mono ?_; rintro e w1 ⟨rfl, hb1⟩; have hB1' : Below w.heap.size w w1 := (Below.refl _ _).drew.trans hb1))
      go_wp2
      go_ret
      exact ⟨rfl, hB1'⟩
  | succ k ih =>
    intro d hd oa n cap es hn hsz hcap hG hF w hT hE
    have hd1 : d < 256 := by omega
    cases es with
    | nil =>
      obtain rfl : n = 0 := by simpa using hn.symm
      have hc := txt_load (tre_cell hT (d := d) (by omega))
      rw [rootK_nil]
      have he : emp d = empK (k + 1) := by unfold emp; rw [show 256 - d = k + 1 by omega]
      rw [he] at hc
      generalize empK (k + 1) = R at *
      have hd7 : (d : Int) < 257 := by omega
      clear hG hF hT hE hn he
      go_enter Tryz.func59, Tryz.ntmps59
      go_wp2
      go_ret
      exact ⟨rfl, Below.refl _ _⟩
    | cons x r =>
      have hn1 : 1 ≤ n := by rw [← hn]; simp
      have hn0 : ((n : Int) == 0) = false := by rw [beq_eq_false_iff_ne]; omega
      have hd2 : ((d : Int) == 256) = false := by rw [beq_eq_false_iff_ne]; omega
      have HP := Lib.hid (fun W c hE' hc => part_any (b := b) d c hd1 oa cap n (x :: r) hn hsz hcap hG.size (hG.mon hd1) W hE' hc)
      have HR : Hid (rootK (k + 1) (x :: r) = nodS (rootK k (zer d (x :: r))) (rootK k (one d (x :: r)))) := Lib.hid (by rw [rootK, show 255 - k = d by omega])
      have hl1 : (zer d (x :: r)).length ≤ n := by rw [← hn]; exact List.length_filter_le _ _
      have hl2 : (one d (x :: r)).length ≤ n := by rw [← hn]; exact List.length_filter_le _ _
      have H1 := Lib.hid (fun oa cap hc W hT hE => ih (d + 1) (by omega) oa _ cap (zer d (x :: r)) rfl (by omega) hc hG.zer (hF.filter _) W hT hE)
      have H2 := Lib.hid (fun oa cap hc W hT hE => ih (d + 1) (by omega) oa _ cap (one d (x :: r)) rfl (by omega) hc hG.one (hF.filter _) W hT hE)
      have HJ := Lib.hid (fun W hT => tjoin_any g (rootK k (zer d (x :: r))) (rootK k (one d (x :: r))) (by rw [rootK_size]; decide) (by rw [rootK_size]; decide) W hT)
      rw [← HR.out] at HJ
      have HT := Lib.hid hT
      have HE := Lib.hid hE
      unfold RPs at HP
      generalize rootK (k + 1) (x :: r) = R at *
      generalize rootK k (zer d (x :: r)) = R1 at *
      generalize rootK k (one d (x :: r)) = R2 at *
      generalize zer d (x :: r) = zs at *
      generalize one d (x :: r) = os at *
      generalize zs.length = n1 at *
      generalize os.length = n2 at *
      have e1 : ((d + 1 : Nat) : Int) = (d : Int) + 1 := by omega
      rw [e1] at H1 H2
      clear hG hF hT hn ih HR hE hl1 hl2 hd
      have hB0 := (Below.refl _ w).alloc (Nat.le_refl _) (.cells #[.int .i64 d] 3)
      have hcd := (Blk.new w 3 #[.int .i64 d]).cell 0
      go_enter Tryz.func59, Tryz.ntmps59
      go_wp2_with fail
      refine (bitAt_any d _).mono ?_
      rintro e w1 ⟨rfl, rfl⟩
      go_wp2_with fail
      refine (HP.out _ _ (HE.out.below hB0) hcd).mono ?_
      rintro e w2 ⟨o1, c1, o2, c2, rfl, hz, ho, hc1, hc2, hB2⟩
      have hB2' := hB0.trans (hB2.mono hB0.size)
      have hT2 := HT.out.below hB2' HT.out.lt
      clear hB0 hB2 HP hcd
      go_wp2_with fail
      refine (H1.out o1 c1 hc1 _ hT2 hz).mono ?_
      rintro e w3 ⟨rfl, hB3⟩
      have ho3 := ho.below hB3
      have hT3 := hT2.below hB3 hT2.lt
      have hB3' := hB2'.trans (hB3.mono hB2'.size)
      clear hB2' hB3 hz ho hT2
      go_wp2_with fail
      refine (H2.out o2 c2 hc2 _ hT3 ho3).mono ?_
      rintro e w4 ⟨rfl, hB4⟩
      have hT4 := hT3.below hB4 hT3.lt
      have hB4' := hB3'.trans (hB4.mono hB3'.size)
      clear hB3' hB4 ho3 hT3
      go_wp2_with fail
      refine (HJ.out _ (tre_tab hT4)).mono ?_
      rintro e w5 ⟨rfl, hB5⟩
      have hB5' := hB4'.trans (hB5.mono hB4'.size)
      go_wp2
      go_ret
      exact ⟨rfl, hB5'⟩
end
end Go.Proofs.YtjmjkcgldencoaaGreat
