/-
  Layer 8: a beginning and its tree, unlike leaves at one place: the program's.
-/
import Derived.Test.YtfhfmfcmkiobdaaCLeaves
import Derived.Test.YtfhfmfcmkiobdaaCOpenG
namespace Go.Proofs.Ytfhfmfcmkiobdaa
open Go.RowKit

def okG (F S : ByteArray) (o : Option (ByteArray × ByteArray × List ByteArray × List ByteArray)) : Bool := match o with
  | none => false
  | some (a, s, _, _) => decide (a = F ∧ s = S)
def okP (h : ByteArray → ByteArray) (F S : ByteArray) (ps : List ByteArray) (a b : Clm) : Bool := clC a b && holC h F a && holC h S b && okG F S (groC h a.N b.N F ps)
theorem addF_size {F : ByteArray} (hF : F.size = 32) (whole : Bool) (W : List Bool) {P : List ByteArray} (hp : ∀ q ∈ P, q.size = 32) : ∀ q ∈ addF F whole W P, q.size = 32 := by
  intro q hq
  unfold addF at hq
  split at hq
  · rcases List.mem_append.1 hq with h | h
    · exact hp q h
    · obtain rfl := List.mem_singleton.1 h; exact hF
  · exact hp q hq
theorem gr_groC {h : ByteArray → ByteArray} {M N : Int} {F : ByteArray} {ps : List ByteArray} {a b : ByteArray} {E L : List ByteArray} (e : groC h M N F ps = some (a, b, E, L)) : M ≤ N ∧ Gr h M.toNat N.toNat a b E L := by
  unfold groC at e
  by_cases k : fitG M N F ps
  · rw [if_pos k] at e
    obtain ⟨n1, n2, n3, n4, n5⟩ := k
    exact ⟨n2, gr_of h N.toNat M.toNat _ a b E L (by omega) (by omega) (addF_size n4 _ _ (fun q hq => allC_at n5 (List.mem_reverse.1 hq))) e⟩
  · rw [if_neg k] at e; cases e
set_option maxRecDepth 100000 in
set_option maxHeartbeats 16000000 in
theorem prefix_any {g : Nat} {h : ByteArray → ByteArray} (H : Hsh g h) (F S : ByteArray) (hFs : F.size ≤ 1000) (op : Option Addr) (lp cp : Nat) (ps : List ByteArray) (hlp : ps.length = lp) (hmp : lp ≤ 40) (hcp : lp ≤ cp) (hnp : op = none → lp = 0 ∧ cp = 0) (hpz : ∀ s ∈ ps, s.size ≤ 9223372036854775807) (a b : Clm) (w : World) (hps : Strs w op ps) (hoa : a.ok w) (hob : b.ok w) :
    Calls Try.prog 25 #[.func (.func g) #[] #[], .string F, .string S, .slice op lp cp, a.val, b.val] w (RLv h (okP h F S ps a b) w) := by
  have HCl := Lib.hid (fun W => clash_any a b W)
  have HHa := Lib.hid (fun W hW => holds_any H F a W hW)
  have HHb := Lib.hid (fun W hW => holds_any H S b W hW)
  have HOG := Lib.hid (fun W hW => openGrowth_any H a.N b.N F hFs op lp cp ps hlp hmp hcp hnp hpz W hW)
  have HU : Hid (∀ T1 T2 E L, okP h F S ps a b = true → groC h a.N b.N F ps = some (T1, T2, E, L) → ∀ oe ol ce cl, E.length ≤ ce → L.length ≤ cl → ∀ W, a.ok W → b.ok W → Strs W oe E → Strs W ol L → Calls Try.prog 34 #[.func (.func g) #[] #[], a.val, b.val, .agg #[.string T1, .string T2, .slice oe E.length ce, .slice ol L.length cl]] W (RU h W)) := Lib.hid (fun T1 T2 E L hok hg oe ol ce cl hce hcl W hA hB hE hL => by
    unfold okP clC holC at hok
    rw [hg] at hok
    simp only [okG, Bool.and_eq_true, decide_eq_true_iff] at hok
    obtain ⟨⟨⟨⟨e2, e3⟩, e4⟩, e5⟩, e6, e7⟩ := hok
    obtain ⟨g1, g2⟩ := gr_groC hg
    cases ha : opC h a with
    | nil => rw [ha] at e4; cases e4
    | cons x X =>
      cases hb : opC h b with
      | nil => rw [hb] at e5; cases e5
      | cons y Y =>
        rw [ha] at e4
        rw [hb] at e5
        have hx : h x = F := congrArg Prod.fst e4
        have hy : h y = S := congrArg Prod.fst e5
        exact unlike_any H a b (lfn_ne e3) x X y Y ha hb e2 E L (by rw [hx, hy, ← e6, ← e7]; exact g2) g1 _ _ oe ol ce cl hce hcl W hA hB hE hL)
  have HKa := Lib.hid hoa
  have HKb := Lib.hid hob
  have HC := Lib.hid hps
  clear hoa hob H hps hFs hlp hmp hcp hnp hpz
  obtain ⟨k, hk⟩ : ∃ k, okP h F S ps a b = k := ⟨_, rfl⟩
  rw [hk] at HU ⊢
  unfold okP at hk
  generalize holC h F a = p at *
  generalize holC h S b = q at *
  generalize clC a b = c at *
  generalize groC h a.N b.N F ps = o at *
  obtain ⟨lf, I, N, oa, len, cap, ss⟩ := a
  obtain ⟨lf', I', N', oa', len', cap', ss'⟩ := b
  change (c && p && q && okG F S o) = k at hk
  change Hid (∀ W, Calls _ _ #[.agg #[.string lf, .int .i64 I, .int .i64 N, .slice oa len cap], .agg #[.string lf', .int .i64 I', .int .i64 N', .slice oa' len' cap']] W _) at HCl
  change Hid (∀ W, _ → Calls _ _ #[_, _, .agg #[.string lf, .int .i64 I, .int .i64 N, .slice oa len cap]] W _) at HHa
  change Hid (∀ W, _ → Calls _ _ #[_, _, .agg #[.string lf', .int .i64 I', .int .i64 N', .slice oa' len' cap']] W _) at HHb
  change Hid (∀ W, _ → Calls _ _ #[_, .int .i64 N, .int .i64 N', _, _] W _) at HOG
  change Hid (∀ T1 T2 E L, k = true → o = some (T1, T2, E, L) → ∀ oe ol ce cl, _ → _ → ∀ W, _ → _ → _ → _ → Calls _ _ #[_, .agg #[.string lf, .int .i64 I, .int .i64 N, .slice oa len cap], .agg #[.string lf', .int .i64 I', .int .i64 N', .slice oa' len' cap'], _] W _) at HU
  show Calls _ _ #[_, _, _, _, .agg #[.string lf, .int .i64 I, .int .i64 N, .slice oa len cap], .agg #[.string lf', .int .i64 I', .int .i64 N', .slice oa' len' cap']] _ _
  obtain ⟨B, hB⟩ : ∃ B, w.heap.size = B := ⟨_, rfl⟩
  obtain ⟨w0, hw0⟩ : ∃ w0, w.alloc (.cells #[.string lf, .int .i64 I, .int .i64 N, .slice oa len cap] 24) = w0 := ⟨_, rfl⟩
  obtain ⟨w1, hw1⟩ : ∃ w1, w0.alloc (.cells #[.string lf', .int .i64 I', .int .i64 N', .slice oa' len' cap'] 24) = w1 := ⟨_, rfl⟩
  obtain ⟨w2, hw2⟩ : ∃ w2, w1.alloc (.cells zpair 31) = w2 := ⟨_, rfl⟩
  have z0 : w0.heap.size = B + 1 := by rw [← hw0]; simp [hB]
  have z1 : w1.heap.size = B + 1 + 1 := by rw [← hw1]; simp [z0]
  have kA : Blk w2 B 24 #[.string lf, .int .i64 I, .int .i64 N, .slice oa len cap] := by rw [← hw2, ← hw1, ← hw0, ← hB]; exact ((Blk.new _ _ _).alloc _).alloc _
  have kB : Blk w2 (B + 1) 24 #[.string lf', .int .i64 I', .int .i64 N', .slice oa' len' cap'] := by rw [← hw2, ← hw1]; exact (Blk.new_at z0.symm).alloc _
  have kP : Blk w2 (B + 1 + 1) 31 zpair := by rw [← hw2]; exact Blk.new_at z1.symm
  have hB2 : Below w.heap.size w w2 := by rw [← hw2, ← hw1, ← hw0]; exact (((Below.refl _ w).alloc (Nat.le_refl _) _).alloc (by simp) _).alloc (by simp; omega) _
  have HW0 := Lib.hid hw0
  have HW1 := Lib.hid hw1
  have HW2 := Lib.hid hw2
  have HA2 := Lib.hid kA
  have HB2 := Lib.hid kB
  have HP2 := Lib.hid kP
  have HBl := Lib.hid hB2
  have x0 : w2.cell? ⟨B, 0, none⟩ = some (.string lf) := kA.cell 0
  have x1 : w2.cell? ⟨B, 1, none⟩ = some (.int .i64 I) := kA.cell 1
  have x2 : w2.cell? ⟨B, 2, none⟩ = some (.int .i64 N) := kA.cell 2
  have x3 : w2.cell? ⟨B, 3, none⟩ = some (.slice oa len cap) := kA.cell 3
  have y0 : w2.cell? ⟨B + 1, 0, none⟩ = some (.string lf') := kB.cell 0
  have y1 : w2.cell? ⟨B + 1, 1, none⟩ = some (.int .i64 I') := kB.cell 1
  have y2 : w2.cell? ⟨B + 1, 2, none⟩ = some (.int .i64 N') := kB.cell 2
  have y3 : w2.cell? ⟨B + 1, 3, none⟩ = some (.slice oa' len' cap') := kB.cell 3
  have HKK := Lib.hid hk
  clear hw0 hw1 hw2 kA kB kP hB2 hk
  cases c with
  | false =>
    have HF := Lib.hid (show k = false by rw [← HKK.out]; simp)
    rw [HF.out]
    go_enter Try.func25, Try.ntmps25
    go_wp2_with (first | rw [HW0.out] | rw [HW1.out] | rw [HW2.out])
    refine (HCl.out _).mono ?_
    rintro e w3 ⟨rfl, hb3⟩
    have hA3 := HA2.out.below hb3 HA2.out.lt
    have hB3' := HB2.out.below hb3 HB2.out.lt
    have hP3 := HP2.out.below hb3 HP2.out.lt
    have hB3 := HBl.out.trans (hb3.mono HBl.out.size)
    clear x0 x1 x2 x3 y0 y1 y2 y3 hb3
    have x0 : w3.cell? ⟨B, 0, none⟩ = some (.string lf) := hA3.cell 0
    have x1 : w3.cell? ⟨B, 1, none⟩ = some (.int .i64 I) := hA3.cell 1
    have x2 : w3.cell? ⟨B, 2, none⟩ = some (.int .i64 N) := hA3.cell 2
    have x3 : w3.cell? ⟨B, 3, none⟩ = some (.slice oa len cap) := hA3.cell 3
    have y0 : w3.cell? ⟨B + 1, 0, none⟩ = some (.string lf') := hB3'.cell 0
    have y1 : w3.cell? ⟨B + 1, 1, none⟩ = some (.int .i64 I') := hB3'.cell 1
    have y2 : w3.cell? ⟨B + 1, 2, none⟩ = some (.int .i64 N') := hB3'.cell 2
    have y3 : w3.cell? ⟨B + 1, 3, none⟩ = some (.slice oa' len' cap') := hB3'.cell 3
    have p0 : w3.cell? ⟨B + 1 + 1, 0, none⟩ = some (.string ⟨#[]⟩) := hP3.cell 0
    have p1 : w3.cell? ⟨B + 1 + 1, 1, none⟩ = some (.string ⟨#[]⟩) := hP3.cell 1
    have t0 := hP3.frozen 0
    have t1 := hP3.frozen 1
    have HRES := Lib.hid ((hP3.set_ 0 (.string ⟨#[]⟩)).set_ 1 (.string ⟨#[]⟩))
    have HBF := Lib.hid ((hB3.setCell (p := ⟨B + 1 + 1, 0, none⟩) (by show w.heap.size ≤ B + 1 + 1; omega) (.string ⟨#[]⟩)).setCell (p := ⟨B + 1 + 1, 1, none⟩) (by show w.heap.size ≤ B + 1 + 1; omega) (.string ⟨#[]⟩))
    go_wp2
    refine bodyPost_ret (results_grw rfl _ _ (B + 1 + 1) 31 zpair _ rfl HRES.out Try.underlying31 rfl infoPair) rfl ?_
    exact ⟨rfl, HBF.out⟩
  | true =>
    cases p with
    | false =>
      have HF := Lib.hid (show k = false by rw [← HKK.out]; simp)
      rw [HF.out]
      go_enter Try.func25, Try.ntmps25
      go_wp2_with (first | rw [HW0.out] | rw [HW1.out] | rw [HW2.out])
      refine (HCl.out _).mono ?_
      rintro e w3 ⟨rfl, hb3⟩
      have hA3 := HA2.out.below hb3 HA2.out.lt
      have hB3' := HB2.out.below hb3 HB2.out.lt
      have hP3 := HP2.out.below hb3 HP2.out.lt
      have hB3 := HBl.out.trans (hb3.mono HBl.out.size)
      clear x0 x1 x2 x3 y0 y1 y2 y3 hb3
      have x0 : w3.cell? ⟨B, 0, none⟩ = some (.string lf) := hA3.cell 0
      have x1 : w3.cell? ⟨B, 1, none⟩ = some (.int .i64 I) := hA3.cell 1
      have x2 : w3.cell? ⟨B, 2, none⟩ = some (.int .i64 N) := hA3.cell 2
      have x3 : w3.cell? ⟨B, 3, none⟩ = some (.slice oa len cap) := hA3.cell 3
      have y0 : w3.cell? ⟨B + 1, 0, none⟩ = some (.string lf') := hB3'.cell 0
      have y1 : w3.cell? ⟨B + 1, 1, none⟩ = some (.int .i64 I') := hB3'.cell 1
      have y2 : w3.cell? ⟨B + 1, 2, none⟩ = some (.int .i64 N') := hB3'.cell 2
      have y3 : w3.cell? ⟨B + 1, 3, none⟩ = some (.slice oa' len' cap') := hB3'.cell 3
      go_wp2_with fail
      refine (HHa.out _ (HKa.out.below hB3)).mono ?_
      rintro e w4 ⟨rfl, hb4⟩
      have hA4 := hA3.below hb4 hA3.lt
      have hB4' := hB3'.below hb4 hB3'.lt
      have hP4 := hP3.below hb4 hP3.lt
      have hB4 := hB3.trans (hb4.mono hB3.size)
      clear x0 x1 x2 x3 y0 y1 y2 y3 hb4
      have x0 : w4.cell? ⟨B, 0, none⟩ = some (.string lf) := hA4.cell 0
      have x1 : w4.cell? ⟨B, 1, none⟩ = some (.int .i64 I) := hA4.cell 1
      have x2 : w4.cell? ⟨B, 2, none⟩ = some (.int .i64 N) := hA4.cell 2
      have x3 : w4.cell? ⟨B, 3, none⟩ = some (.slice oa len cap) := hA4.cell 3
      have y0 : w4.cell? ⟨B + 1, 0, none⟩ = some (.string lf') := hB4'.cell 0
      have y1 : w4.cell? ⟨B + 1, 1, none⟩ = some (.int .i64 I') := hB4'.cell 1
      have y2 : w4.cell? ⟨B + 1, 2, none⟩ = some (.int .i64 N') := hB4'.cell 2
      have y3 : w4.cell? ⟨B + 1, 3, none⟩ = some (.slice oa' len' cap') := hB4'.cell 3
      have p0 : w4.cell? ⟨B + 1 + 1, 0, none⟩ = some (.string ⟨#[]⟩) := hP4.cell 0
      have p1 : w4.cell? ⟨B + 1 + 1, 1, none⟩ = some (.string ⟨#[]⟩) := hP4.cell 1
      have t0 := hP4.frozen 0
      have t1 := hP4.frozen 1
      have HRES := Lib.hid ((hP4.set_ 0 (.string ⟨#[]⟩)).set_ 1 (.string ⟨#[]⟩))
      have HBF := Lib.hid ((hB4.setCell (p := ⟨B + 1 + 1, 0, none⟩) (by show w.heap.size ≤ B + 1 + 1; omega) (.string ⟨#[]⟩)).setCell (p := ⟨B + 1 + 1, 1, none⟩) (by show w.heap.size ≤ B + 1 + 1; omega) (.string ⟨#[]⟩))
      go_wp2
      refine bodyPost_ret (results_grw rfl _ _ (B + 1 + 1) 31 zpair _ rfl HRES.out Try.underlying31 rfl infoPair) rfl ?_
      exact ⟨rfl, HBF.out⟩
    | true =>
      cases q with
      | false =>
        have HF := Lib.hid (show k = false by rw [← HKK.out]; simp)
        rw [HF.out]
        go_enter Try.func25, Try.ntmps25
        go_wp2_with (first | rw [HW0.out] | rw [HW1.out] | rw [HW2.out])
        refine (HCl.out _).mono ?_
        rintro e w3 ⟨rfl, hb3⟩
        have hA3 := HA2.out.below hb3 HA2.out.lt
        have hB3' := HB2.out.below hb3 HB2.out.lt
        have hP3 := HP2.out.below hb3 HP2.out.lt
        have hB3 := HBl.out.trans (hb3.mono HBl.out.size)
        clear x0 x1 x2 x3 y0 y1 y2 y3 hb3
        have x0 : w3.cell? ⟨B, 0, none⟩ = some (.string lf) := hA3.cell 0
        have x1 : w3.cell? ⟨B, 1, none⟩ = some (.int .i64 I) := hA3.cell 1
        have x2 : w3.cell? ⟨B, 2, none⟩ = some (.int .i64 N) := hA3.cell 2
        have x3 : w3.cell? ⟨B, 3, none⟩ = some (.slice oa len cap) := hA3.cell 3
        have y0 : w3.cell? ⟨B + 1, 0, none⟩ = some (.string lf') := hB3'.cell 0
        have y1 : w3.cell? ⟨B + 1, 1, none⟩ = some (.int .i64 I') := hB3'.cell 1
        have y2 : w3.cell? ⟨B + 1, 2, none⟩ = some (.int .i64 N') := hB3'.cell 2
        have y3 : w3.cell? ⟨B + 1, 3, none⟩ = some (.slice oa' len' cap') := hB3'.cell 3
        go_wp2_with fail
        refine (HHa.out _ (HKa.out.below hB3)).mono ?_
        rintro e w4 ⟨rfl, hb4⟩
        have hA4 := hA3.below hb4 hA3.lt
        have hB4' := hB3'.below hb4 hB3'.lt
        have hP4 := hP3.below hb4 hP3.lt
        have hB4 := hB3.trans (hb4.mono hB3.size)
        clear x0 x1 x2 x3 y0 y1 y2 y3 hb4
        have x0 : w4.cell? ⟨B, 0, none⟩ = some (.string lf) := hA4.cell 0
        have x1 : w4.cell? ⟨B, 1, none⟩ = some (.int .i64 I) := hA4.cell 1
        have x2 : w4.cell? ⟨B, 2, none⟩ = some (.int .i64 N) := hA4.cell 2
        have x3 : w4.cell? ⟨B, 3, none⟩ = some (.slice oa len cap) := hA4.cell 3
        have y0 : w4.cell? ⟨B + 1, 0, none⟩ = some (.string lf') := hB4'.cell 0
        have y1 : w4.cell? ⟨B + 1, 1, none⟩ = some (.int .i64 I') := hB4'.cell 1
        have y2 : w4.cell? ⟨B + 1, 2, none⟩ = some (.int .i64 N') := hB4'.cell 2
        have y3 : w4.cell? ⟨B + 1, 3, none⟩ = some (.slice oa' len' cap') := hB4'.cell 3
        go_wp2_with fail
        refine (HHb.out _ (HKb.out.below hB4)).mono ?_
        rintro e w5 ⟨rfl, hb5⟩
        have hA5 := hA4.below hb5 hA4.lt
        have hB5' := hB4'.below hb5 hB4'.lt
        have hP5 := hP4.below hb5 hP4.lt
        have hB5 := hB4.trans (hb5.mono hB4.size)
        clear x0 x1 x2 x3 y0 y1 y2 y3 hb5
        have x0 : w5.cell? ⟨B, 0, none⟩ = some (.string lf) := hA5.cell 0
        have x1 : w5.cell? ⟨B, 1, none⟩ = some (.int .i64 I) := hA5.cell 1
        have x2 : w5.cell? ⟨B, 2, none⟩ = some (.int .i64 N) := hA5.cell 2
        have x3 : w5.cell? ⟨B, 3, none⟩ = some (.slice oa len cap) := hA5.cell 3
        have y0 : w5.cell? ⟨B + 1, 0, none⟩ = some (.string lf') := hB5'.cell 0
        have y1 : w5.cell? ⟨B + 1, 1, none⟩ = some (.int .i64 I') := hB5'.cell 1
        have y2 : w5.cell? ⟨B + 1, 2, none⟩ = some (.int .i64 N') := hB5'.cell 2
        have y3 : w5.cell? ⟨B + 1, 3, none⟩ = some (.slice oa' len' cap') := hB5'.cell 3
        have p0 : w5.cell? ⟨B + 1 + 1, 0, none⟩ = some (.string ⟨#[]⟩) := hP5.cell 0
        have p1 : w5.cell? ⟨B + 1 + 1, 1, none⟩ = some (.string ⟨#[]⟩) := hP5.cell 1
        have t0 := hP5.frozen 0
        have t1 := hP5.frozen 1
        have HRES := Lib.hid ((hP5.set_ 0 (.string ⟨#[]⟩)).set_ 1 (.string ⟨#[]⟩))
        have HBF := Lib.hid ((hB5.setCell (p := ⟨B + 1 + 1, 0, none⟩) (by show w.heap.size ≤ B + 1 + 1; omega) (.string ⟨#[]⟩)).setCell (p := ⟨B + 1 + 1, 1, none⟩) (by show w.heap.size ≤ B + 1 + 1; omega) (.string ⟨#[]⟩))
        go_wp2
        refine bodyPost_ret (results_grw rfl _ _ (B + 1 + 1) 31 zpair _ rfl HRES.out Try.underlying31 rfl infoPair) rfl ?_
        exact ⟨rfl, HBF.out⟩
      | true =>
        cases o with
        | none =>
          have HF := Lib.hid (show k = false by rw [← HKK.out]; rfl)
          rw [HF.out]
          change Hid (∀ W, _ → Calls _ _ _ _ fun e w' => e = .returned (.tuple #[.agg zgrw, .bool false]) ∧ _) at HOG
          go_enter Try.func25, Try.ntmps25
          go_wp2_with (first | rw [HW0.out] | rw [HW1.out] | rw [HW2.out])
          refine (HCl.out _).mono ?_
          rintro e w3 ⟨rfl, hb3⟩
          have hA3 := HA2.out.below hb3 HA2.out.lt
          have hB3' := HB2.out.below hb3 HB2.out.lt
          have hP3 := HP2.out.below hb3 HP2.out.lt
          have hB3 := HBl.out.trans (hb3.mono HBl.out.size)
          clear x0 x1 x2 x3 y0 y1 y2 y3 hb3
          have x0 : w3.cell? ⟨B, 0, none⟩ = some (.string lf) := hA3.cell 0
          have x1 : w3.cell? ⟨B, 1, none⟩ = some (.int .i64 I) := hA3.cell 1
          have x2 : w3.cell? ⟨B, 2, none⟩ = some (.int .i64 N) := hA3.cell 2
          have x3 : w3.cell? ⟨B, 3, none⟩ = some (.slice oa len cap) := hA3.cell 3
          have y0 : w3.cell? ⟨B + 1, 0, none⟩ = some (.string lf') := hB3'.cell 0
          have y1 : w3.cell? ⟨B + 1, 1, none⟩ = some (.int .i64 I') := hB3'.cell 1
          have y2 : w3.cell? ⟨B + 1, 2, none⟩ = some (.int .i64 N') := hB3'.cell 2
          have y3 : w3.cell? ⟨B + 1, 3, none⟩ = some (.slice oa' len' cap') := hB3'.cell 3
          go_wp2_with fail
          refine (HHa.out _ (HKa.out.below hB3)).mono ?_
          rintro e w4 ⟨rfl, hb4⟩
          have hA4 := hA3.below hb4 hA3.lt
          have hB4' := hB3'.below hb4 hB3'.lt
          have hP4 := hP3.below hb4 hP3.lt
          have hB4 := hB3.trans (hb4.mono hB3.size)
          clear x0 x1 x2 x3 y0 y1 y2 y3 hb4
          have x0 : w4.cell? ⟨B, 0, none⟩ = some (.string lf) := hA4.cell 0
          have x1 : w4.cell? ⟨B, 1, none⟩ = some (.int .i64 I) := hA4.cell 1
          have x2 : w4.cell? ⟨B, 2, none⟩ = some (.int .i64 N) := hA4.cell 2
          have x3 : w4.cell? ⟨B, 3, none⟩ = some (.slice oa len cap) := hA4.cell 3
          have y0 : w4.cell? ⟨B + 1, 0, none⟩ = some (.string lf') := hB4'.cell 0
          have y1 : w4.cell? ⟨B + 1, 1, none⟩ = some (.int .i64 I') := hB4'.cell 1
          have y2 : w4.cell? ⟨B + 1, 2, none⟩ = some (.int .i64 N') := hB4'.cell 2
          have y3 : w4.cell? ⟨B + 1, 3, none⟩ = some (.slice oa' len' cap') := hB4'.cell 3
          go_wp2_with fail
          refine (HHb.out _ (HKb.out.below hB4)).mono ?_
          rintro e w5 ⟨rfl, hb5⟩
          have hA5 := hA4.below hb5 hA4.lt
          have hB5' := hB4'.below hb5 hB4'.lt
          have hP5 := hP4.below hb5 hP4.lt
          have hB5 := hB4.trans (hb5.mono hB4.size)
          clear x0 x1 x2 x3 y0 y1 y2 y3 hb5
          have x0 : w5.cell? ⟨B, 0, none⟩ = some (.string lf) := hA5.cell 0
          have x1 : w5.cell? ⟨B, 1, none⟩ = some (.int .i64 I) := hA5.cell 1
          have x2 : w5.cell? ⟨B, 2, none⟩ = some (.int .i64 N) := hA5.cell 2
          have x3 : w5.cell? ⟨B, 3, none⟩ = some (.slice oa len cap) := hA5.cell 3
          have y0 : w5.cell? ⟨B + 1, 0, none⟩ = some (.string lf') := hB5'.cell 0
          have y1 : w5.cell? ⟨B + 1, 1, none⟩ = some (.int .i64 I') := hB5'.cell 1
          have y2 : w5.cell? ⟨B + 1, 2, none⟩ = some (.int .i64 N') := hB5'.cell 2
          have y3 : w5.cell? ⟨B + 1, 3, none⟩ = some (.slice oa' len' cap') := hB5'.cell 3
          go_wp2_with fail
          refine (HOG.out _ (HC.out.below hB5)).mono ?_
          rintro e w6 ⟨rfl, hb6⟩
          have hA6 := hA5.below hb6 hA5.lt
          have hB6' := hB5'.below hb6 hB5'.lt
          have hP6 := hP5.below hb6 hP5.lt
          have hB6 := hB5.trans (hb6.mono hB5.size)
          clear x0 x1 x2 x3 y0 y1 y2 y3 hb6
          have x0 : w6.cell? ⟨B, 0, none⟩ = some (.string lf) := hA6.cell 0
          have x1 : w6.cell? ⟨B, 1, none⟩ = some (.int .i64 I) := hA6.cell 1
          have x2 : w6.cell? ⟨B, 2, none⟩ = some (.int .i64 N) := hA6.cell 2
          have x3 : w6.cell? ⟨B, 3, none⟩ = some (.slice oa len cap) := hA6.cell 3
          have y0 : w6.cell? ⟨B + 1, 0, none⟩ = some (.string lf') := hB6'.cell 0
          have y1 : w6.cell? ⟨B + 1, 1, none⟩ = some (.int .i64 I') := hB6'.cell 1
          have y2 : w6.cell? ⟨B + 1, 2, none⟩ = some (.int .i64 N') := hB6'.cell 2
          have y3 : w6.cell? ⟨B + 1, 3, none⟩ = some (.slice oa' len' cap') := hB6'.cell 3
          obtain ⟨G, hG⟩ : ∃ G, w6.heap.size = G := ⟨_, rfl⟩
          obtain ⟨wo, hwo⟩ : ∃ wo, w6.alloc (.cells zgrw 55) = wo := ⟨_, rfl⟩
          have hTo : Blk wo G 55 zgrw := by rw [← hwo, ← hG]; exact Blk.new _ _ _
          have hbo : Below w6.heap.size w6 wo := by rw [← hwo]; exact (Below.refl _ w6).alloc (Nat.le_refl _) _
          have hGG : w6.heap.size ≤ G := by rw [← hG]; exact Nat.le_refl _
          obtain ⟨w7, hw7⟩ : ∃ w7, ((((wo.setCell ⟨G, 0, none⟩ (.string ⟨#[]⟩)).setCell ⟨G, 1, none⟩ (.string ⟨#[]⟩)).setCell ⟨G, 2, none⟩ (.slice none 0 0)).setCell ⟨G, 3, none⟩ (.slice none 0 0)) = w7 := ⟨_, rfl⟩
          have hb7 : Below w6.heap.size w6 w7 := by rw [← hw7]; exact ((((hbo.setCell (p := ⟨G, 0, none⟩) hGG (.string ⟨#[]⟩)).setCell (p := ⟨G, 1, none⟩) hGG (.string ⟨#[]⟩)).setCell (p := ⟨G, 2, none⟩) hGG (.slice none 0 0)).setCell (p := ⟨G, 3, none⟩) hGG (.slice none 0 0))
          have hT7 : Blk w7 G 55 zgrw := by rw [← hw7]; exact ((((hTo.set_ 0 (.string ⟨#[]⟩)).set_ 1 (.string ⟨#[]⟩)).set_ 2 (.slice none 0 0)).set_ 3 (.slice none 0 0))
          have HWO := Lib.hid hwo
          have HW7 := Lib.hid hw7
          have o0 : wo.cell? ⟨G, 0, none⟩ = some (.string ⟨#[]⟩) := hTo.cell 0
          have o1 : wo.cell? ⟨G, 1, none⟩ = some (.string ⟨#[]⟩) := hTo.cell 1
          have o2 : wo.cell? ⟨G, 2, none⟩ = some (.slice none 0 0) := hTo.cell 2
          have o3 : wo.cell? ⟨G, 3, none⟩ = some (.slice none 0 0) := hTo.cell 3
          have m0 := hTo.frozen 0
          have m1 := hTo.frozen 1
          have m2 := hTo.frozen 2
          have m3 := hTo.frozen 3
          clear hwo hw7 hTo hbo hGG
          have hA7 := hA6.below hb7 hA6.lt
          have hB7' := hB6'.below hb7 hB6'.lt
          have hP7 := hP6.below hb7 hP6.lt
          have hB7 := hB6.trans (hb7.mono hB6.size)
          clear x0 x1 x2 x3 y0 y1 y2 y3 hb7
          have x0 : w7.cell? ⟨B, 0, none⟩ = some (.string lf) := hA7.cell 0
          have x1 : w7.cell? ⟨B, 1, none⟩ = some (.int .i64 I) := hA7.cell 1
          have x2 : w7.cell? ⟨B, 2, none⟩ = some (.int .i64 N) := hA7.cell 2
          have x3 : w7.cell? ⟨B, 3, none⟩ = some (.slice oa len cap) := hA7.cell 3
          have y0 : w7.cell? ⟨B + 1, 0, none⟩ = some (.string lf') := hB7'.cell 0
          have y1 : w7.cell? ⟨B + 1, 1, none⟩ = some (.int .i64 I') := hB7'.cell 1
          have y2 : w7.cell? ⟨B + 1, 2, none⟩ = some (.int .i64 N') := hB7'.cell 2
          have y3 : w7.cell? ⟨B + 1, 3, none⟩ = some (.slice oa' len' cap') := hB7'.cell 3
          have g0 : w7.cell? ⟨G, 0, none⟩ = some (.string ⟨#[]⟩) := hT7.cell 0
          have g1 : w7.cell? ⟨G, 1, none⟩ = some (.string ⟨#[]⟩) := hT7.cell 1
          have g2 : w7.cell? ⟨G, 2, none⟩ = some (.slice none 0 0) := hT7.cell 2
          have g3 : w7.cell? ⟨G, 3, none⟩ = some (.slice none 0 0) := hT7.cell 3
          clear hT7
          have p0 : w7.cell? ⟨B + 1 + 1, 0, none⟩ = some (.string ⟨#[]⟩) := hP7.cell 0
          have p1 : w7.cell? ⟨B + 1 + 1, 1, none⟩ = some (.string ⟨#[]⟩) := hP7.cell 1
          have t0 := hP7.frozen 0
          have t1 := hP7.frozen 1
          have HRES := Lib.hid ((hP7.set_ 0 (.string ⟨#[]⟩)).set_ 1 (.string ⟨#[]⟩))
          have HBF := Lib.hid ((hB7.setCell (p := ⟨B + 1 + 1, 0, none⟩) (by show w.heap.size ≤ B + 1 + 1; omega) (.string ⟨#[]⟩)).setCell (p := ⟨B + 1 + 1, 1, none⟩) (by show w.heap.size ≤ B + 1 + 1; omega) (.string ⟨#[]⟩))
          clear x0 x1 x2 x3 y0 y1 y2 y3 hP7 hB7 hA7 hB7'
          go_wp2_with (first | rw [HWO.out] | rw [HW7.out])
          refine bodyPost_ret (results_grw rfl _ _ (B + 1 + 1) 31 zpair _ rfl HRES.out Try.underlying31 rfl infoPair) rfl ?_
          exact ⟨rfl, HBF.out⟩
        | some T =>
          obtain ⟨T1, T2, ea, la⟩ := T
          change Hid (∀ W, _ → Calls _ _ _ _ fun e w' => (∃ oe ce ol cl, e = .returned (.tuple #[.agg #[.string T1, .string T2, .slice oe ea.length ce, .slice ol la.length cl], .bool true]) ∧ Strs w' oe ea ∧ Strs w' ol la ∧ ea.length ≤ ce ∧ la.length ≤ cl) ∧ _) at HOG
          obtain ⟨ne, hne⟩ : ∃ ne, ea.length = ne := ⟨_, rfl⟩
          obtain ⟨nl, hnl⟩ : ∃ nl, la.length = nl := ⟨_, rfl⟩
          have HNE := Lib.hid hne
          have HNL := Lib.hid hnl
          clear hne hnl
          by_cases hf : T1 = F
          rotate_left
          · obtain ⟨u1, u2⟩ := beqF hf
            have HF := Lib.hid (show k = false by rw [← HKK.out]; simp [okG, hf])
            rw [HF.out]
            clear hf HU
            go_enter Try.func25, Try.ntmps25
            go_wp2_with (first | rw [HW0.out] | rw [HW1.out] | rw [HW2.out])
            refine (HCl.out _).mono ?_
            rintro e w3 ⟨rfl, hb3⟩
            have hA3 := HA2.out.below hb3 HA2.out.lt
            have hB3' := HB2.out.below hb3 HB2.out.lt
            have hP3 := HP2.out.below hb3 HP2.out.lt
            have hB3 := HBl.out.trans (hb3.mono HBl.out.size)
            clear x0 x1 x2 x3 y0 y1 y2 y3 hb3
            have x0 : w3.cell? ⟨B, 0, none⟩ = some (.string lf) := hA3.cell 0
            have x1 : w3.cell? ⟨B, 1, none⟩ = some (.int .i64 I) := hA3.cell 1
            have x2 : w3.cell? ⟨B, 2, none⟩ = some (.int .i64 N) := hA3.cell 2
            have x3 : w3.cell? ⟨B, 3, none⟩ = some (.slice oa len cap) := hA3.cell 3
            have y0 : w3.cell? ⟨B + 1, 0, none⟩ = some (.string lf') := hB3'.cell 0
            have y1 : w3.cell? ⟨B + 1, 1, none⟩ = some (.int .i64 I') := hB3'.cell 1
            have y2 : w3.cell? ⟨B + 1, 2, none⟩ = some (.int .i64 N') := hB3'.cell 2
            have y3 : w3.cell? ⟨B + 1, 3, none⟩ = some (.slice oa' len' cap') := hB3'.cell 3
            go_wp2_with fail
            refine (HHa.out _ (HKa.out.below hB3)).mono ?_
            rintro e w4 ⟨rfl, hb4⟩
            have hA4 := hA3.below hb4 hA3.lt
            have hB4' := hB3'.below hb4 hB3'.lt
            have hP4 := hP3.below hb4 hP3.lt
            have hB4 := hB3.trans (hb4.mono hB3.size)
            clear x0 x1 x2 x3 y0 y1 y2 y3 hb4
            have x0 : w4.cell? ⟨B, 0, none⟩ = some (.string lf) := hA4.cell 0
            have x1 : w4.cell? ⟨B, 1, none⟩ = some (.int .i64 I) := hA4.cell 1
            have x2 : w4.cell? ⟨B, 2, none⟩ = some (.int .i64 N) := hA4.cell 2
            have x3 : w4.cell? ⟨B, 3, none⟩ = some (.slice oa len cap) := hA4.cell 3
            have y0 : w4.cell? ⟨B + 1, 0, none⟩ = some (.string lf') := hB4'.cell 0
            have y1 : w4.cell? ⟨B + 1, 1, none⟩ = some (.int .i64 I') := hB4'.cell 1
            have y2 : w4.cell? ⟨B + 1, 2, none⟩ = some (.int .i64 N') := hB4'.cell 2
            have y3 : w4.cell? ⟨B + 1, 3, none⟩ = some (.slice oa' len' cap') := hB4'.cell 3
            go_wp2_with fail
            refine (HHb.out _ (HKb.out.below hB4)).mono ?_
            rintro e w5 ⟨rfl, hb5⟩
            have hA5 := hA4.below hb5 hA4.lt
            have hB5' := hB4'.below hb5 hB4'.lt
            have hP5 := hP4.below hb5 hP4.lt
            have hB5 := hB4.trans (hb5.mono hB4.size)
            clear x0 x1 x2 x3 y0 y1 y2 y3 hb5
            have x0 : w5.cell? ⟨B, 0, none⟩ = some (.string lf) := hA5.cell 0
            have x1 : w5.cell? ⟨B, 1, none⟩ = some (.int .i64 I) := hA5.cell 1
            have x2 : w5.cell? ⟨B, 2, none⟩ = some (.int .i64 N) := hA5.cell 2
            have x3 : w5.cell? ⟨B, 3, none⟩ = some (.slice oa len cap) := hA5.cell 3
            have y0 : w5.cell? ⟨B + 1, 0, none⟩ = some (.string lf') := hB5'.cell 0
            have y1 : w5.cell? ⟨B + 1, 1, none⟩ = some (.int .i64 I') := hB5'.cell 1
            have y2 : w5.cell? ⟨B + 1, 2, none⟩ = some (.int .i64 N') := hB5'.cell 2
            have y3 : w5.cell? ⟨B + 1, 3, none⟩ = some (.slice oa' len' cap') := hB5'.cell 3
            go_wp2_with fail
            refine (HOG.out _ (HC.out.below hB5)).mono ?_
            rintro e w6 ⟨⟨oe, ce, ol, cl, rfl, hse, hsl, hce, hcl⟩, hb6⟩
            try dsimp only at hse hsl hce hcl ⊢
            clear hse hsl hce hcl
            rw [HNE.out, HNL.out]
            have hA6 := hA5.below hb6 hA5.lt
            have hB6' := hB5'.below hb6 hB5'.lt
            have hP6 := hP5.below hb6 hP5.lt
            have hB6 := hB5.trans (hb6.mono hB5.size)
            clear x0 x1 x2 x3 y0 y1 y2 y3 hb6
            have x0 : w6.cell? ⟨B, 0, none⟩ = some (.string lf) := hA6.cell 0
            have x1 : w6.cell? ⟨B, 1, none⟩ = some (.int .i64 I) := hA6.cell 1
            have x2 : w6.cell? ⟨B, 2, none⟩ = some (.int .i64 N) := hA6.cell 2
            have x3 : w6.cell? ⟨B, 3, none⟩ = some (.slice oa len cap) := hA6.cell 3
            have y0 : w6.cell? ⟨B + 1, 0, none⟩ = some (.string lf') := hB6'.cell 0
            have y1 : w6.cell? ⟨B + 1, 1, none⟩ = some (.int .i64 I') := hB6'.cell 1
            have y2 : w6.cell? ⟨B + 1, 2, none⟩ = some (.int .i64 N') := hB6'.cell 2
            have y3 : w6.cell? ⟨B + 1, 3, none⟩ = some (.slice oa' len' cap') := hB6'.cell 3
            obtain ⟨G, hG⟩ : ∃ G, w6.heap.size = G := ⟨_, rfl⟩
            obtain ⟨w7, hw7⟩ : ∃ w7, w6.alloc (.cells #[.string T1, .string T2, .slice oe ne ce, .slice ol nl cl] 55) = w7 := ⟨_, rfl⟩
            have hT7 : Blk w7 G 55 #[.string T1, .string T2, .slice oe ne ce, .slice ol nl cl] := by rw [← hw7, ← hG]; exact Blk.new _ _ _
            have hb7 : Below w6.heap.size w6 w7 := by rw [← hw7]; exact (Below.refl _ w6).alloc (Nat.le_refl _) _
            have HB67 := Lib.hid hb7
            have HW7 := Lib.hid hw7
            clear hw7
            have hA7 := hA6.below hb7 hA6.lt
            have hB7' := hB6'.below hb7 hB6'.lt
            have hP7 := hP6.below hb7 hP6.lt
            have hB7 := hB6.trans (hb7.mono hB6.size)
            clear x0 x1 x2 x3 y0 y1 y2 y3 hb7
            have x0 : w7.cell? ⟨B, 0, none⟩ = some (.string lf) := hA7.cell 0
            have x1 : w7.cell? ⟨B, 1, none⟩ = some (.int .i64 I) := hA7.cell 1
            have x2 : w7.cell? ⟨B, 2, none⟩ = some (.int .i64 N) := hA7.cell 2
            have x3 : w7.cell? ⟨B, 3, none⟩ = some (.slice oa len cap) := hA7.cell 3
            have y0 : w7.cell? ⟨B + 1, 0, none⟩ = some (.string lf') := hB7'.cell 0
            have y1 : w7.cell? ⟨B + 1, 1, none⟩ = some (.int .i64 I') := hB7'.cell 1
            have y2 : w7.cell? ⟨B + 1, 2, none⟩ = some (.int .i64 N') := hB7'.cell 2
            have y3 : w7.cell? ⟨B + 1, 3, none⟩ = some (.slice oa' len' cap') := hB7'.cell 3
            have g0 : w7.cell? ⟨G, 0, none⟩ = some (.string T1) := hT7.cell 0
            have g1 : w7.cell? ⟨G, 1, none⟩ = some (.string T2) := hT7.cell 1
            have g2 : w7.cell? ⟨G, 2, none⟩ = some (.slice oe ne ce) := hT7.cell 2
            have g3 : w7.cell? ⟨G, 3, none⟩ = some (.slice ol nl cl) := hT7.cell 3
            clear hT7
            have p0 : w7.cell? ⟨B + 1 + 1, 0, none⟩ = some (.string ⟨#[]⟩) := hP7.cell 0
            have p1 : w7.cell? ⟨B + 1 + 1, 1, none⟩ = some (.string ⟨#[]⟩) := hP7.cell 1
            have t0 := hP7.frozen 0
            have t1 := hP7.frozen 1
            have HRES := Lib.hid ((hP7.set_ 0 (.string ⟨#[]⟩)).set_ 1 (.string ⟨#[]⟩))
            have HBF := Lib.hid ((hB7.setCell (p := ⟨B + 1 + 1, 0, none⟩) (by show w.heap.size ≤ B + 1 + 1; omega) (.string ⟨#[]⟩)).setCell (p := ⟨B + 1 + 1, 1, none⟩) (by show w.heap.size ≤ B + 1 + 1; omega) (.string ⟨#[]⟩))
            clear x0 x1 x2 x3 y0 y1 y2 y3 hP7 hB7 hA7 hB7'
            go_wp2_with (rw [HW7.out])
            refine bodyPost_ret (results_grw rfl _ _ (B + 1 + 1) 31 zpair _ rfl HRES.out Try.underlying31 rfl infoPair) rfl ?_
            exact ⟨rfl, HBF.out⟩
          obtain ⟨u1, u2⟩ := beqT hf
          by_cases hs : T2 = S
          rotate_left
          · obtain ⟨u3, u4⟩ := beqF hs
            have HF := Lib.hid (show k = false by rw [← HKK.out]; simp [okG, hs])
            rw [HF.out]
            clear hf hs HU
            go_enter Try.func25, Try.ntmps25
            go_wp2_with (first | rw [HW0.out] | rw [HW1.out] | rw [HW2.out])
            refine (HCl.out _).mono ?_
            rintro e w3 ⟨rfl, hb3⟩
            have hA3 := HA2.out.below hb3 HA2.out.lt
            have hB3' := HB2.out.below hb3 HB2.out.lt
            have hP3 := HP2.out.below hb3 HP2.out.lt
            have hB3 := HBl.out.trans (hb3.mono HBl.out.size)
            clear x0 x1 x2 x3 y0 y1 y2 y3 hb3
            have x0 : w3.cell? ⟨B, 0, none⟩ = some (.string lf) := hA3.cell 0
            have x1 : w3.cell? ⟨B, 1, none⟩ = some (.int .i64 I) := hA3.cell 1
            have x2 : w3.cell? ⟨B, 2, none⟩ = some (.int .i64 N) := hA3.cell 2
            have x3 : w3.cell? ⟨B, 3, none⟩ = some (.slice oa len cap) := hA3.cell 3
            have y0 : w3.cell? ⟨B + 1, 0, none⟩ = some (.string lf') := hB3'.cell 0
            have y1 : w3.cell? ⟨B + 1, 1, none⟩ = some (.int .i64 I') := hB3'.cell 1
            have y2 : w3.cell? ⟨B + 1, 2, none⟩ = some (.int .i64 N') := hB3'.cell 2
            have y3 : w3.cell? ⟨B + 1, 3, none⟩ = some (.slice oa' len' cap') := hB3'.cell 3
            go_wp2_with fail
            refine (HHa.out _ (HKa.out.below hB3)).mono ?_
            rintro e w4 ⟨rfl, hb4⟩
            have hA4 := hA3.below hb4 hA3.lt
            have hB4' := hB3'.below hb4 hB3'.lt
            have hP4 := hP3.below hb4 hP3.lt
            have hB4 := hB3.trans (hb4.mono hB3.size)
            clear x0 x1 x2 x3 y0 y1 y2 y3 hb4
            have x0 : w4.cell? ⟨B, 0, none⟩ = some (.string lf) := hA4.cell 0
            have x1 : w4.cell? ⟨B, 1, none⟩ = some (.int .i64 I) := hA4.cell 1
            have x2 : w4.cell? ⟨B, 2, none⟩ = some (.int .i64 N) := hA4.cell 2
            have x3 : w4.cell? ⟨B, 3, none⟩ = some (.slice oa len cap) := hA4.cell 3
            have y0 : w4.cell? ⟨B + 1, 0, none⟩ = some (.string lf') := hB4'.cell 0
            have y1 : w4.cell? ⟨B + 1, 1, none⟩ = some (.int .i64 I') := hB4'.cell 1
            have y2 : w4.cell? ⟨B + 1, 2, none⟩ = some (.int .i64 N') := hB4'.cell 2
            have y3 : w4.cell? ⟨B + 1, 3, none⟩ = some (.slice oa' len' cap') := hB4'.cell 3
            go_wp2_with fail
            refine (HHb.out _ (HKb.out.below hB4)).mono ?_
            rintro e w5 ⟨rfl, hb5⟩
            have hA5 := hA4.below hb5 hA4.lt
            have hB5' := hB4'.below hb5 hB4'.lt
            have hP5 := hP4.below hb5 hP4.lt
            have hB5 := hB4.trans (hb5.mono hB4.size)
            clear x0 x1 x2 x3 y0 y1 y2 y3 hb5
            have x0 : w5.cell? ⟨B, 0, none⟩ = some (.string lf) := hA5.cell 0
            have x1 : w5.cell? ⟨B, 1, none⟩ = some (.int .i64 I) := hA5.cell 1
            have x2 : w5.cell? ⟨B, 2, none⟩ = some (.int .i64 N) := hA5.cell 2
            have x3 : w5.cell? ⟨B, 3, none⟩ = some (.slice oa len cap) := hA5.cell 3
            have y0 : w5.cell? ⟨B + 1, 0, none⟩ = some (.string lf') := hB5'.cell 0
            have y1 : w5.cell? ⟨B + 1, 1, none⟩ = some (.int .i64 I') := hB5'.cell 1
            have y2 : w5.cell? ⟨B + 1, 2, none⟩ = some (.int .i64 N') := hB5'.cell 2
            have y3 : w5.cell? ⟨B + 1, 3, none⟩ = some (.slice oa' len' cap') := hB5'.cell 3
            go_wp2_with fail
            refine (HOG.out _ (HC.out.below hB5)).mono ?_
            rintro e w6 ⟨⟨oe, ce, ol, cl, rfl, hse, hsl, hce, hcl⟩, hb6⟩
            try dsimp only at hse hsl hce hcl ⊢
            clear hse hsl hce hcl
            rw [HNE.out, HNL.out]
            have hA6 := hA5.below hb6 hA5.lt
            have hB6' := hB5'.below hb6 hB5'.lt
            have hP6 := hP5.below hb6 hP5.lt
            have hB6 := hB5.trans (hb6.mono hB5.size)
            clear x0 x1 x2 x3 y0 y1 y2 y3 hb6
            have x0 : w6.cell? ⟨B, 0, none⟩ = some (.string lf) := hA6.cell 0
            have x1 : w6.cell? ⟨B, 1, none⟩ = some (.int .i64 I) := hA6.cell 1
            have x2 : w6.cell? ⟨B, 2, none⟩ = some (.int .i64 N) := hA6.cell 2
            have x3 : w6.cell? ⟨B, 3, none⟩ = some (.slice oa len cap) := hA6.cell 3
            have y0 : w6.cell? ⟨B + 1, 0, none⟩ = some (.string lf') := hB6'.cell 0
            have y1 : w6.cell? ⟨B + 1, 1, none⟩ = some (.int .i64 I') := hB6'.cell 1
            have y2 : w6.cell? ⟨B + 1, 2, none⟩ = some (.int .i64 N') := hB6'.cell 2
            have y3 : w6.cell? ⟨B + 1, 3, none⟩ = some (.slice oa' len' cap') := hB6'.cell 3
            obtain ⟨G, hG⟩ : ∃ G, w6.heap.size = G := ⟨_, rfl⟩
            obtain ⟨w7, hw7⟩ : ∃ w7, w6.alloc (.cells #[.string T1, .string T2, .slice oe ne ce, .slice ol nl cl] 55) = w7 := ⟨_, rfl⟩
            have hT7 : Blk w7 G 55 #[.string T1, .string T2, .slice oe ne ce, .slice ol nl cl] := by rw [← hw7, ← hG]; exact Blk.new _ _ _
            have hb7 : Below w6.heap.size w6 w7 := by rw [← hw7]; exact (Below.refl _ w6).alloc (Nat.le_refl _) _
            have HB67 := Lib.hid hb7
            have HW7 := Lib.hid hw7
            clear hw7
            have hA7 := hA6.below hb7 hA6.lt
            have hB7' := hB6'.below hb7 hB6'.lt
            have hP7 := hP6.below hb7 hP6.lt
            have hB7 := hB6.trans (hb7.mono hB6.size)
            clear x0 x1 x2 x3 y0 y1 y2 y3 hb7
            have x0 : w7.cell? ⟨B, 0, none⟩ = some (.string lf) := hA7.cell 0
            have x1 : w7.cell? ⟨B, 1, none⟩ = some (.int .i64 I) := hA7.cell 1
            have x2 : w7.cell? ⟨B, 2, none⟩ = some (.int .i64 N) := hA7.cell 2
            have x3 : w7.cell? ⟨B, 3, none⟩ = some (.slice oa len cap) := hA7.cell 3
            have y0 : w7.cell? ⟨B + 1, 0, none⟩ = some (.string lf') := hB7'.cell 0
            have y1 : w7.cell? ⟨B + 1, 1, none⟩ = some (.int .i64 I') := hB7'.cell 1
            have y2 : w7.cell? ⟨B + 1, 2, none⟩ = some (.int .i64 N') := hB7'.cell 2
            have y3 : w7.cell? ⟨B + 1, 3, none⟩ = some (.slice oa' len' cap') := hB7'.cell 3
            have g0 : w7.cell? ⟨G, 0, none⟩ = some (.string T1) := hT7.cell 0
            have g1 : w7.cell? ⟨G, 1, none⟩ = some (.string T2) := hT7.cell 1
            have g2 : w7.cell? ⟨G, 2, none⟩ = some (.slice oe ne ce) := hT7.cell 2
            have g3 : w7.cell? ⟨G, 3, none⟩ = some (.slice ol nl cl) := hT7.cell 3
            clear hT7
            have p0 : w7.cell? ⟨B + 1 + 1, 0, none⟩ = some (.string ⟨#[]⟩) := hP7.cell 0
            have p1 : w7.cell? ⟨B + 1 + 1, 1, none⟩ = some (.string ⟨#[]⟩) := hP7.cell 1
            have t0 := hP7.frozen 0
            have t1 := hP7.frozen 1
            have HRES := Lib.hid ((hP7.set_ 0 (.string ⟨#[]⟩)).set_ 1 (.string ⟨#[]⟩))
            have HBF := Lib.hid ((hB7.setCell (p := ⟨B + 1 + 1, 0, none⟩) (by show w.heap.size ≤ B + 1 + 1; omega) (.string ⟨#[]⟩)).setCell (p := ⟨B + 1 + 1, 1, none⟩) (by show w.heap.size ≤ B + 1 + 1; omega) (.string ⟨#[]⟩))
            clear x0 x1 x2 x3 y0 y1 y2 y3 hP7 hB7 hA7 hB7'
            go_wp2_with (rw [HW7.out])
            refine bodyPost_ret (results_grw rfl _ _ (B + 1 + 1) 31 zpair _ rfl HRES.out Try.underlying31 rfl infoPair) rfl ?_
            exact ⟨rfl, HBF.out⟩
          obtain ⟨u3, u4⟩ := beqT hs
          have HF := Lib.hid (show k = true by rw [← HKK.out]; simp [okG, hf, hs])
          rw [HF.out]
          clear hf hs
          go_enter Try.func25, Try.ntmps25
          go_wp2_with (first | rw [HW0.out] | rw [HW1.out] | rw [HW2.out])
          refine (HCl.out _).mono ?_
          rintro e w3 ⟨rfl, hb3⟩
          have hA3 := HA2.out.below hb3 HA2.out.lt
          have hB3' := HB2.out.below hb3 HB2.out.lt
          have hP3 := HP2.out.below hb3 HP2.out.lt
          have hB3 := HBl.out.trans (hb3.mono HBl.out.size)
          clear x0 x1 x2 x3 y0 y1 y2 y3 hb3
          have x0 : w3.cell? ⟨B, 0, none⟩ = some (.string lf) := hA3.cell 0
          have x1 : w3.cell? ⟨B, 1, none⟩ = some (.int .i64 I) := hA3.cell 1
          have x2 : w3.cell? ⟨B, 2, none⟩ = some (.int .i64 N) := hA3.cell 2
          have x3 : w3.cell? ⟨B, 3, none⟩ = some (.slice oa len cap) := hA3.cell 3
          have y0 : w3.cell? ⟨B + 1, 0, none⟩ = some (.string lf') := hB3'.cell 0
          have y1 : w3.cell? ⟨B + 1, 1, none⟩ = some (.int .i64 I') := hB3'.cell 1
          have y2 : w3.cell? ⟨B + 1, 2, none⟩ = some (.int .i64 N') := hB3'.cell 2
          have y3 : w3.cell? ⟨B + 1, 3, none⟩ = some (.slice oa' len' cap') := hB3'.cell 3
          go_wp2_with fail
          refine (HHa.out _ (HKa.out.below hB3)).mono ?_
          rintro e w4 ⟨rfl, hb4⟩
          have hA4 := hA3.below hb4 hA3.lt
          have hB4' := hB3'.below hb4 hB3'.lt
          have hP4 := hP3.below hb4 hP3.lt
          have hB4 := hB3.trans (hb4.mono hB3.size)
          clear x0 x1 x2 x3 y0 y1 y2 y3 hb4
          have x0 : w4.cell? ⟨B, 0, none⟩ = some (.string lf) := hA4.cell 0
          have x1 : w4.cell? ⟨B, 1, none⟩ = some (.int .i64 I) := hA4.cell 1
          have x2 : w4.cell? ⟨B, 2, none⟩ = some (.int .i64 N) := hA4.cell 2
          have x3 : w4.cell? ⟨B, 3, none⟩ = some (.slice oa len cap) := hA4.cell 3
          have y0 : w4.cell? ⟨B + 1, 0, none⟩ = some (.string lf') := hB4'.cell 0
          have y1 : w4.cell? ⟨B + 1, 1, none⟩ = some (.int .i64 I') := hB4'.cell 1
          have y2 : w4.cell? ⟨B + 1, 2, none⟩ = some (.int .i64 N') := hB4'.cell 2
          have y3 : w4.cell? ⟨B + 1, 3, none⟩ = some (.slice oa' len' cap') := hB4'.cell 3
          go_wp2_with fail
          refine (HHb.out _ (HKb.out.below hB4)).mono ?_
          rintro e w5 ⟨rfl, hb5⟩
          have hA5 := hA4.below hb5 hA4.lt
          have hB5' := hB4'.below hb5 hB4'.lt
          have hP5 := hP4.below hb5 hP4.lt
          have hB5 := hB4.trans (hb5.mono hB4.size)
          clear x0 x1 x2 x3 y0 y1 y2 y3 hb5
          have x0 : w5.cell? ⟨B, 0, none⟩ = some (.string lf) := hA5.cell 0
          have x1 : w5.cell? ⟨B, 1, none⟩ = some (.int .i64 I) := hA5.cell 1
          have x2 : w5.cell? ⟨B, 2, none⟩ = some (.int .i64 N) := hA5.cell 2
          have x3 : w5.cell? ⟨B, 3, none⟩ = some (.slice oa len cap) := hA5.cell 3
          have y0 : w5.cell? ⟨B + 1, 0, none⟩ = some (.string lf') := hB5'.cell 0
          have y1 : w5.cell? ⟨B + 1, 1, none⟩ = some (.int .i64 I') := hB5'.cell 1
          have y2 : w5.cell? ⟨B + 1, 2, none⟩ = some (.int .i64 N') := hB5'.cell 2
          have y3 : w5.cell? ⟨B + 1, 3, none⟩ = some (.slice oa' len' cap') := hB5'.cell 3
          go_wp2_with fail
          refine (HOG.out _ (HC.out.below hB5)).mono ?_
          rintro e w6 ⟨⟨oe, ce, ol, cl, rfl, hse, hsl, hce, hcl⟩, hb6⟩
          try dsimp only at hse hsl hce hcl ⊢
          have HSE := Lib.hid hse
          have HSL := Lib.hid hsl
          have HCE := Lib.hid hce
          have HCL := Lib.hid hcl
          clear hse hsl hce hcl
          rw [HNE.out, HNL.out]
          have hA6 := hA5.below hb6 hA5.lt
          have hB6' := hB5'.below hb6 hB5'.lt
          have hP6 := hP5.below hb6 hP5.lt
          have hB6 := hB5.trans (hb6.mono hB5.size)
          clear x0 x1 x2 x3 y0 y1 y2 y3 hb6
          have x0 : w6.cell? ⟨B, 0, none⟩ = some (.string lf) := hA6.cell 0
          have x1 : w6.cell? ⟨B, 1, none⟩ = some (.int .i64 I) := hA6.cell 1
          have x2 : w6.cell? ⟨B, 2, none⟩ = some (.int .i64 N) := hA6.cell 2
          have x3 : w6.cell? ⟨B, 3, none⟩ = some (.slice oa len cap) := hA6.cell 3
          have y0 : w6.cell? ⟨B + 1, 0, none⟩ = some (.string lf') := hB6'.cell 0
          have y1 : w6.cell? ⟨B + 1, 1, none⟩ = some (.int .i64 I') := hB6'.cell 1
          have y2 : w6.cell? ⟨B + 1, 2, none⟩ = some (.int .i64 N') := hB6'.cell 2
          have y3 : w6.cell? ⟨B + 1, 3, none⟩ = some (.slice oa' len' cap') := hB6'.cell 3
          obtain ⟨G, hG⟩ : ∃ G, w6.heap.size = G := ⟨_, rfl⟩
          obtain ⟨w7, hw7⟩ : ∃ w7, w6.alloc (.cells #[.string T1, .string T2, .slice oe ne ce, .slice ol nl cl] 55) = w7 := ⟨_, rfl⟩
          have hT7 : Blk w7 G 55 #[.string T1, .string T2, .slice oe ne ce, .slice ol nl cl] := by rw [← hw7, ← hG]; exact Blk.new _ _ _
          have hb7 : Below w6.heap.size w6 w7 := by rw [← hw7]; exact (Below.refl _ w6).alloc (Nat.le_refl _) _
          have HB67 := Lib.hid hb7
          have HW7 := Lib.hid hw7
          clear hw7
          have hA7 := hA6.below hb7 hA6.lt
          have hB7' := hB6'.below hb7 hB6'.lt
          have hP7 := hP6.below hb7 hP6.lt
          have hB7 := hB6.trans (hb7.mono hB6.size)
          clear x0 x1 x2 x3 y0 y1 y2 y3 hb7
          have x0 : w7.cell? ⟨B, 0, none⟩ = some (.string lf) := hA7.cell 0
          have x1 : w7.cell? ⟨B, 1, none⟩ = some (.int .i64 I) := hA7.cell 1
          have x2 : w7.cell? ⟨B, 2, none⟩ = some (.int .i64 N) := hA7.cell 2
          have x3 : w7.cell? ⟨B, 3, none⟩ = some (.slice oa len cap) := hA7.cell 3
          have y0 : w7.cell? ⟨B + 1, 0, none⟩ = some (.string lf') := hB7'.cell 0
          have y1 : w7.cell? ⟨B + 1, 1, none⟩ = some (.int .i64 I') := hB7'.cell 1
          have y2 : w7.cell? ⟨B + 1, 2, none⟩ = some (.int .i64 N') := hB7'.cell 2
          have y3 : w7.cell? ⟨B + 1, 3, none⟩ = some (.slice oa' len' cap') := hB7'.cell 3
          have g0 : w7.cell? ⟨G, 0, none⟩ = some (.string T1) := hT7.cell 0
          have g1 : w7.cell? ⟨G, 1, none⟩ = some (.string T2) := hT7.cell 1
          have g2 : w7.cell? ⟨G, 2, none⟩ = some (.slice oe ne ce) := hT7.cell 2
          have g3 : w7.cell? ⟨G, 3, none⟩ = some (.slice ol nl cl) := hT7.cell 3
          clear hT7
          have p0 : w7.cell? ⟨B + 1 + 1, 0, none⟩ = some (.string ⟨#[]⟩) := hP7.cell 0
          have p1 : w7.cell? ⟨B + 1 + 1, 1, none⟩ = some (.string ⟨#[]⟩) := hP7.cell 1
          have t0 := hP7.frozen 0
          have t1 := hP7.frozen 1
          have HUU := Lib.hid (fun W hA hB hE hL => HU.out T1 T2 ea la HF.out rfl oe ol ce cl HCE.out HCL.out W hA hB hE hL)
          rw [HNE.out, HNL.out] at HUU
          have HAa := Lib.hid (HKa.out.below hB7)
          have HAb := Lib.hid (HKb.out.below hB7)
          have HSE7 := Lib.hid (HSE.out.below HB67.out)
          have HSL7 := Lib.hid (HSL.out.below HB67.out)
          clear HU
          go_wp2_with (rw [HW7.out])
          refine (HUU.out _ HAa.out HAb.out HSE7.out HSL7.out).mono ?_
          rintro e w8 ⟨tA, tD, rfl, hne, hh, hsA, hsD, hb8⟩
          have hB8 := hB7.trans (hb8.mono hB7.size)
          have hP8 := hP7.below hb8 hP7.lt
          clear p0 p1 t0 t1
          have p0 : w8.cell? ⟨B + 1 + 1, 0, none⟩ = some (.string ⟨#[]⟩) := hP8.cell 0
          have p1 : w8.cell? ⟨B + 1 + 1, 1, none⟩ = some (.string ⟨#[]⟩) := hP8.cell 1
          have t0 := hP8.frozen 0
          have t1 := hP8.frozen 1
          have HRES := Lib.hid ((hP8.set_ 0 (.string tA)).set_ 1 (.string tD))
          have HBF := Lib.hid ((hB8.setCell (p := ⟨B + 1 + 1, 0, none⟩) (by show w.heap.size ≤ B + 1 + 1; omega) (.string tA)).setCell (p := ⟨B + 1 + 1, 1, none⟩) (by show w.heap.size ≤ B + 1 + 1; omega) (.string tD))
          have HPO := Lib.hid (show tA ≠ tD ∧ h tA = h tD ∧ tA.size ≤ 1000 ∧ tD.size ≤ 1000 from ⟨hne, hh, hsA, hsD⟩)
          clear hP8 hB8 hb8 hP7 hB7 hA7 hB7' x0 x1 x2 x3 y0 y1 y2 y3 g0 g1 g2 g3 hne hh hsA hsD
          go_wp2
          refine bodyPost_ret (results_grw rfl _ _ (B + 1 + 1) 31 #[.string tA, .string tD] _ rfl HRES.out Try.underlying31 rfl infoPair) rfl ?_
          exact ⟨⟨tA, tD, rfl, HPO.out⟩, HBF.out⟩
end Go.Proofs.Ytfhfmfcmkiobdaa
