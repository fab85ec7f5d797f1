/-
  The law StateRises.
-/
import Derived.Test.YtjmjkcgldencoaaGreatYDo
import Derived.Test.YtjmjkcgldencoaaGreatYAw
namespace Go.Proofs.YtjmjkcgldencoaaGreat
open Go.RowKit

/-- append(v, ys...), whatever room ys has -/
theorem append_g2 {α : Type} {K : Kind α} (hK : K.Ok) {W : World} {B : Nat} {v : Value} {xs ys : List α} (hown : OwnG K W B v xs) (oa : Option Addr) (m c : Nat) (hm : ys.length = m) (hs : RowG K W oa ys) (hlen : xs.length + m ≤ 1073741824) (hB : B ≤ W.heap.size) :
    ∃ v' w', (Builtin.append_ #[K.ts, K.ts] K.ts #[v, .slice oa m c]).run Tryz.prog W = .ok v' w' ∧ OwnG K w' B v' (xs ++ ys) ∧ W.grownBy w' v.ownBlock := by
  cases oa with
  | some a => exact append_g hK hown (some a) m c hm hs (fun _ h => by cases h) hlen hB
  | none =>
    have h0 : ys = [] := by
      cases ys with
      | nil => rfl
      | cons y r => obtain ⟨g, o, e, _⟩ := hs 0 y rfl; cases e
    subst h0
    obtain rfl : m = 0 := hm.symm
    obtain ⟨i0, hi, hz0, hz1, hz2⟩ := info_parts hK.info
    refine ⟨v, W, ?_, by rw [List.append_nil]; exact hown, grown_refl _ _⟩
    rcases hown.2 with ⟨rfl, hn⟩ | ⟨g, cap, cur, rfl, hg, hk, hc1, hc2, hc3, hc4⟩
    · simp [Builtin.append_, run_underlying hK.under, sizeOf, typeInfo, hi, Builtin.lenOf, Builtin.firstCells]
    · simp [Builtin.append_, run_underlying hK.under, sizeOf, typeInfo, hi, Builtin.lenOf, Builtin.firstCells, hc1, storeCells]
theorem la1 {α : Type} (l : List α) (i : Nat) (a : α) : l.toArray.setIfInBounds i a = (l.set i a).toArray := by simp
theorem la2 {α : Type} (l : List α) (a b : α) : (a :: l).set 0 b = b :: l := rfl
theorem la3 {α : Type} (l : List α) (i : Nat) (a b : α) : (a :: l).set (i + 1) b = a :: l.set i b := rfl
section
variable {P : Program} {ops : Array Oper} {Q : Exit → Act → World → Prop} {md : Region.Mode} {S : World → Prop}
theorem tk (i : Nat) {oi : Oper} {rest : List Oper} {v : Value} {fuel : Nat} {listed : Array Bool} {a : Act} {w : World} (hd : ops.toList.drop i = oi :: rest) (_ : listed.toList[i]? = some false)
    (hs : (Region.noSelect ops && (Region.free md ops listed i && (Region.ready md ops listed).contains i)) = true)
    (hQ : ∀ c a w, Q (.panic c) (a.put oi.dst v) w → Q (.panic c) a w) (hw : Region.wanted oi (yielded ops a.tmps) = true) (hy : ∀ w, S w → (execOp a.eval oi).run P w = .ok (.value v) w) (hS : S w)
    (h : wpAnyH P md ops Q S fuel (listed.setIfInBounds i true) (a.put oi.dst v) w) : wpAnyH P md ops Q S (fuel + 1) listed a w := by
  rw [Bool.and_eq_true, Bool.and_eq_true] at hs
  exact takeH hd hs.1 hs.2.1 hs.2.2 hQ hw hy hS h
theorem sk (i : Nat) {oi : Oper} {rest : List Oper} {fuel : Nat} {listed : Array Bool} {a : Act} {w : World} (hd : ops.toList.drop i = oi :: rest) (_ : listed.toList[i]? = some false)
    (hs : (Region.noSelect ops && (Region.free md ops listed i && (Region.ready md ops listed).contains i)) = true)
    (hQ : ∀ c a w, Q (.panic c) (a.put oi.dst undef) w → Q (.panic c) a w) (hw : Region.wanted oi (yielded ops a.tmps) = false) (hS : S w)
    (h : wpAnyH P md ops Q S fuel (listed.setIfInBounds i true) (a.put oi.dst undef) w) : wpAnyH P md ops Q S (fuel + 1) listed a w := by
  rw [Bool.and_eq_true, Bool.and_eq_true] at hs
  exact skipH hd hs.1 hs.2.1 hs.2.2 hQ hw hS h
end
theorem row_below {w y : World} (h : Below w.heap.size w y) (g : Nat) (hg : w.heap.size ≤ g) (cs : Array Value) : Below w.heap.size w (y.setRow g cs) := h.grown (only_setRow (grown_refl y (some g)) cs) h.size (fun q hq => by injection hq with e; omega)
theorem iSt {cs : Array Value} (h : cs.size = 22) : (Tryz.prog.info? 37).map (·.size) = some cs.size := by rw [h]; exact infoS
theorem iWd {cs : Array Value} (h : cs.size = 3) : (Tryz.prog.info? 40).map (·.size) = some cs.size := by rw [h]; kernel_rfl
/-- both stores are made: the state stands, and its slices -/
theorem rise_tail {B B' ga gb : Nat} {yc y : World} {cs2 ds2 : Array Value} {P : Wd} (hX : StC yc (geP B') cs2 P) (hbc : Below yc.heap.size yc y) (ka : Blk y ga 37 zeroSt) (hne : ga ≠ gb) (hB : B ≤ B') (h : ∀ q, q < yc.heap.size → B' ≤ q → q ≠ ga ∧ q ≠ gb) :
    Blk ((y.setRow ga cs2).setRow gb ds2) ga 37 cs2 ∧ StC ((y.setRow ga cs2).setRow gb ds2) (geP B) cs2 P :=
  ⟨Blk.setRow (setRow_heap y ga zeroSt cs2 37 (0, 0) ka) (by omega) ds2,
    (hX.same (by have := hbc.size; simp; omega) (fun q h1 h2 => by
      have h8 := h q h1 h2
      rw [setRow_other _ gb q _ (by omega), setRow_other _ ga q _ (by omega)]
      exact hbc.block q h1)).imp (fun q _ h2 => by unfold geP at h2 ⊢; omega)⟩
section
attribute [-go_sem] loadVar
set_option maxRecDepth 100000 in
set_option maxHeartbeats 20000000 in
theorem law_rises (oa : Option Addr) (n cap : Nat) (os : List OpR) (hl : os.length = n) (hnc : n ≤ cap) (_ : n ≤ 9223372036854775807) (hb : ∀ x ∈ os, BndO x)
    (ob : Option Addr) (m cap' : Nat) (os' : List OpR) (hl' : os'.length = m) (hmc : m ≤ cap') (_ : m ≤ 9223372036854775807) (hb' : ∀ x ∈ os', BndO x) (w : World) (hr : RowG opK w oa os) (hr' : RowG opK w ob os') :
    Calls Tryz.prog 7 #[.slice oa n cap, .slice ob m cap'] w fun e w' => e = .returned (.bool true) ∧ Below w.heap.size w w' := by
  have HAW := Lib.hid (fun W => awake11_any W)
  have HMK := Lib.hid (fun W => make_std W)
  have HF1 := Lib.hid (fun W (hW : Below w.heap.size w W) => rfewO_any oa n cap 30 os hl (by decide) W (hr.below hW))
  have HF2 := Lib.hid (fun W (hW : Below w.heap.size w W) => rfewO_any ob m cap' 20 os' hl' (by decide) W (hr'.below hW))
  have HR1 := Lib.hid (show ∀ W e w', RFewO n 30 os W e w' = ((∃ b, e = .returned (.bool b) ∧ (b = true → n ≤ 30 ∧ ∀ x ∈ os, smallB x.r = true)) ∧ Below W.heap.size W w') from fun _ _ _ => rfl)
  have HR2 := Lib.hid (show ∀ W e w', RFewO m 20 os' W e w' = ((∃ b, e = .returned (.bool b) ∧ (b = true → m ≤ 20 ∧ ∀ x ∈ os', smallB x.r = true)) ∧ Below W.heap.size W w') from fun _ _ _ => rfl)
  obtain ⟨N2, hN2⟩ : ∃ N, (os ++ os').length = N := ⟨_, rfl⟩
  have hNN : N2 = n + m := by rw [← hN2, List.length_append, hl, hl']
  obtain ⟨P1, hP1⟩ : ∃ P, playW os = P := ⟨_, rfl⟩
  obtain ⟨P2, hP2⟩ : ∃ P, playW (os ++ os') = P := ⟨_, rfl⟩
  have HD1 : Hid (∀ W, Below w.heap.size w W → n ≤ 30 → (∀ x ∈ os, smallB x.r = true) → Calls Tryz.prog 11 #[.agg tabV, .slice oa n cap] W fun e w' => ∃ cs ds, e = .returned (.tuple #[.agg cs, .agg ds, .bool true]) ∧ StC w' (geP W.heap.size) cs P1 ∧ WdC w' (geP W.heap.size) ds P1 ∧ Below W.heap.size W w') := Lib.hid fun W hW h1 h2 => by
    rw [← hP1]
    exact do_any oa n cap os hl (by omega) h2 hb W (hr.below hW)
  have HD2 : Hid (∀ W o c, RowG opK W o (os ++ os') → n ≤ 30 → m ≤ 20 → (∀ x ∈ os, smallB x.r = true) → (∀ x ∈ os', smallB x.r = true) → Calls Tryz.prog 11 #[.agg tabV, .slice o N2 c] W fun e w' => ∃ cs ds, e = .returned (.tuple #[.agg cs, .agg ds, .bool true]) ∧ StC w' (geP W.heap.size) cs P2 ∧ WdC w' (geP W.heap.size) ds P2 ∧ Below W.heap.size W w') := Lib.hid fun W o c hR h1 h2 h3 h4 => by
    rw [← hP2]
    exact do_any o N2 c (os ++ os') hN2 (by omega) (fun x hx => (List.mem_append.1 hx).elim (h3 x) (h4 x)) (fun x hx => (List.mem_append.1 hx).elim (hb x) (hb' x)) W hR
  have HI1 : Hid (InvW P1) := Lib.hid (by rw [← hP1]; exact InvW.play os)
  have HI2 : Hid (InvW P2) := Lib.hid (by rw [← hP2]; exact InvW.play _)
  have HPF : Hid ((∃ a, P2.tk = P1.tk ++ a) ∧ ∃ b, P2.hd = P1.hd ++ b) := Lib.hid (by rw [← hP1, ← hP2]; exact play_front os os')
  have HO1 : Hid (∀ W, Below w.heap.size w W → RowG opK W oa os) := Lib.hid fun W hW => hr.below hW
  have HO2 : Hid (∀ W, Below w.heap.size w W → RowG opK W ob os') := Lib.hid fun W hW => hr'.below hW
  clear hr hr' hP1 hP2 hb hb' hNN
  go_enter Tryz.func7, Tryz.ntmps7
  go_wp2_with fail
  refine (HAW.out _).mono ?_
  rintro e w1 ⟨rfl, hb1⟩
  go_wp2_with fail
  refine (HF1.out _ hb1).mono ?_
  rintro e w2 he2
  rw [HR1.out] at he2
  obtain ⟨⟨b, rfl, hbt⟩, hbf⟩ := he2
  have hb2 := hb1.trans (hbf.mono hb1.size)
  clear hbf
  cases b with
  | false =>
    clear hbt
    go_wp2_with fail
    refine (HAW.out _).mono ?_
    rintro e w3 ⟨rfl, hb3⟩
    have hb4 := hb2.trans (hb3.mono hb2.size)
    go_wp2
    go_ret
    exact ⟨rfl, hb4⟩
  | true =>
    obtain ⟨h30, hsm⟩ := hbt rfl
    clear hbt
    go_wp2_with fail
    refine (HF2.out _ hb2).mono ?_
    rintro e w3 he3
    rw [HR2.out] at he3
    obtain ⟨⟨b, rfl, hbt⟩, hbf⟩ := he3
    have hb3 := hb2.trans (hbf.mono hb2.size)
    clear hbf
    cases b with
    | false =>
      clear hbt hsm
      go_wp2_with fail
      refine (HAW.out _).mono ?_
      rintro e w5 ⟨rfl, hb5⟩
      have hb6 := hb3.trans (hb5.mono hb3.size)
      go_wp2
      go_ret
      exact ⟨rfl, hb6⟩
    | true =>
      obtain ⟨h20, hsm'⟩ := hbt rfl
      have HSM := Lib.hid (And.intro hsm hsm')
      clear hbt hsm hsm'
      go_wp2_with fail
      refine (HMK.out _).mono ?_
      rintro e w5 ⟨rfl, hb5⟩
      have hb6 := hb3.trans (hb5.mono hb3.size)
      have hl3 := tab_run (Blk.new w5 47 tabV)
      go_wp2_with (refine wpList_store_row rfl 47 _ _ rfl w5.heap.size tabV rfl rfl 47 zero72 (Blk.new _ _ _) (by rw [tabV_size]; exact infoTable) (by kernel_rfl) (by kernel_rfl) ?_; rw [World.setRow_alloc_new])
      have hb7 := hb6.alloc hb6.size (.cells tabV 47)
      have kT : Blk (w5.alloc (.cells tabV 47)) w5.heap.size 47 tabV := Blk.new _ _ _
      generalize w5.alloc (.cells tabV 47) = w6 at *
      generalize w5.heap.size = gt at *
      refine (HD1.out w6 hb7 h30 HSM.out.1).mono ?_
      rintro e w7 ⟨cs, ds, rfl, hS, hD, hb8⟩
      replace kT := kT.below hb8 kT.lt
      have hb9 := hb7.trans (hb8.mono hb7.size)
      clear hl3 hb8 hb7 hb6 hb5 hb3 hb2 hb1
      have zs8 := zeroS
      have zw8 := zeroW
      obtain ⟨wA8, hwA⟩ : ∃ wA, ((w7.alloc (.cells zeroSt 37)).alloc (.cells zeroWd 40)) = wA := ⟨_, rfl⟩
      have bA : Below w7.heap.size w7 wA8 := by rw [← hwA]; exact ((Below.refl _ w7).alloc (Nat.le_refl _) _).alloc (by simp) _
      have kA : Blk wA8 w7.heap.size 37 zeroSt := by rw [← hwA]; exact (Blk.new _ _ _).alloc _
      have kB : Blk wA8 (w7.heap.size + 1) 40 zeroWd := by rw [← hwA]; exact Blk.new_at (by simp)
      obtain ⟨w8, hw8⟩ : ∃ x, (wA8.setRow w7.heap.size cs).setRow (w7.heap.size + 1) ds = x := ⟨_, rfl⟩
      have ks : Blk w8 w7.heap.size 37 cs := by rw [← hw8]; exact Blk.setRow (setRow_heap wA8 _ zeroSt cs 37 (0, 0) kA) (by omega) _
      have kd : Blk w8 (w7.heap.size + 1) 40 ds := by rw [← hw8]; exact setRow_heap _ _ zeroWd ds 40 (0, 0) (Blk.setRow kB (by omega) _)
      have b8 : Below w7.heap.size w7 w8 := by rw [← hw8]; exact (bA.grown (only_setRow (grown_refl wA8 (some w7.heap.size)) cs) bA.size (fun k hk => by injection hk; omega)).grown (only_setRow (grown_refl _ (some (w7.heap.size + 1))) ds) (by have := bA.size; simp; omega) (fun k hk => by injection hk; omega)
      have HWA8 := Lib.hid hwA
      have HW8 := Lib.hid hw8
      have HKA8 := Lib.hid kA
      have HKB8 := Lib.hid kB
      have HIA8 : Hid ((Tryz.prog.info? 37).map (·.size) = some (cs : Array Value).size) := Lib.hid (by rw [hS.size]; exact infoS)
      have HIB8 : Hid ((Tryz.prog.info? 40).map (·.size) = some (ds : Array Value).size) := Lib.hid (by rw [hD.size]; kernel_rfl)
      have HSA8 : Hid ((zeroSt : Array Value).size = (cs : Array Value).size) := Lib.hid (by rw [hS.size]; rfl)
      have HSB8 : Hid ((zeroWd : Array Value).size = (ds : Array Value).size) := Lib.hid (by rw [hD.size]; rfl)
      have HOA8 : Hid (((cs : Array Value).all fun x => x.oneCell') = true) := Lib.hid hS.one
      have HOB8 : Hid (((ds : Array Value).all fun x => x.oneCell') = true) := Lib.hid hD.one
      clear hwA hw8 kA kB bA
      replace kT := kT.below b8 kT.lt
      have hb10 := hb9.trans (b8.mono hb9.size)
      have hS8 := hS.below b8
      clear hS hD kd hb9 b8
      go_wp2_with (first
        | rw [HWA8.out]
        | (refine wpList_store_row rfl 37 _ _ rfl w7.heap.size cs rfl rfl 37 zeroSt HKA8.out HIA8.out HSA8.out HOA8.out ?_)
        | (refine wpList_store_row rfl 40 _ _ rfl (w7.heap.size + 1) ds rfl rfl 40 zeroWd (Blk.setRow HKB8.out (by omega) _) HIB8.out HSB8.out HOB8.out ?_; rw [HW8.out]))
      have hgT : gt < w8.heap.size := kT.lt
      have HKT : Hid (∀ W, Below w8.heap.size w8 W → (loadVar 47 ⟨gt, 0, none⟩).run Tryz.prog W = .ok (.agg tabV) W) := Lib.hid fun W hW => tab_run (kT.below hW kT.lt)
      have HOA : Hid (∀ W, Below w8.heap.size w8 W → RowG opK W oa os) := Lib.hid fun W hW => HO1.out W (hb10.trans (hW.mono hb10.size))
      have HOB : Hid (∀ W, Below w8.heap.size w8 W → RowG opK W ob os') := Lib.hid fun W hW => HO2.out W (hb10.trans (hW.mono hb10.size))
      have HLN := Lib.hid hl
      have HLM := Lib.hid hl'
      have HNN := Lib.hid hN2
      clear hl hl' hN2 HO1 HO2
      go_upto_region 5 with fail
      go_cut [9, 10, 11] from 36 to 46 (fun p q b wx => ∃ ga gb cs2 ds2, p = .pointer (some ⟨ga, 0, none⟩) ∧ q = .pointer (some ⟨gb, 0, none⟩) ∧ b = .bool true ∧ w8.heap.size ≤ ga ∧ Blk wx ga 37 cs2 ∧ StC wx (geP w8.heap.size) cs2 P2 ∧ Below w8.heap.size w8 wx ∧ ds2 = (0 : Nat))
      case first =>
        have zs := zeroS
        have zw := zeroW
        refine wp_region_held_drew (S := fun W => (loadVar 47 ⟨gt, 0, none⟩).run Tryz.prog W = .ok (.agg tabV) W) (by kernel_rfl) ?_ (fun hHeld0 => ?_)
        · exact HKT.out _ (Below.refl _ _).drew
        have hE0 : Below w8.heap.size w8 w8.drew := (Below.refl _ _).drew
        generalize w8.drew = y0 at *
        iterate 3 ((first | apply tk 0 rfl rfl (by kernel_rfl) | apply tk 2 rfl rfl (by kernel_rfl) | apply tk 4 rfl rfl (by kernel_rfl)); (case hQ => exact fun _ _ _ h => h); (case hw => rfl); (case hy => (intro w hSw; (try dsimp only at hSw); go_simp; try with_reducible rfl)); (case hS => assumption); (try simp only [Act.put, la1, la2, la3]))
        refine doH3 (i := 1) (j := 11) (k := 12) rfl rfl rfl (by kernel_rfl) (by rfl) (by rfl) (by rfl) (fun K hK => ?_) (fun K hK => ?_) (fun K hK => ?_)
        go_simp
        have hO := ownG_lit opOk y0 w8.heap.size hE0.size
        have hyA := (Below.refl _ y0).alloc (Nat.le_refl _) (.cells #[] 73)
        have hE1 := hE0.trans (hyA.mono hE0.size)
        change OwnG _ (y0.alloc (.cells #[] 73)) _ _ _ at hO
        generalize y0.alloc (.cells #[] 73) = y1 at *
        generalize y0.heap.size = b0 at *
        clear hyA
        refine hK.out _ _ (HKT.out _ hE1) (fun hHeld => ?_)
        clear hK K
        (try simp only [Act.put, la1, la2, la3])
        refine doH3 (i := 3) (j := 11) (k := 12) rfl rfl rfl (by kernel_rfl) (by rfl) (by rfl) (by rfl) (fun K hK => ?_) (fun K hK => ?_) (fun K hK => ?_)
        obtain ⟨v2, y2, hr, hO9, hg⟩ := append_g2 opOk hO oa n cap HLN.out (HOA.out y1 hE1) (by simp; omega) hE1.size
        have hE2 := hE1.grown hg hE1.size (fun j hj => (World.ownsRow.lt hO j hj).1)
        clear hO
        have hO := hO9
        clear hO9 hg
        rw [List.nil_append] at hO
        refine Lib.wp_append_run _ _ _ 22 22 rfl _ _ rfl rfl _ _ hr ?_
        clear hr
        refine hK.out _ _ (HKT.out _ hE2) (fun hHeld => ?_)
        clear hK K
        (try simp only [Act.put, la1, la2, la3])
        refine doH3 (i := 5) (j := 11) (k := 12) rfl rfl rfl (by kernel_rfl) (by rfl) (by rfl) (by rfl) (fun K hK => ?_) (fun K hK => ?_) (fun K hK => ?_)
        obtain ⟨v3, y3, hr, hO9, hg⟩ := append_g2 opOk hO ob m cap' HLM.out (HOB.out y2 hE2) (by rw [HLN.out]; omega) hE2.size
        have hE3 := hE2.grown hg hE2.size (fun j hj => (World.ownsRow.lt hO j hj).1)
        clear hO
        have hO := hO9
        clear hO9 hg
        refine Lib.wp_append_run _ _ _ 22 22 rfl _ _ rfl rfl _ _ hr ?_
        clear hr
        obtain ⟨o5, c5, hv5, hR5, _⟩ := hO.form opOk
        rw [HNN.out] at hv5
        subst hv5
        refine hK.out _ _ (HKT.out _ hE3) (fun hHeld => ?_)
        clear hK K
        (try simp only [Act.put, la1, la2, la3])
        refine doH3 (i := 6) (j := 11) (k := 12) rfl rfl rfl (by kernel_rfl) (by rfl) (by rfl) (by rfl) (fun K hK => ?_) (fun K hK => ?_) (fun K hK => ?_)
        go_simp
        go_at_call 11
        refine (HD2.out y3 o5 c5 hR5 h30 h20 HSM.out.1 HSM.out.2).mono ?_
        rintro e y4 ⟨cs2, ds2, rfl, hX, hXd, hyc⟩
        have hvy := hE3.size
        have hE4 : Below w8.heap.size w8 y4 := hE3.trans (hyc.mono hE3.size)
        have hs1 := hX.size
        have hs2 := hXd.size
        have ho1 := hX.one
        have ho2 := hXd.one
        obtain ⟨yc, hycc⟩ : ∃ yc, y4 = yc := ⟨_, rfl⟩
        rw [hycc] at hX
        have hbc : Below yc.heap.size yc y4 := by rw [hycc]; exact Below.refl _ _
        clear hycc hXd hO hR5
        go_wp2_with fail
        refine hK.out _ _ (HKT.out _ hE4) (fun hHeld => ?_)
        clear hK K
        (try simp only [Act.put, la1, la2, la3])
        iterate 4 ((first | apply tk 7 rfl rfl (by kernel_rfl) | apply tk 8 rfl rfl (by kernel_rfl) | apply tk 9 rfl rfl (by kernel_rfl) | apply tk 10 rfl rfl (by kernel_rfl)); (case hQ => exact fun _ _ _ h => h); (case hw => rfl); (case hy => (intro w hSw; (try dsimp only at hSw); go_simp; try with_reducible rfl)); (case hS => assumption); (try simp only [Act.put, la1, la2, la3]))
        refine doH2 (i := 11) (j := 12) rfl rfl (by kernel_rfl) (by rfl) (by rfl) (fun K hK => ?_) (fun K hK => ?_)
        go_simp
        have ka : Blk (y4.alloc (.cells zeroSt 37)) y4.heap.size 37 zeroSt := Blk.new _ _ _
        have hyA := (Below.refl _ y4).alloc (Nat.le_refl _) (.cells zeroSt 37)
        have hE5 := hE4.trans (hyA.mono hE4.size)
        have la : w8.heap.size ≤ y4.heap.size := hE4.size
        have ua : yc.heap.size ≤ y4.heap.size := hbc.size
        replace hbc := hbc.trans (hyA.mono hbc.size)
        generalize y4.alloc (.cells zeroSt 37) = y5 at *
        generalize y4.heap.size = ga at *
        clear hyA
        refine hK.out _ _ (HKT.out _ hE5) (fun hHeld => ?_)
        clear hK K
        (try simp only [Act.put, la1, la2, la3])
        refine doH (i := 12) rfl (by kernel_rfl) (by rfl) (fun K hK => ?_)
        go_simp
        have kb : Blk (y5.alloc (.cells zeroWd 40)) y5.heap.size 40 zeroWd := Blk.new _ _ _
        have hyA := (Below.refl _ y5).alloc (Nat.le_refl _) (.cells zeroWd 40)
        have hE6 := hE5.trans (hyA.mono hE5.size)
        have lb : w8.heap.size ≤ y5.heap.size := hE5.size
        have dba : ga < y5.heap.size := ka.lt
        replace ka := ka.below hyA ka.lt
        have ub : yc.heap.size ≤ y5.heap.size := hbc.size
        replace hbc := hbc.trans (hyA.mono hbc.size)
        generalize y5.alloc (.cells zeroWd 40) = y6 at *
        generalize y5.heap.size = gb at *
        clear hyA
        refine hK.out _ _ (HKT.out _ hE6) (fun hHeld => ?_)
        clear hK K
        (try simp only [Act.put, la1, la2, la3])
        refine doH (i := 13) rfl (by kernel_rfl) (by rfl) (fun K hK => ?_)
        refine wp_store_row 37 _ _ rfl ga cs2 rfl rfl 37 zeroSt ka (iSt hs1) hs1.symm ho1 ?_
        have hF1 := row_below hE6 ga (by omega) cs2
        refine hK.out _ _ (HKT.out _ hF1) (fun hHeld => ?_)
        clear hK K
        (try simp only [Act.put])
        refine doH (i := 14) rfl (by kernel_rfl) (by rfl) (fun K hK => ?_)
        refine wp_store_row 40 _ _ rfl gb ds2 rfl rfl 40 zeroWd (Blk.setRow kb (by omega) cs2) (iWd hs2) hs2.symm ho2 ?_
        have hF2 := row_below hF1 gb (by omega) ds2
        refine hK.out _ _ (HKT.out _ hF2) (fun hHeld => ?_)
        clear hK K
        (try simp only [Act.put])
        apply tk 15 rfl rfl (by kernel_rfl); (case hQ => exact fun _ _ _ h => h); (case hw => rfl); (case hy => (intro w hSw; (try dsimp only at hSw); go_simp; try with_reducible rfl)); (case hS => assumption); (try simp only [Act.put, la1, la2, la3])
        refine wpAnyH_done (by kernel_rfl) ?_ _
        go_wp2_with fail
        go_meet
        obtain ⟨t1, t2⟩ := rise_tail (B := w8.heap.size) (gb := gb) (ds2 := ds2) hX hbc ka (by omega) (by omega) (fun q _ _ => by omega)
        exact ⟨ga, gb, cs2, 0, rfl, rfl, rfl, la, t1, t2, hF2, rfl⟩
        go_simp
        have kb : Blk (y4.alloc (.cells zeroWd 40)) y4.heap.size 40 zeroWd := Blk.new _ _ _
        have hyA := (Below.refl _ y4).alloc (Nat.le_refl _) (.cells zeroWd 40)
        have hE7 := hE4.trans (hyA.mono hE4.size)
        have lb : w8.heap.size ≤ y4.heap.size := hE4.size
        have ub : yc.heap.size ≤ y4.heap.size := hbc.size
        replace hbc := hbc.trans (hyA.mono hbc.size)
        generalize y4.alloc (.cells zeroWd 40) = y7 at *
        generalize y4.heap.size = gb at *
        clear hyA
        refine hK.out _ _ (HKT.out _ hE7) (fun hHeld => ?_)
        clear hK K
        (try simp only [Act.put, la1, la2, la3])
        refine doH (i := 11) rfl (by kernel_rfl) (by rfl) (fun K hK => ?_)
        go_simp
        have ka : Blk (y7.alloc (.cells zeroSt 37)) y7.heap.size 37 zeroSt := Blk.new _ _ _
        have hyA := (Below.refl _ y7).alloc (Nat.le_refl _) (.cells zeroSt 37)
        have hE8 := hE7.trans (hyA.mono hE7.size)
        have la : w8.heap.size ≤ y7.heap.size := hE7.size
        have dab : gb < y7.heap.size := kb.lt
        replace kb := kb.below hyA kb.lt
        have ua : yc.heap.size ≤ y7.heap.size := hbc.size
        replace hbc := hbc.trans (hyA.mono hbc.size)
        generalize y7.alloc (.cells zeroSt 37) = y8 at *
        generalize y7.heap.size = ga at *
        clear hyA
        refine hK.out _ _ (HKT.out _ hE8) (fun hHeld => ?_)
        clear hK K
        (try simp only [Act.put, la1, la2, la3])
        refine doH (i := 13) rfl (by kernel_rfl) (by rfl) (fun K hK => ?_)
        refine wp_store_row 37 _ _ rfl ga cs2 rfl rfl 37 zeroSt ka (iSt hs1) hs1.symm ho1 ?_
        have hF1 := row_below hE8 ga (by omega) cs2
        refine hK.out _ _ (HKT.out _ hF1) (fun hHeld => ?_)
        clear hK K
        (try simp only [Act.put])
        refine doH (i := 14) rfl (by kernel_rfl) (by rfl) (fun K hK => ?_)
        refine wp_store_row 40 _ _ rfl gb ds2 rfl rfl 40 zeroWd (Blk.setRow kb (by omega) cs2) (iWd hs2) hs2.symm ho2 ?_
        have hF2 := row_below hF1 gb (by omega) ds2
        refine hK.out _ _ (HKT.out _ hF2) (fun hHeld => ?_)
        clear hK K
        (try simp only [Act.put])
        apply tk 15 rfl rfl (by kernel_rfl); (case hQ => exact fun _ _ _ h => h); (case hw => rfl); (case hy => (intro w hSw; (try dsimp only at hSw); go_simp; try with_reducible rfl)); (case hS => assumption); (try simp only [Act.put, la1, la2, la3])
        refine wpAnyH_done (by kernel_rfl) ?_ _
        go_wp2_with fail
        go_meet
        obtain ⟨t1, t2⟩ := rise_tail (B := w8.heap.size) (gb := gb) (ds2 := ds2) hX hbc ka (by omega) (by omega) (fun q _ _ => by omega)
        exact ⟨ga, gb, cs2, 0, rfl, rfl, rfl, la, t1, t2, hF2, rfl⟩
        go_simp
        have ka : Blk (y3.alloc (.cells zeroSt 37)) y3.heap.size 37 zeroSt := Blk.new _ _ _
        have hyA := (Below.refl _ y3).alloc (Nat.le_refl _) (.cells zeroSt 37)
        have hE9 := hE3.trans (hyA.mono hE3.size)
        have la : w8.heap.size ≤ y3.heap.size := hE3.size
        replace hO := hO.below hyA
        replace hR5 := hR5.below hyA
        generalize y3.alloc (.cells zeroSt 37) = y9 at *
        generalize y3.heap.size = ga at *
        clear hyA
        refine hK.out _ _ (HKT.out _ hE9) (fun hHeld => ?_)
        clear hK K
        (try simp only [Act.put, la1, la2, la3])
        refine doH2 (i := 6) (j := 12) rfl rfl (by kernel_rfl) (by rfl) (by rfl) (fun K hK => ?_) (fun K hK => ?_)
        go_simp
        go_at_call 11
        refine (HD2.out y9 o5 c5 hR5 h30 h20 HSM.out.1 HSM.out.2).mono ?_
        rintro e y10 ⟨cs2, ds2, rfl, hX, hXd, hyc⟩
        have hvy := hE9.size
        have va : ga < y9.heap.size := ka.lt
        have hE10 : Below w8.heap.size w8 y10 := hE9.trans (hyc.mono hE9.size)
        replace ka := ka.below hyc ka.lt
        have hs1 := hX.size
        have hs2 := hXd.size
        have ho1 := hX.one
        have ho2 := hXd.one
        obtain ⟨yc, hycc⟩ : ∃ yc, y10 = yc := ⟨_, rfl⟩
        rw [hycc] at hX
        have hbc : Below yc.heap.size yc y10 := by rw [hycc]; exact Below.refl _ _
        have ua : ga < yc.heap.size := by rw [← hycc]; exact ka.lt
        clear hycc hXd hO hR5
        go_wp2_with fail
        refine hK.out _ _ (HKT.out _ hE10) (fun hHeld => ?_)
        clear hK K
        (try simp only [Act.put, la1, la2, la3])
        iterate 4 ((first | apply tk 7 rfl rfl (by kernel_rfl) | apply tk 8 rfl rfl (by kernel_rfl) | apply tk 9 rfl rfl (by kernel_rfl) | apply tk 10 rfl rfl (by kernel_rfl)); (case hQ => exact fun _ _ _ h => h); (case hw => rfl); (case hy => (intro w hSw; (try dsimp only at hSw); go_simp; try with_reducible rfl)); (case hS => assumption); (try simp only [Act.put, la1, la2, la3]))
        refine doH (i := 12) rfl (by kernel_rfl) (by rfl) (fun K hK => ?_)
        go_simp
        have kb : Blk (y10.alloc (.cells zeroWd 40)) y10.heap.size 40 zeroWd := Blk.new _ _ _
        have hyA := (Below.refl _ y10).alloc (Nat.le_refl _) (.cells zeroWd 40)
        have hE11 := hE10.trans (hyA.mono hE10.size)
        have lb : w8.heap.size ≤ y10.heap.size := hE10.size
        have dba : ga < y10.heap.size := ka.lt
        replace ka := ka.below hyA ka.lt
        have ub : yc.heap.size ≤ y10.heap.size := hbc.size
        replace hbc := hbc.trans (hyA.mono hbc.size)
        generalize y10.alloc (.cells zeroWd 40) = y11 at *
        generalize y10.heap.size = gb at *
        clear hyA
        refine hK.out _ _ (HKT.out _ hE11) (fun hHeld => ?_)
        clear hK K
        (try simp only [Act.put, la1, la2, la3])
        refine doH (i := 13) rfl (by kernel_rfl) (by rfl) (fun K hK => ?_)
        refine wp_store_row 37 _ _ rfl ga cs2 rfl rfl 37 zeroSt ka (iSt hs1) hs1.symm ho1 ?_
        have hF1 := row_below hE11 ga (by omega) cs2
        refine hK.out _ _ (HKT.out _ hF1) (fun hHeld => ?_)
        clear hK K
        (try simp only [Act.put])
        refine doH (i := 14) rfl (by kernel_rfl) (by rfl) (fun K hK => ?_)
        refine wp_store_row 40 _ _ rfl gb ds2 rfl rfl 40 zeroWd (Blk.setRow kb (by omega) cs2) (iWd hs2) hs2.symm ho2 ?_
        have hF2 := row_below hF1 gb (by omega) ds2
        refine hK.out _ _ (HKT.out _ hF2) (fun hHeld => ?_)
        clear hK K
        (try simp only [Act.put])
        apply tk 15 rfl rfl (by kernel_rfl); (case hQ => exact fun _ _ _ h => h); (case hw => rfl); (case hy => (intro w hSw; (try dsimp only at hSw); go_simp; try with_reducible rfl)); (case hS => assumption); (try simp only [Act.put, la1, la2, la3])
        refine wpAnyH_done (by kernel_rfl) ?_ _
        go_wp2_with fail
        go_meet
        obtain ⟨t1, t2⟩ := rise_tail (B := w8.heap.size) (gb := gb) (ds2 := ds2) hX hbc ka (by omega) (by omega) (fun q _ _ => by omega)
        exact ⟨ga, gb, cs2, 0, rfl, rfl, rfl, la, t1, t2, hF2, rfl⟩
        go_simp
        have kb : Blk (y9.alloc (.cells zeroWd 40)) y9.heap.size 40 zeroWd := Blk.new _ _ _
        have hyA := (Below.refl _ y9).alloc (Nat.le_refl _) (.cells zeroWd 40)
        have hE12 := hE9.trans (hyA.mono hE9.size)
        have lb : w8.heap.size ≤ y9.heap.size := hE9.size
        have dba : ga < y9.heap.size := ka.lt
        replace ka := ka.below hyA ka.lt
        replace hO := hO.below hyA
        replace hR5 := hR5.below hyA
        generalize y9.alloc (.cells zeroWd 40) = y12 at *
        generalize y9.heap.size = gb at *
        clear hyA
        refine hK.out _ _ (HKT.out _ hE12) (fun hHeld => ?_)
        clear hK K
        (try simp only [Act.put, la1, la2, la3])
        refine doH (i := 6) rfl (by kernel_rfl) (by rfl) (fun K hK => ?_)
        go_simp
        go_at_call 11
        refine (HD2.out y12 o5 c5 hR5 h30 h20 HSM.out.1 HSM.out.2).mono ?_
        rintro e y13 ⟨cs2, ds2, rfl, hX, hXd, hyc⟩
        have hvy := hE12.size
        have va : ga < y12.heap.size := ka.lt
        have vb : gb < y12.heap.size := kb.lt
        have hE13 : Below w8.heap.size w8 y13 := hE12.trans (hyc.mono hE12.size)
        replace ka := ka.below hyc ka.lt
        replace kb := kb.below hyc kb.lt
        have hs1 := hX.size
        have hs2 := hXd.size
        have ho1 := hX.one
        have ho2 := hXd.one
        obtain ⟨yc, hycc⟩ : ∃ yc, y13 = yc := ⟨_, rfl⟩
        rw [hycc] at hX
        have hbc : Below yc.heap.size yc y13 := by rw [hycc]; exact Below.refl _ _
        have ua : ga < yc.heap.size := by rw [← hycc]; exact ka.lt
        have ub : gb < yc.heap.size := by rw [← hycc]; exact kb.lt
        clear hycc hXd hO hR5
        go_wp2_with fail
        refine hK.out _ _ (HKT.out _ hE13) (fun hHeld => ?_)
        clear hK K
        (try simp only [Act.put, la1, la2, la3])
        iterate 4 ((first | apply tk 7 rfl rfl (by kernel_rfl) | apply tk 8 rfl rfl (by kernel_rfl) | apply tk 9 rfl rfl (by kernel_rfl) | apply tk 10 rfl rfl (by kernel_rfl)); (case hQ => exact fun _ _ _ h => h); (case hw => rfl); (case hy => (intro w hSw; (try dsimp only at hSw); go_simp; try with_reducible rfl)); (case hS => assumption); (try simp only [Act.put, la1, la2, la3]))
        refine doH (i := 13) rfl (by kernel_rfl) (by rfl) (fun K hK => ?_)
        refine wp_store_row 37 _ _ rfl ga cs2 rfl rfl 37 zeroSt ka (iSt hs1) hs1.symm ho1 ?_
        have hF1 := row_below hE13 ga (by omega) cs2
        refine hK.out _ _ (HKT.out _ hF1) (fun hHeld => ?_)
        clear hK K
        (try simp only [Act.put])
        refine doH (i := 14) rfl (by kernel_rfl) (by rfl) (fun K hK => ?_)
        refine wp_store_row 40 _ _ rfl gb ds2 rfl rfl 40 zeroWd (Blk.setRow kb (by omega) cs2) (iWd hs2) hs2.symm ho2 ?_
        have hF2 := row_below hF1 gb (by omega) ds2
        refine hK.out _ _ (HKT.out _ hF2) (fun hHeld => ?_)
        clear hK K
        (try simp only [Act.put])
        apply tk 15 rfl rfl (by kernel_rfl); (case hQ => exact fun _ _ _ h => h); (case hw => rfl); (case hy => (intro w hSw; (try dsimp only at hSw); go_simp; try with_reducible rfl)); (case hS => assumption); (try simp only [Act.put, la1, la2, la3])
        refine wpAnyH_done (by kernel_rfl) ?_ _
        go_wp2_with fail
        go_meet
        obtain ⟨t1, t2⟩ := rise_tail (B := w8.heap.size) (gb := gb) (ds2 := ds2) hX hbc ka (by omega) (by omega) (fun q _ _ => by omega)
        exact ⟨ga, gb, cs2, 0, rfl, rfl, rfl, la, t1, t2, hF2, rfl⟩
        go_simp
        have kb : Blk (y3.alloc (.cells zeroWd 40)) y3.heap.size 40 zeroWd := Blk.new _ _ _
        have hyA := (Below.refl _ y3).alloc (Nat.le_refl _) (.cells zeroWd 40)
        have hE14 := hE3.trans (hyA.mono hE3.size)
        have lb : w8.heap.size ≤ y3.heap.size := hE3.size
        replace hO := hO.below hyA
        replace hR5 := hR5.below hyA
        generalize y3.alloc (.cells zeroWd 40) = y14 at *
        generalize y3.heap.size = gb at *
        clear hyA
        refine hK.out _ _ (HKT.out _ hE14) (fun hHeld => ?_)
        clear hK K
        (try simp only [Act.put, la1, la2, la3])
        refine doH2 (i := 6) (j := 11) rfl rfl (by kernel_rfl) (by rfl) (by rfl) (fun K hK => ?_) (fun K hK => ?_)
        go_simp
        go_at_call 11
        refine (HD2.out y14 o5 c5 hR5 h30 h20 HSM.out.1 HSM.out.2).mono ?_
        rintro e y15 ⟨cs2, ds2, rfl, hX, hXd, hyc⟩
        have hvy := hE14.size
        have vb : gb < y14.heap.size := kb.lt
        have hE15 : Below w8.heap.size w8 y15 := hE14.trans (hyc.mono hE14.size)
        replace kb := kb.below hyc kb.lt
        have hs1 := hX.size
        have hs2 := hXd.size
        have ho1 := hX.one
        have ho2 := hXd.one
        obtain ⟨yc, hycc⟩ : ∃ yc, y15 = yc := ⟨_, rfl⟩
        rw [hycc] at hX
        have hbc : Below yc.heap.size yc y15 := by rw [hycc]; exact Below.refl _ _
        have ub : gb < yc.heap.size := by rw [← hycc]; exact kb.lt
        clear hycc hXd hO hR5
        go_wp2_with fail
        refine hK.out _ _ (HKT.out _ hE15) (fun hHeld => ?_)
        clear hK K
        (try simp only [Act.put, la1, la2, la3])
        iterate 4 ((first | apply tk 7 rfl rfl (by kernel_rfl) | apply tk 8 rfl rfl (by kernel_rfl) | apply tk 9 rfl rfl (by kernel_rfl) | apply tk 10 rfl rfl (by kernel_rfl)); (case hQ => exact fun _ _ _ h => h); (case hw => rfl); (case hy => (intro w hSw; (try dsimp only at hSw); go_simp; try with_reducible rfl)); (case hS => assumption); (try simp only [Act.put, la1, la2, la3]))
        refine doH (i := 11) rfl (by kernel_rfl) (by rfl) (fun K hK => ?_)
        go_simp
        have ka : Blk (y15.alloc (.cells zeroSt 37)) y15.heap.size 37 zeroSt := Blk.new _ _ _
        have hyA := (Below.refl _ y15).alloc (Nat.le_refl _) (.cells zeroSt 37)
        have hE16 := hE15.trans (hyA.mono hE15.size)
        have la : w8.heap.size ≤ y15.heap.size := hE15.size
        have dab : gb < y15.heap.size := kb.lt
        replace kb := kb.below hyA kb.lt
        have ua : yc.heap.size ≤ y15.heap.size := hbc.size
        replace hbc := hbc.trans (hyA.mono hbc.size)
        generalize y15.alloc (.cells zeroSt 37) = y16 at *
        generalize y15.heap.size = ga at *
        clear hyA
        refine hK.out _ _ (HKT.out _ hE16) (fun hHeld => ?_)
        clear hK K
        (try simp only [Act.put, la1, la2, la3])
        refine doH (i := 13) rfl (by kernel_rfl) (by rfl) (fun K hK => ?_)
        refine wp_store_row 37 _ _ rfl ga cs2 rfl rfl 37 zeroSt ka (iSt hs1) hs1.symm ho1 ?_
        have hF1 := row_below hE16 ga (by omega) cs2
        refine hK.out _ _ (HKT.out _ hF1) (fun hHeld => ?_)
        clear hK K
        (try simp only [Act.put])
        refine doH (i := 14) rfl (by kernel_rfl) (by rfl) (fun K hK => ?_)
        refine wp_store_row 40 _ _ rfl gb ds2 rfl rfl 40 zeroWd (Blk.setRow kb (by omega) cs2) (iWd hs2) hs2.symm ho2 ?_
        have hF2 := row_below hF1 gb (by omega) ds2
        refine hK.out _ _ (HKT.out _ hF2) (fun hHeld => ?_)
        clear hK K
        (try simp only [Act.put])
        apply tk 15 rfl rfl (by kernel_rfl); (case hQ => exact fun _ _ _ h => h); (case hw => rfl); (case hy => (intro w hSw; (try dsimp only at hSw); go_simp; try with_reducible rfl)); (case hS => assumption); (try simp only [Act.put, la1, la2, la3])
        refine wpAnyH_done (by kernel_rfl) ?_ _
        go_wp2_with fail
        go_meet
        obtain ⟨t1, t2⟩ := rise_tail (B := w8.heap.size) (gb := gb) (ds2 := ds2) hX hbc ka (by omega) (by omega) (fun q _ _ => by omega)
        exact ⟨ga, gb, cs2, 0, rfl, rfl, rfl, la, t1, t2, hF2, rfl⟩
        go_simp
        have ka : Blk (y14.alloc (.cells zeroSt 37)) y14.heap.size 37 zeroSt := Blk.new _ _ _
        have hyA := (Below.refl _ y14).alloc (Nat.le_refl _) (.cells zeroSt 37)
        have hE17 := hE14.trans (hyA.mono hE14.size)
        have la : w8.heap.size ≤ y14.heap.size := hE14.size
        have dab : gb < y14.heap.size := kb.lt
        replace kb := kb.below hyA kb.lt
        replace hO := hO.below hyA
        replace hR5 := hR5.below hyA
        generalize y14.alloc (.cells zeroSt 37) = y17 at *
        generalize y14.heap.size = ga at *
        clear hyA
        refine hK.out _ _ (HKT.out _ hE17) (fun hHeld => ?_)
        clear hK K
        (try simp only [Act.put, la1, la2, la3])
        refine doH (i := 6) rfl (by kernel_rfl) (by rfl) (fun K hK => ?_)
        go_simp
        go_at_call 11
        refine (HD2.out y17 o5 c5 hR5 h30 h20 HSM.out.1 HSM.out.2).mono ?_
        rintro e y18 ⟨cs2, ds2, rfl, hX, hXd, hyc⟩
        have hvy := hE17.size
        have vb : gb < y17.heap.size := kb.lt
        have va : ga < y17.heap.size := ka.lt
        have hE18 : Below w8.heap.size w8 y18 := hE17.trans (hyc.mono hE17.size)
        replace kb := kb.below hyc kb.lt
        replace ka := ka.below hyc ka.lt
        have hs1 := hX.size
        have hs2 := hXd.size
        have ho1 := hX.one
        have ho2 := hXd.one
        obtain ⟨yc, hycc⟩ : ∃ yc, y18 = yc := ⟨_, rfl⟩
        rw [hycc] at hX
        have hbc : Below yc.heap.size yc y18 := by rw [hycc]; exact Below.refl _ _
        have ub : gb < yc.heap.size := by rw [← hycc]; exact kb.lt
        have ua : ga < yc.heap.size := by rw [← hycc]; exact ka.lt
        clear hycc hXd hO hR5
        go_wp2_with fail
        refine hK.out _ _ (HKT.out _ hE18) (fun hHeld => ?_)
        clear hK K
        (try simp only [Act.put, la1, la2, la3])
        iterate 4 ((first | apply tk 7 rfl rfl (by kernel_rfl) | apply tk 8 rfl rfl (by kernel_rfl) | apply tk 9 rfl rfl (by kernel_rfl) | apply tk 10 rfl rfl (by kernel_rfl)); (case hQ => exact fun _ _ _ h => h); (case hw => rfl); (case hy => (intro w hSw; (try dsimp only at hSw); go_simp; try with_reducible rfl)); (case hS => assumption); (try simp only [Act.put, la1, la2, la3]))
        refine doH (i := 13) rfl (by kernel_rfl) (by rfl) (fun K hK => ?_)
        refine wp_store_row 37 _ _ rfl ga cs2 rfl rfl 37 zeroSt ka (iSt hs1) hs1.symm ho1 ?_
        have hF1 := row_below hE18 ga (by omega) cs2
        refine hK.out _ _ (HKT.out _ hF1) (fun hHeld => ?_)
        clear hK K
        (try simp only [Act.put])
        refine doH (i := 14) rfl (by kernel_rfl) (by rfl) (fun K hK => ?_)
        refine wp_store_row 40 _ _ rfl gb ds2 rfl rfl 40 zeroWd (Blk.setRow kb (by omega) cs2) (iWd hs2) hs2.symm ho2 ?_
        have hF2 := row_below hF1 gb (by omega) ds2
        refine hK.out _ _ (HKT.out _ hF2) (fun hHeld => ?_)
        clear hK K
        (try simp only [Act.put])
        apply tk 15 rfl rfl (by kernel_rfl); (case hQ => exact fun _ _ _ h => h); (case hw => rfl); (case hy => (intro w hSw; (try dsimp only at hSw); go_simp; try with_reducible rfl)); (case hS => assumption); (try simp only [Act.put, la1, la2, la3])
        refine wpAnyH_done (by kernel_rfl) ?_ _
        go_wp2_with fail
        go_meet
        obtain ⟨t1, t2⟩ := rise_tail (B := w8.heap.size) (gb := gb) (ds2 := ds2) hX hbc ka (by omega) (by omega) (fun q _ _ => by omega)
        exact ⟨ga, gb, cs2, 0, rfl, rfl, rfl, la, t1, t2, hF2, rfl⟩
        go_simp
        have ka : Blk (y2.alloc (.cells zeroSt 37)) y2.heap.size 37 zeroSt := Blk.new _ _ _
        have hyA := (Below.refl _ y2).alloc (Nat.le_refl _) (.cells zeroSt 37)
        have hE19 := hE2.trans (hyA.mono hE2.size)
        have la : w8.heap.size ≤ y2.heap.size := hE2.size
        replace hO := hO.below hyA
        generalize y2.alloc (.cells zeroSt 37) = y19 at *
        generalize y2.heap.size = ga at *
        clear hyA
        refine hK.out _ _ (HKT.out _ hE19) (fun hHeld => ?_)
        clear hK K
        (try simp only [Act.put, la1, la2, la3])
        refine doH2 (i := 5) (j := 12) rfl rfl (by kernel_rfl) (by rfl) (by rfl) (fun K hK => ?_) (fun K hK => ?_)
        obtain ⟨v20, y20, hr, hO9, hg⟩ := append_g2 opOk hO ob m cap' HLM.out (HOB.out y19 hE19) (by rw [HLN.out]; omega) hE19.size
        have hE20 := hE19.grown hg hE19.size (fun j hj => (World.ownsRow.lt hO j hj).1)
        replace ka := ka.grown hg (ne_row (apartT hO ka (by decide)))
        clear hO
        have hO := hO9
        clear hO9 hg
        refine Lib.wp_append_run _ _ _ 22 22 rfl _ _ rfl rfl _ _ hr ?_
        clear hr
        obtain ⟨o5, c5, hv5, hR5, _⟩ := hO.form opOk
        rw [HNN.out] at hv5
        subst hv5
        refine hK.out _ _ (HKT.out _ hE20) (fun hHeld => ?_)
        clear hK K
        (try simp only [Act.put, la1, la2, la3])
        refine doH2 (i := 6) (j := 12) rfl rfl (by kernel_rfl) (by rfl) (by rfl) (fun K hK => ?_) (fun K hK => ?_)
        go_simp
        go_at_call 11
        refine (HD2.out y20 o5 c5 hR5 h30 h20 HSM.out.1 HSM.out.2).mono ?_
        rintro e y21 ⟨cs2, ds2, rfl, hX, hXd, hyc⟩
        have hvy := hE20.size
        have va : ga < y20.heap.size := ka.lt
        have hE21 : Below w8.heap.size w8 y21 := hE20.trans (hyc.mono hE20.size)
        replace ka := ka.below hyc ka.lt
        have hs1 := hX.size
        have hs2 := hXd.size
        have ho1 := hX.one
        have ho2 := hXd.one
        obtain ⟨yc, hycc⟩ : ∃ yc, y21 = yc := ⟨_, rfl⟩
        rw [hycc] at hX
        have hbc : Below yc.heap.size yc y21 := by rw [hycc]; exact Below.refl _ _
        have ua : ga < yc.heap.size := by rw [← hycc]; exact ka.lt
        clear hycc hXd hO hR5
        go_wp2_with fail
        refine hK.out _ _ (HKT.out _ hE21) (fun hHeld => ?_)
        clear hK K
        (try simp only [Act.put, la1, la2, la3])
        iterate 4 ((first | apply tk 7 rfl rfl (by kernel_rfl) | apply tk 8 rfl rfl (by kernel_rfl) | apply tk 9 rfl rfl (by kernel_rfl) | apply tk 10 rfl rfl (by kernel_rfl)); (case hQ => exact fun _ _ _ h => h); (case hw => rfl); (case hy => (intro w hSw; (try dsimp only at hSw); go_simp; try with_reducible rfl)); (case hS => assumption); (try simp only [Act.put, la1, la2, la3]))
        refine doH (i := 12) rfl (by kernel_rfl) (by rfl) (fun K hK => ?_)
        go_simp
        have kb : Blk (y21.alloc (.cells zeroWd 40)) y21.heap.size 40 zeroWd := Blk.new _ _ _
        have hyA := (Below.refl _ y21).alloc (Nat.le_refl _) (.cells zeroWd 40)
        have hE22 := hE21.trans (hyA.mono hE21.size)
        have lb : w8.heap.size ≤ y21.heap.size := hE21.size
        have dba : ga < y21.heap.size := ka.lt
        replace ka := ka.below hyA ka.lt
        have ub : yc.heap.size ≤ y21.heap.size := hbc.size
        replace hbc := hbc.trans (hyA.mono hbc.size)
        generalize y21.alloc (.cells zeroWd 40) = y22 at *
        generalize y21.heap.size = gb at *
        clear hyA
        refine hK.out _ _ (HKT.out _ hE22) (fun hHeld => ?_)
        clear hK K
        (try simp only [Act.put, la1, la2, la3])
        refine doH (i := 13) rfl (by kernel_rfl) (by rfl) (fun K hK => ?_)
        refine wp_store_row 37 _ _ rfl ga cs2 rfl rfl 37 zeroSt ka (iSt hs1) hs1.symm ho1 ?_
        have hF1 := row_below hE22 ga (by omega) cs2
        refine hK.out _ _ (HKT.out _ hF1) (fun hHeld => ?_)
        clear hK K
        (try simp only [Act.put])
        refine doH (i := 14) rfl (by kernel_rfl) (by rfl) (fun K hK => ?_)
        refine wp_store_row 40 _ _ rfl gb ds2 rfl rfl 40 zeroWd (Blk.setRow kb (by omega) cs2) (iWd hs2) hs2.symm ho2 ?_
        have hF2 := row_below hF1 gb (by omega) ds2
        refine hK.out _ _ (HKT.out _ hF2) (fun hHeld => ?_)
        clear hK K
        (try simp only [Act.put])
        apply tk 15 rfl rfl (by kernel_rfl); (case hQ => exact fun _ _ _ h => h); (case hw => rfl); (case hy => (intro w hSw; (try dsimp only at hSw); go_simp; try with_reducible rfl)); (case hS => assumption); (try simp only [Act.put, la1, la2, la3])
        refine wpAnyH_done (by kernel_rfl) ?_ _
        go_wp2_with fail
        go_meet
        obtain ⟨t1, t2⟩ := rise_tail (B := w8.heap.size) (gb := gb) (ds2 := ds2) hX hbc ka (by omega) (by omega) (fun q _ _ => by omega)
        exact ⟨ga, gb, cs2, 0, rfl, rfl, rfl, la, t1, t2, hF2, rfl⟩
        go_simp
        have kb : Blk (y20.alloc (.cells zeroWd 40)) y20.heap.size 40 zeroWd := Blk.new _ _ _
        have hyA := (Below.refl _ y20).alloc (Nat.le_refl _) (.cells zeroWd 40)
        have hE23 := hE20.trans (hyA.mono hE20.size)
        have lb : w8.heap.size ≤ y20.heap.size := hE20.size
        have dba : ga < y20.heap.size := ka.lt
        replace ka := ka.below hyA ka.lt
        replace hO := hO.below hyA
        replace hR5 := hR5.below hyA
        generalize y20.alloc (.cells zeroWd 40) = y23 at *
        generalize y20.heap.size = gb at *
        clear hyA
        refine hK.out _ _ (HKT.out _ hE23) (fun hHeld => ?_)
        clear hK K
        (try simp only [Act.put, la1, la2, la3])
        refine doH (i := 6) rfl (by kernel_rfl) (by rfl) (fun K hK => ?_)
        go_simp
        go_at_call 11
        refine (HD2.out y23 o5 c5 hR5 h30 h20 HSM.out.1 HSM.out.2).mono ?_
        rintro e y24 ⟨cs2, ds2, rfl, hX, hXd, hyc⟩
        have hvy := hE23.size
        have va : ga < y23.heap.size := ka.lt
        have vb : gb < y23.heap.size := kb.lt
        have hE24 : Below w8.heap.size w8 y24 := hE23.trans (hyc.mono hE23.size)
        replace ka := ka.below hyc ka.lt
        replace kb := kb.below hyc kb.lt
        have hs1 := hX.size
        have hs2 := hXd.size
        have ho1 := hX.one
        have ho2 := hXd.one
        obtain ⟨yc, hycc⟩ : ∃ yc, y24 = yc := ⟨_, rfl⟩
        rw [hycc] at hX
        have hbc : Below yc.heap.size yc y24 := by rw [hycc]; exact Below.refl _ _
        have ua : ga < yc.heap.size := by rw [← hycc]; exact ka.lt
        have ub : gb < yc.heap.size := by rw [← hycc]; exact kb.lt
        clear hycc hXd hO hR5
        go_wp2_with fail
        refine hK.out _ _ (HKT.out _ hE24) (fun hHeld => ?_)
        clear hK K
        (try simp only [Act.put, la1, la2, la3])
        iterate 4 ((first | apply tk 7 rfl rfl (by kernel_rfl) | apply tk 8 rfl rfl (by kernel_rfl) | apply tk 9 rfl rfl (by kernel_rfl) | apply tk 10 rfl rfl (by kernel_rfl)); (case hQ => exact fun _ _ _ h => h); (case hw => rfl); (case hy => (intro w hSw; (try dsimp only at hSw); go_simp; try with_reducible rfl)); (case hS => assumption); (try simp only [Act.put, la1, la2, la3]))
        refine doH (i := 13) rfl (by kernel_rfl) (by rfl) (fun K hK => ?_)
        refine wp_store_row 37 _ _ rfl ga cs2 rfl rfl 37 zeroSt ka (iSt hs1) hs1.symm ho1 ?_
        have hF1 := row_below hE24 ga (by omega) cs2
        refine hK.out _ _ (HKT.out _ hF1) (fun hHeld => ?_)
        clear hK K
        (try simp only [Act.put])
        refine doH (i := 14) rfl (by kernel_rfl) (by rfl) (fun K hK => ?_)
        refine wp_store_row 40 _ _ rfl gb ds2 rfl rfl 40 zeroWd (Blk.setRow kb (by omega) cs2) (iWd hs2) hs2.symm ho2 ?_
        have hF2 := row_below hF1 gb (by omega) ds2
        refine hK.out _ _ (HKT.out _ hF2) (fun hHeld => ?_)
        clear hK K
        (try simp only [Act.put])
        apply tk 15 rfl rfl (by kernel_rfl); (case hQ => exact fun _ _ _ h => h); (case hw => rfl); (case hy => (intro w hSw; (try dsimp only at hSw); go_simp; try with_reducible rfl)); (case hS => assumption); (try simp only [Act.put, la1, la2, la3])
        refine wpAnyH_done (by kernel_rfl) ?_ _
        go_wp2_with fail
        go_meet
        obtain ⟨t1, t2⟩ := rise_tail (B := w8.heap.size) (gb := gb) (ds2 := ds2) hX hbc ka (by omega) (by omega) (fun q _ _ => by omega)
        exact ⟨ga, gb, cs2, 0, rfl, rfl, rfl, la, t1, t2, hF2, rfl⟩
        go_simp
        have kb : Blk (y19.alloc (.cells zeroWd 40)) y19.heap.size 40 zeroWd := Blk.new _ _ _
        have hyA := (Below.refl _ y19).alloc (Nat.le_refl _) (.cells zeroWd 40)
        have hE25 := hE19.trans (hyA.mono hE19.size)
        have lb : w8.heap.size ≤ y19.heap.size := hE19.size
        have dba : ga < y19.heap.size := ka.lt
        replace ka := ka.below hyA ka.lt
        replace hO := hO.below hyA
        generalize y19.alloc (.cells zeroWd 40) = y25 at *
        generalize y19.heap.size = gb at *
        clear hyA
        refine hK.out _ _ (HKT.out _ hE25) (fun hHeld => ?_)
        clear hK K
        (try simp only [Act.put, la1, la2, la3])
        refine doH (i := 5) rfl (by kernel_rfl) (by rfl) (fun K hK => ?_)
        obtain ⟨v26, y26, hr, hO9, hg⟩ := append_g2 opOk hO ob m cap' HLM.out (HOB.out y25 hE25) (by rw [HLN.out]; omega) hE25.size
        have hE26 := hE25.grown hg hE25.size (fun j hj => (World.ownsRow.lt hO j hj).1)
        replace ka := ka.grown hg (ne_row (apartT hO ka (by decide)))
        replace kb := kb.grown hg (ne_row (apartT hO kb (by decide)))
        clear hO
        have hO := hO9
        clear hO9 hg
        refine Lib.wp_append_run _ _ _ 22 22 rfl _ _ rfl rfl _ _ hr ?_
        clear hr
        obtain ⟨o5, c5, hv5, hR5, _⟩ := hO.form opOk
        rw [HNN.out] at hv5
        subst hv5
        refine hK.out _ _ (HKT.out _ hE26) (fun hHeld => ?_)
        clear hK K
        (try simp only [Act.put, la1, la2, la3])
        refine doH (i := 6) rfl (by kernel_rfl) (by rfl) (fun K hK => ?_)
        go_simp
        go_at_call 11
        refine (HD2.out y26 o5 c5 hR5 h30 h20 HSM.out.1 HSM.out.2).mono ?_
        rintro e y27 ⟨cs2, ds2, rfl, hX, hXd, hyc⟩
        have hvy := hE26.size
        have va : ga < y26.heap.size := ka.lt
        have vb : gb < y26.heap.size := kb.lt
        have hE27 : Below w8.heap.size w8 y27 := hE26.trans (hyc.mono hE26.size)
        replace ka := ka.below hyc ka.lt
        replace kb := kb.below hyc kb.lt
        have hs1 := hX.size
        have hs2 := hXd.size
        have ho1 := hX.one
        have ho2 := hXd.one
        obtain ⟨yc, hycc⟩ : ∃ yc, y27 = yc := ⟨_, rfl⟩
        rw [hycc] at hX
        have hbc : Below yc.heap.size yc y27 := by rw [hycc]; exact Below.refl _ _
        have ua : ga < yc.heap.size := by rw [← hycc]; exact ka.lt
        have ub : gb < yc.heap.size := by rw [← hycc]; exact kb.lt
        clear hycc hXd hO hR5
        go_wp2_with fail
        refine hK.out _ _ (HKT.out _ hE27) (fun hHeld => ?_)
        clear hK K
        (try simp only [Act.put, la1, la2, la3])
        iterate 4 ((first | apply tk 7 rfl rfl (by kernel_rfl) | apply tk 8 rfl rfl (by kernel_rfl) | apply tk 9 rfl rfl (by kernel_rfl) | apply tk 10 rfl rfl (by kernel_rfl)); (case hQ => exact fun _ _ _ h => h); (case hw => rfl); (case hy => (intro w hSw; (try dsimp only at hSw); go_simp; try with_reducible rfl)); (case hS => assumption); (try simp only [Act.put, la1, la2, la3]))
        refine doH (i := 13) rfl (by kernel_rfl) (by rfl) (fun K hK => ?_)
        refine wp_store_row 37 _ _ rfl ga cs2 rfl rfl 37 zeroSt ka (iSt hs1) hs1.symm ho1 ?_
        have hF1 := row_below hE27 ga (by omega) cs2
        refine hK.out _ _ (HKT.out _ hF1) (fun hHeld => ?_)
        clear hK K
        (try simp only [Act.put])
        refine doH (i := 14) rfl (by kernel_rfl) (by rfl) (fun K hK => ?_)
        refine wp_store_row 40 _ _ rfl gb ds2 rfl rfl 40 zeroWd (Blk.setRow kb (by omega) cs2) (iWd hs2) hs2.symm ho2 ?_
        have hF2 := row_below hF1 gb (by omega) ds2
        refine hK.out _ _ (HKT.out _ hF2) (fun hHeld => ?_)
        clear hK K
        (try simp only [Act.put])
        apply tk 15 rfl rfl (by kernel_rfl); (case hQ => exact fun _ _ _ h => h); (case hw => rfl); (case hy => (intro w hSw; (try dsimp only at hSw); go_simp; try with_reducible rfl)); (case hS => assumption); (try simp only [Act.put, la1, la2, la3])
        refine wpAnyH_done (by kernel_rfl) ?_ _
        go_wp2_with fail
        go_meet
        obtain ⟨t1, t2⟩ := rise_tail (B := w8.heap.size) (gb := gb) (ds2 := ds2) hX hbc ka (by omega) (by omega) (fun q _ _ => by omega)
        exact ⟨ga, gb, cs2, 0, rfl, rfl, rfl, la, t1, t2, hF2, rfl⟩
        go_simp
        have kb : Blk (y2.alloc (.cells zeroWd 40)) y2.heap.size 40 zeroWd := Blk.new _ _ _
        have hyA := (Below.refl _ y2).alloc (Nat.le_refl _) (.cells zeroWd 40)
        have hE28 := hE2.trans (hyA.mono hE2.size)
        have lb : w8.heap.size ≤ y2.heap.size := hE2.size
        replace hO := hO.below hyA
        generalize y2.alloc (.cells zeroWd 40) = y28 at *
        generalize y2.heap.size = gb at *
        clear hyA
        refine hK.out _ _ (HKT.out _ hE28) (fun hHeld => ?_)
        clear hK K
        (try simp only [Act.put, la1, la2, la3])
        refine doH2 (i := 5) (j := 11) rfl rfl (by kernel_rfl) (by rfl) (by rfl) (fun K hK => ?_) (fun K hK => ?_)
        obtain ⟨v29, y29, hr, hO9, hg⟩ := append_g2 opOk hO ob m cap' HLM.out (HOB.out y28 hE28) (by rw [HLN.out]; omega) hE28.size
        have hE29 := hE28.grown hg hE28.size (fun j hj => (World.ownsRow.lt hO j hj).1)
        replace kb := kb.grown hg (ne_row (apartT hO kb (by decide)))
        clear hO
        have hO := hO9
        clear hO9 hg
        refine Lib.wp_append_run _ _ _ 22 22 rfl _ _ rfl rfl _ _ hr ?_
        clear hr
        obtain ⟨o5, c5, hv5, hR5, _⟩ := hO.form opOk
        rw [HNN.out] at hv5
        subst hv5
        refine hK.out _ _ (HKT.out _ hE29) (fun hHeld => ?_)
        clear hK K
        (try simp only [Act.put, la1, la2, la3])
        refine doH2 (i := 6) (j := 11) rfl rfl (by kernel_rfl) (by rfl) (by rfl) (fun K hK => ?_) (fun K hK => ?_)
        go_simp
        go_at_call 11
        refine (HD2.out y29 o5 c5 hR5 h30 h20 HSM.out.1 HSM.out.2).mono ?_
        rintro e y30 ⟨cs2, ds2, rfl, hX, hXd, hyc⟩
        have hvy := hE29.size
        have vb : gb < y29.heap.size := kb.lt
        have hE30 : Below w8.heap.size w8 y30 := hE29.trans (hyc.mono hE29.size)
        replace kb := kb.below hyc kb.lt
        have hs1 := hX.size
        have hs2 := hXd.size
        have ho1 := hX.one
        have ho2 := hXd.one
        obtain ⟨yc, hycc⟩ : ∃ yc, y30 = yc := ⟨_, rfl⟩
        rw [hycc] at hX
        have hbc : Below yc.heap.size yc y30 := by rw [hycc]; exact Below.refl _ _
        have ub : gb < yc.heap.size := by rw [← hycc]; exact kb.lt
        clear hycc hXd hO hR5
        go_wp2_with fail
        refine hK.out _ _ (HKT.out _ hE30) (fun hHeld => ?_)
        clear hK K
        (try simp only [Act.put, la1, la2, la3])
        iterate 4 ((first | apply tk 7 rfl rfl (by kernel_rfl) | apply tk 8 rfl rfl (by kernel_rfl) | apply tk 9 rfl rfl (by kernel_rfl) | apply tk 10 rfl rfl (by kernel_rfl)); (case hQ => exact fun _ _ _ h => h); (case hw => rfl); (case hy => (intro w hSw; (try dsimp only at hSw); go_simp; try with_reducible rfl)); (case hS => assumption); (try simp only [Act.put, la1, la2, la3]))
        refine doH (i := 11) rfl (by kernel_rfl) (by rfl) (fun K hK => ?_)
        go_simp
        have ka : Blk (y30.alloc (.cells zeroSt 37)) y30.heap.size 37 zeroSt := Blk.new _ _ _
        have hyA := (Below.refl _ y30).alloc (Nat.le_refl _) (.cells zeroSt 37)
        have hE31 := hE30.trans (hyA.mono hE30.size)
        have la : w8.heap.size ≤ y30.heap.size := hE30.size
        have dab : gb < y30.heap.size := kb.lt
        replace kb := kb.below hyA kb.lt
        have ua : yc.heap.size ≤ y30.heap.size := hbc.size
        replace hbc := hbc.trans (hyA.mono hbc.size)
        generalize y30.alloc (.cells zeroSt 37) = y31 at *
        generalize y30.heap.size = ga at *
        clear hyA
        refine hK.out _ _ (HKT.out _ hE31) (fun hHeld => ?_)
        clear hK K
        (try simp only [Act.put, la1, la2, la3])
        refine doH (i := 13) rfl (by kernel_rfl) (by rfl) (fun K hK => ?_)
        refine wp_store_row 37 _ _ rfl ga cs2 rfl rfl 37 zeroSt ka (iSt hs1) hs1.symm ho1 ?_
        have hF1 := row_below hE31 ga (by omega) cs2
        refine hK.out _ _ (HKT.out _ hF1) (fun hHeld => ?_)
        clear hK K
        (try simp only [Act.put])
        refine doH (i := 14) rfl (by kernel_rfl) (by rfl) (fun K hK => ?_)
        refine wp_store_row 40 _ _ rfl gb ds2 rfl rfl 40 zeroWd (Blk.setRow kb (by omega) cs2) (iWd hs2) hs2.symm ho2 ?_
        have hF2 := row_below hF1 gb (by omega) ds2
        refine hK.out _ _ (HKT.out _ hF2) (fun hHeld => ?_)
        clear hK K
        (try simp only [Act.put])
        apply tk 15 rfl rfl (by kernel_rfl); (case hQ => exact fun _ _ _ h => h); (case hw => rfl); (case hy => (intro w hSw; (try dsimp only at hSw); go_simp; try with_reducible rfl)); (case hS => assumption); (try simp only [Act.put, la1, la2, la3])
        refine wpAnyH_done (by kernel_rfl) ?_ _
        go_wp2_with fail
        go_meet
        obtain ⟨t1, t2⟩ := rise_tail (B := w8.heap.size) (gb := gb) (ds2 := ds2) hX hbc ka (by omega) (by omega) (fun q _ _ => by omega)
        exact ⟨ga, gb, cs2, 0, rfl, rfl, rfl, la, t1, t2, hF2, rfl⟩
        go_simp
        have ka : Blk (y29.alloc (.cells zeroSt 37)) y29.heap.size 37 zeroSt := Blk.new _ _ _
        have hyA := (Below.refl _ y29).alloc (Nat.le_refl _) (.cells zeroSt 37)
        have hE32 := hE29.trans (hyA.mono hE29.size)
        have la : w8.heap.size ≤ y29.heap.size := hE29.size
        have dab : gb < y29.heap.size := kb.lt
        replace kb := kb.below hyA kb.lt
        replace hO := hO.below hyA
        replace hR5 := hR5.below hyA
        generalize y29.alloc (.cells zeroSt 37) = y32 at *
        generalize y29.heap.size = ga at *
        clear hyA
        refine hK.out _ _ (HKT.out _ hE32) (fun hHeld => ?_)
        clear hK K
        (try simp only [Act.put, la1, la2, la3])
        refine doH (i := 6) rfl (by kernel_rfl) (by rfl) (fun K hK => ?_)
        go_simp
        go_at_call 11
        refine (HD2.out y32 o5 c5 hR5 h30 h20 HSM.out.1 HSM.out.2).mono ?_
        rintro e y33 ⟨cs2, ds2, rfl, hX, hXd, hyc⟩
        have hvy := hE32.size
        have vb : gb < y32.heap.size := kb.lt
        have va : ga < y32.heap.size := ka.lt
        have hE33 : Below w8.heap.size w8 y33 := hE32.trans (hyc.mono hE32.size)
        replace kb := kb.below hyc kb.lt
        replace ka := ka.below hyc ka.lt
        have hs1 := hX.size
        have hs2 := hXd.size
        have ho1 := hX.one
        have ho2 := hXd.one
        obtain ⟨yc, hycc⟩ : ∃ yc, y33 = yc := ⟨_, rfl⟩
        rw [hycc] at hX
        have hbc : Below yc.heap.size yc y33 := by rw [hycc]; exact Below.refl _ _
        have ub : gb < yc.heap.size := by rw [← hycc]; exact kb.lt
        have ua : ga < yc.heap.size := by rw [← hycc]; exact ka.lt
        clear hycc hXd hO hR5
        go_wp2_with fail
        refine hK.out _ _ (HKT.out _ hE33) (fun hHeld => ?_)
        clear hK K
        (try simp only [Act.put, la1, la2, la3])
        iterate 4 ((first | apply tk 7 rfl rfl (by kernel_rfl) | apply tk 8 rfl rfl (by kernel_rfl) | apply tk 9 rfl rfl (by kernel_rfl) | apply tk 10 rfl rfl (by kernel_rfl)); (case hQ => exact fun _ _ _ h => h); (case hw => rfl); (case hy => (intro w hSw; (try dsimp only at hSw); go_simp; try with_reducible rfl)); (case hS => assumption); (try simp only [Act.put, la1, la2, la3]))
        refine doH (i := 13) rfl (by kernel_rfl) (by rfl) (fun K hK => ?_)
        refine wp_store_row 37 _ _ rfl ga cs2 rfl rfl 37 zeroSt ka (iSt hs1) hs1.symm ho1 ?_
        have hF1 := row_below hE33 ga (by omega) cs2
        refine hK.out _ _ (HKT.out _ hF1) (fun hHeld => ?_)
        clear hK K
        (try simp only [Act.put])
        refine doH (i := 14) rfl (by kernel_rfl) (by rfl) (fun K hK => ?_)
        refine wp_store_row 40 _ _ rfl gb ds2 rfl rfl 40 zeroWd (Blk.setRow kb (by omega) cs2) (iWd hs2) hs2.symm ho2 ?_
        have hF2 := row_below hF1 gb (by omega) ds2
        refine hK.out _ _ (HKT.out _ hF2) (fun hHeld => ?_)
        clear hK K
        (try simp only [Act.put])
        apply tk 15 rfl rfl (by kernel_rfl); (case hQ => exact fun _ _ _ h => h); (case hw => rfl); (case hy => (intro w hSw; (try dsimp only at hSw); go_simp; try with_reducible rfl)); (case hS => assumption); (try simp only [Act.put, la1, la2, la3])
        refine wpAnyH_done (by kernel_rfl) ?_ _
        go_wp2_with fail
        go_meet
        obtain ⟨t1, t2⟩ := rise_tail (B := w8.heap.size) (gb := gb) (ds2 := ds2) hX hbc ka (by omega) (by omega) (fun q _ _ => by omega)
        exact ⟨ga, gb, cs2, 0, rfl, rfl, rfl, la, t1, t2, hF2, rfl⟩
        go_simp
        have ka : Blk (y28.alloc (.cells zeroSt 37)) y28.heap.size 37 zeroSt := Blk.new _ _ _
        have hyA := (Below.refl _ y28).alloc (Nat.le_refl _) (.cells zeroSt 37)
        have hE34 := hE28.trans (hyA.mono hE28.size)
        have la : w8.heap.size ≤ y28.heap.size := hE28.size
        have dab : gb < y28.heap.size := kb.lt
        replace kb := kb.below hyA kb.lt
        replace hO := hO.below hyA
        generalize y28.alloc (.cells zeroSt 37) = y34 at *
        generalize y28.heap.size = ga at *
        clear hyA
        refine hK.out _ _ (HKT.out _ hE34) (fun hHeld => ?_)
        clear hK K
        (try simp only [Act.put, la1, la2, la3])
        refine doH (i := 5) rfl (by kernel_rfl) (by rfl) (fun K hK => ?_)
        obtain ⟨v35, y35, hr, hO9, hg⟩ := append_g2 opOk hO ob m cap' HLM.out (HOB.out y34 hE34) (by rw [HLN.out]; omega) hE34.size
        have hE35 := hE34.grown hg hE34.size (fun j hj => (World.ownsRow.lt hO j hj).1)
        replace kb := kb.grown hg (ne_row (apartT hO kb (by decide)))
        replace ka := ka.grown hg (ne_row (apartT hO ka (by decide)))
        clear hO
        have hO := hO9
        clear hO9 hg
        refine Lib.wp_append_run _ _ _ 22 22 rfl _ _ rfl rfl _ _ hr ?_
        clear hr
        obtain ⟨o5, c5, hv5, hR5, _⟩ := hO.form opOk
        rw [HNN.out] at hv5
        subst hv5
        refine hK.out _ _ (HKT.out _ hE35) (fun hHeld => ?_)
        clear hK K
        (try simp only [Act.put, la1, la2, la3])
        refine doH (i := 6) rfl (by kernel_rfl) (by rfl) (fun K hK => ?_)
        go_simp
        go_at_call 11
        refine (HD2.out y35 o5 c5 hR5 h30 h20 HSM.out.1 HSM.out.2).mono ?_
        rintro e y36 ⟨cs2, ds2, rfl, hX, hXd, hyc⟩
        have hvy := hE35.size
        have vb : gb < y35.heap.size := kb.lt
        have va : ga < y35.heap.size := ka.lt
        have hE36 : Below w8.heap.size w8 y36 := hE35.trans (hyc.mono hE35.size)
        replace kb := kb.below hyc kb.lt
        replace ka := ka.below hyc ka.lt
        have hs1 := hX.size
        have hs2 := hXd.size
        have ho1 := hX.one
        have ho2 := hXd.one
        obtain ⟨yc, hycc⟩ : ∃ yc, y36 = yc := ⟨_, rfl⟩
        rw [hycc] at hX
        have hbc : Below yc.heap.size yc y36 := by rw [hycc]; exact Below.refl _ _
        have ub : gb < yc.heap.size := by rw [← hycc]; exact kb.lt
        have ua : ga < yc.heap.size := by rw [← hycc]; exact ka.lt
        clear hycc hXd hO hR5
        go_wp2_with fail
        refine hK.out _ _ (HKT.out _ hE36) (fun hHeld => ?_)
        clear hK K
        (try simp only [Act.put, la1, la2, la3])
        iterate 4 ((first | apply tk 7 rfl rfl (by kernel_rfl) | apply tk 8 rfl rfl (by kernel_rfl) | apply tk 9 rfl rfl (by kernel_rfl) | apply tk 10 rfl rfl (by kernel_rfl)); (case hQ => exact fun _ _ _ h => h); (case hw => rfl); (case hy => (intro w hSw; (try dsimp only at hSw); go_simp; try with_reducible rfl)); (case hS => assumption); (try simp only [Act.put, la1, la2, la3]))
        refine doH (i := 13) rfl (by kernel_rfl) (by rfl) (fun K hK => ?_)
        refine wp_store_row 37 _ _ rfl ga cs2 rfl rfl 37 zeroSt ka (iSt hs1) hs1.symm ho1 ?_
        have hF1 := row_below hE36 ga (by omega) cs2
        refine hK.out _ _ (HKT.out _ hF1) (fun hHeld => ?_)
        clear hK K
        (try simp only [Act.put])
        refine doH (i := 14) rfl (by kernel_rfl) (by rfl) (fun K hK => ?_)
        refine wp_store_row 40 _ _ rfl gb ds2 rfl rfl 40 zeroWd (Blk.setRow kb (by omega) cs2) (iWd hs2) hs2.symm ho2 ?_
        have hF2 := row_below hF1 gb (by omega) ds2
        refine hK.out _ _ (HKT.out _ hF2) (fun hHeld => ?_)
        clear hK K
        (try simp only [Act.put])
        apply tk 15 rfl rfl (by kernel_rfl); (case hQ => exact fun _ _ _ h => h); (case hw => rfl); (case hy => (intro w hSw; (try dsimp only at hSw); go_simp; try with_reducible rfl)); (case hS => assumption); (try simp only [Act.put, la1, la2, la3])
        refine wpAnyH_done (by kernel_rfl) ?_ _
        go_wp2_with fail
        go_meet
        obtain ⟨t1, t2⟩ := rise_tail (B := w8.heap.size) (gb := gb) (ds2 := ds2) hX hbc ka (by omega) (by omega) (fun q _ _ => by omega)
        exact ⟨ga, gb, cs2, 0, rfl, rfl, rfl, la, t1, t2, hF2, rfl⟩
        go_simp
        have ka : Blk (y1.alloc (.cells zeroSt 37)) y1.heap.size 37 zeroSt := Blk.new _ _ _
        have hyA := (Below.refl _ y1).alloc (Nat.le_refl _) (.cells zeroSt 37)
        have hE37 := hE1.trans (hyA.mono hE1.size)
        have la : w8.heap.size ≤ y1.heap.size := hE1.size
        replace hO := hO.below hyA
        generalize y1.alloc (.cells zeroSt 37) = y37 at *
        generalize y1.heap.size = ga at *
        clear hyA
        refine hK.out _ _ (HKT.out _ hE37) (fun hHeld => ?_)
        clear hK K
        (try simp only [Act.put, la1, la2, la3])
        refine doH2 (i := 3) (j := 12) rfl rfl (by kernel_rfl) (by rfl) (by rfl) (fun K hK => ?_) (fun K hK => ?_)
        obtain ⟨v38, y38, hr, hO9, hg⟩ := append_g2 opOk hO oa n cap HLN.out (HOA.out y37 hE37) (by simp; omega) hE37.size
        have hE38 := hE37.grown hg hE37.size (fun j hj => (World.ownsRow.lt hO j hj).1)
        replace ka := ka.grown hg (ne_row (apartT hO ka (by decide)))
        clear hO
        have hO := hO9
        clear hO9 hg
        rw [List.nil_append] at hO
        refine Lib.wp_append_run _ _ _ 22 22 rfl _ _ rfl rfl _ _ hr ?_
        clear hr
        refine hK.out _ _ (HKT.out _ hE38) (fun hHeld => ?_)
        clear hK K
        (try simp only [Act.put, la1, la2, la3])
        refine doH2 (i := 5) (j := 12) rfl rfl (by kernel_rfl) (by rfl) (by rfl) (fun K hK => ?_) (fun K hK => ?_)
        obtain ⟨v39, y39, hr, hO9, hg⟩ := append_g2 opOk hO ob m cap' HLM.out (HOB.out y38 hE38) (by rw [HLN.out]; omega) hE38.size
        have hE39 := hE38.grown hg hE38.size (fun j hj => (World.ownsRow.lt hO j hj).1)
        replace ka := ka.grown hg (ne_row (apartT hO ka (by decide)))
        clear hO
        have hO := hO9
        clear hO9 hg
        refine Lib.wp_append_run _ _ _ 22 22 rfl _ _ rfl rfl _ _ hr ?_
        clear hr
        obtain ⟨o5, c5, hv5, hR5, _⟩ := hO.form opOk
        rw [HNN.out] at hv5
        subst hv5
        refine hK.out _ _ (HKT.out _ hE39) (fun hHeld => ?_)
        clear hK K
        (try simp only [Act.put, la1, la2, la3])
        refine doH2 (i := 6) (j := 12) rfl rfl (by kernel_rfl) (by rfl) (by rfl) (fun K hK => ?_) (fun K hK => ?_)
        go_simp
        go_at_call 11
        refine (HD2.out y39 o5 c5 hR5 h30 h20 HSM.out.1 HSM.out.2).mono ?_
        rintro e y40 ⟨cs2, ds2, rfl, hX, hXd, hyc⟩
        have hvy := hE39.size
        have va : ga < y39.heap.size := ka.lt
        have hE40 : Below w8.heap.size w8 y40 := hE39.trans (hyc.mono hE39.size)
        replace ka := ka.below hyc ka.lt
        have hs1 := hX.size
        have hs2 := hXd.size
        have ho1 := hX.one
        have ho2 := hXd.one
        obtain ⟨yc, hycc⟩ : ∃ yc, y40 = yc := ⟨_, rfl⟩
        rw [hycc] at hX
        have hbc : Below yc.heap.size yc y40 := by rw [hycc]; exact Below.refl _ _
        have ua : ga < yc.heap.size := by rw [← hycc]; exact ka.lt
        clear hycc hXd hO hR5
        go_wp2_with fail
        refine hK.out _ _ (HKT.out _ hE40) (fun hHeld => ?_)
        clear hK K
        (try simp only [Act.put, la1, la2, la3])
        iterate 4 ((first | apply tk 7 rfl rfl (by kernel_rfl) | apply tk 8 rfl rfl (by kernel_rfl) | apply tk 9 rfl rfl (by kernel_rfl) | apply tk 10 rfl rfl (by kernel_rfl)); (case hQ => exact fun _ _ _ h => h); (case hw => rfl); (case hy => (intro w hSw; (try dsimp only at hSw); go_simp; try with_reducible rfl)); (case hS => assumption); (try simp only [Act.put, la1, la2, la3]))
        refine doH (i := 12) rfl (by kernel_rfl) (by rfl) (fun K hK => ?_)
        go_simp
        have kb : Blk (y40.alloc (.cells zeroWd 40)) y40.heap.size 40 zeroWd := Blk.new _ _ _
        have hyA := (Below.refl _ y40).alloc (Nat.le_refl _) (.cells zeroWd 40)
        have hE41 := hE40.trans (hyA.mono hE40.size)
        have lb : w8.heap.size ≤ y40.heap.size := hE40.size
        have dba : ga < y40.heap.size := ka.lt
        replace ka := ka.below hyA ka.lt
        have ub : yc.heap.size ≤ y40.heap.size := hbc.size
        replace hbc := hbc.trans (hyA.mono hbc.size)
        generalize y40.alloc (.cells zeroWd 40) = y41 at *
        generalize y40.heap.size = gb at *
        clear hyA
        refine hK.out _ _ (HKT.out _ hE41) (fun hHeld => ?_)
        clear hK K
        (try simp only [Act.put, la1, la2, la3])
        refine doH (i := 13) rfl (by kernel_rfl) (by rfl) (fun K hK => ?_)
        refine wp_store_row 37 _ _ rfl ga cs2 rfl rfl 37 zeroSt ka (iSt hs1) hs1.symm ho1 ?_
        have hF1 := row_below hE41 ga (by omega) cs2
        refine hK.out _ _ (HKT.out _ hF1) (fun hHeld => ?_)
        clear hK K
        (try simp only [Act.put])
        refine doH (i := 14) rfl (by kernel_rfl) (by rfl) (fun K hK => ?_)
        refine wp_store_row 40 _ _ rfl gb ds2 rfl rfl 40 zeroWd (Blk.setRow kb (by omega) cs2) (iWd hs2) hs2.symm ho2 ?_
        have hF2 := row_below hF1 gb (by omega) ds2
        refine hK.out _ _ (HKT.out _ hF2) (fun hHeld => ?_)
        clear hK K
        (try simp only [Act.put])
        apply tk 15 rfl rfl (by kernel_rfl); (case hQ => exact fun _ _ _ h => h); (case hw => rfl); (case hy => (intro w hSw; (try dsimp only at hSw); go_simp; try with_reducible rfl)); (case hS => assumption); (try simp only [Act.put, la1, la2, la3])
        refine wpAnyH_done (by kernel_rfl) ?_ _
        go_wp2_with fail
        go_meet
        obtain ⟨t1, t2⟩ := rise_tail (B := w8.heap.size) (gb := gb) (ds2 := ds2) hX hbc ka (by omega) (by omega) (fun q _ _ => by omega)
        exact ⟨ga, gb, cs2, 0, rfl, rfl, rfl, la, t1, t2, hF2, rfl⟩
        go_simp
        have kb : Blk (y39.alloc (.cells zeroWd 40)) y39.heap.size 40 zeroWd := Blk.new _ _ _
        have hyA := (Below.refl _ y39).alloc (Nat.le_refl _) (.cells zeroWd 40)
        have hE42 := hE39.trans (hyA.mono hE39.size)
        have lb : w8.heap.size ≤ y39.heap.size := hE39.size
        have dba : ga < y39.heap.size := ka.lt
        replace ka := ka.below hyA ka.lt
        replace hO := hO.below hyA
        replace hR5 := hR5.below hyA
        generalize y39.alloc (.cells zeroWd 40) = y42 at *
        generalize y39.heap.size = gb at *
        clear hyA
        refine hK.out _ _ (HKT.out _ hE42) (fun hHeld => ?_)
        clear hK K
        (try simp only [Act.put, la1, la2, la3])
        refine doH (i := 6) rfl (by kernel_rfl) (by rfl) (fun K hK => ?_)
        go_simp
        go_at_call 11
        refine (HD2.out y42 o5 c5 hR5 h30 h20 HSM.out.1 HSM.out.2).mono ?_
        rintro e y43 ⟨cs2, ds2, rfl, hX, hXd, hyc⟩
        have hvy := hE42.size
        have va : ga < y42.heap.size := ka.lt
        have vb : gb < y42.heap.size := kb.lt
        have hE43 : Below w8.heap.size w8 y43 := hE42.trans (hyc.mono hE42.size)
        replace ka := ka.below hyc ka.lt
        replace kb := kb.below hyc kb.lt
        have hs1 := hX.size
        have hs2 := hXd.size
        have ho1 := hX.one
        have ho2 := hXd.one
        obtain ⟨yc, hycc⟩ : ∃ yc, y43 = yc := ⟨_, rfl⟩
        rw [hycc] at hX
        have hbc : Below yc.heap.size yc y43 := by rw [hycc]; exact Below.refl _ _
        have ua : ga < yc.heap.size := by rw [← hycc]; exact ka.lt
        have ub : gb < yc.heap.size := by rw [← hycc]; exact kb.lt
        clear hycc hXd hO hR5
        go_wp2_with fail
        refine hK.out _ _ (HKT.out _ hE43) (fun hHeld => ?_)
        clear hK K
        (try simp only [Act.put, la1, la2, la3])
        iterate 4 ((first | apply tk 7 rfl rfl (by kernel_rfl) | apply tk 8 rfl rfl (by kernel_rfl) | apply tk 9 rfl rfl (by kernel_rfl) | apply tk 10 rfl rfl (by kernel_rfl)); (case hQ => exact fun _ _ _ h => h); (case hw => rfl); (case hy => (intro w hSw; (try dsimp only at hSw); go_simp; try with_reducible rfl)); (case hS => assumption); (try simp only [Act.put, la1, la2, la3]))
        refine doH (i := 13) rfl (by kernel_rfl) (by rfl) (fun K hK => ?_)
        refine wp_store_row 37 _ _ rfl ga cs2 rfl rfl 37 zeroSt ka (iSt hs1) hs1.symm ho1 ?_
        have hF1 := row_below hE43 ga (by omega) cs2
        refine hK.out _ _ (HKT.out _ hF1) (fun hHeld => ?_)
        clear hK K
        (try simp only [Act.put])
        refine doH (i := 14) rfl (by kernel_rfl) (by rfl) (fun K hK => ?_)
        refine wp_store_row 40 _ _ rfl gb ds2 rfl rfl 40 zeroWd (Blk.setRow kb (by omega) cs2) (iWd hs2) hs2.symm ho2 ?_
        have hF2 := row_below hF1 gb (by omega) ds2
        refine hK.out _ _ (HKT.out _ hF2) (fun hHeld => ?_)
        clear hK K
        (try simp only [Act.put])
        apply tk 15 rfl rfl (by kernel_rfl); (case hQ => exact fun _ _ _ h => h); (case hw => rfl); (case hy => (intro w hSw; (try dsimp only at hSw); go_simp; try with_reducible rfl)); (case hS => assumption); (try simp only [Act.put, la1, la2, la3])
        refine wpAnyH_done (by kernel_rfl) ?_ _
        go_wp2_with fail
        go_meet
        obtain ⟨t1, t2⟩ := rise_tail (B := w8.heap.size) (gb := gb) (ds2 := ds2) hX hbc ka (by omega) (by omega) (fun q _ _ => by omega)
        exact ⟨ga, gb, cs2, 0, rfl, rfl, rfl, la, t1, t2, hF2, rfl⟩
        go_simp
        have kb : Blk (y38.alloc (.cells zeroWd 40)) y38.heap.size 40 zeroWd := Blk.new _ _ _
        have hyA := (Below.refl _ y38).alloc (Nat.le_refl _) (.cells zeroWd 40)
        have hE44 := hE38.trans (hyA.mono hE38.size)
        have lb : w8.heap.size ≤ y38.heap.size := hE38.size
        have dba : ga < y38.heap.size := ka.lt
        replace ka := ka.below hyA ka.lt
        replace hO := hO.below hyA
        generalize y38.alloc (.cells zeroWd 40) = y44 at *
        generalize y38.heap.size = gb at *
        clear hyA
        refine hK.out _ _ (HKT.out _ hE44) (fun hHeld => ?_)
        clear hK K
        (try simp only [Act.put, la1, la2, la3])
        refine doH (i := 5) rfl (by kernel_rfl) (by rfl) (fun K hK => ?_)
        obtain ⟨v45, y45, hr, hO9, hg⟩ := append_g2 opOk hO ob m cap' HLM.out (HOB.out y44 hE44) (by rw [HLN.out]; omega) hE44.size
        have hE45 := hE44.grown hg hE44.size (fun j hj => (World.ownsRow.lt hO j hj).1)
        replace ka := ka.grown hg (ne_row (apartT hO ka (by decide)))
        replace kb := kb.grown hg (ne_row (apartT hO kb (by decide)))
        clear hO
        have hO := hO9
        clear hO9 hg
        refine Lib.wp_append_run _ _ _ 22 22 rfl _ _ rfl rfl _ _ hr ?_
        clear hr
        obtain ⟨o5, c5, hv5, hR5, _⟩ := hO.form opOk
        rw [HNN.out] at hv5
        subst hv5
        refine hK.out _ _ (HKT.out _ hE45) (fun hHeld => ?_)
        clear hK K
        (try simp only [Act.put, la1, la2, la3])
        refine doH (i := 6) rfl (by kernel_rfl) (by rfl) (fun K hK => ?_)
        go_simp
        go_at_call 11
        refine (HD2.out y45 o5 c5 hR5 h30 h20 HSM.out.1 HSM.out.2).mono ?_
        rintro e y46 ⟨cs2, ds2, rfl, hX, hXd, hyc⟩
        have hvy := hE45.size
        have va : ga < y45.heap.size := ka.lt
        have vb : gb < y45.heap.size := kb.lt
        have hE46 : Below w8.heap.size w8 y46 := hE45.trans (hyc.mono hE45.size)
        replace ka := ka.below hyc ka.lt
        replace kb := kb.below hyc kb.lt
        have hs1 := hX.size
        have hs2 := hXd.size
        have ho1 := hX.one
        have ho2 := hXd.one
        obtain ⟨yc, hycc⟩ : ∃ yc, y46 = yc := ⟨_, rfl⟩
        rw [hycc] at hX
        have hbc : Below yc.heap.size yc y46 := by rw [hycc]; exact Below.refl _ _
        have ua : ga < yc.heap.size := by rw [← hycc]; exact ka.lt
        have ub : gb < yc.heap.size := by rw [← hycc]; exact kb.lt
        clear hycc hXd hO hR5
        go_wp2_with fail
        refine hK.out _ _ (HKT.out _ hE46) (fun hHeld => ?_)
        clear hK K
        (try simp only [Act.put, la1, la2, la3])
        iterate 4 ((first | apply tk 7 rfl rfl (by kernel_rfl) | apply tk 8 rfl rfl (by kernel_rfl) | apply tk 9 rfl rfl (by kernel_rfl) | apply tk 10 rfl rfl (by kernel_rfl)); (case hQ => exact fun _ _ _ h => h); (case hw => rfl); (case hy => (intro w hSw; (try dsimp only at hSw); go_simp; try with_reducible rfl)); (case hS => assumption); (try simp only [Act.put, la1, la2, la3]))
        refine doH (i := 13) rfl (by kernel_rfl) (by rfl) (fun K hK => ?_)
        refine wp_store_row 37 _ _ rfl ga cs2 rfl rfl 37 zeroSt ka (iSt hs1) hs1.symm ho1 ?_
        have hF1 := row_below hE46 ga (by omega) cs2
        refine hK.out _ _ (HKT.out _ hF1) (fun hHeld => ?_)
        clear hK K
        (try simp only [Act.put])
        refine doH (i := 14) rfl (by kernel_rfl) (by rfl) (fun K hK => ?_)
        refine wp_store_row 40 _ _ rfl gb ds2 rfl rfl 40 zeroWd (Blk.setRow kb (by omega) cs2) (iWd hs2) hs2.symm ho2 ?_
        have hF2 := row_below hF1 gb (by omega) ds2
        refine hK.out _ _ (HKT.out _ hF2) (fun hHeld => ?_)
        clear hK K
        (try simp only [Act.put])
        apply tk 15 rfl rfl (by kernel_rfl); (case hQ => exact fun _ _ _ h => h); (case hw => rfl); (case hy => (intro w hSw; (try dsimp only at hSw); go_simp; try with_reducible rfl)); (case hS => assumption); (try simp only [Act.put, la1, la2, la3])
        refine wpAnyH_done (by kernel_rfl) ?_ _
        go_wp2_with fail
        go_meet
        obtain ⟨t1, t2⟩ := rise_tail (B := w8.heap.size) (gb := gb) (ds2 := ds2) hX hbc ka (by omega) (by omega) (fun q _ _ => by omega)
        exact ⟨ga, gb, cs2, 0, rfl, rfl, rfl, la, t1, t2, hF2, rfl⟩
        go_simp
        have kb : Blk (y37.alloc (.cells zeroWd 40)) y37.heap.size 40 zeroWd := Blk.new _ _ _
        have hyA := (Below.refl _ y37).alloc (Nat.le_refl _) (.cells zeroWd 40)
        have hE47 := hE37.trans (hyA.mono hE37.size)
        have lb : w8.heap.size ≤ y37.heap.size := hE37.size
        have dba : ga < y37.heap.size := ka.lt
        replace ka := ka.below hyA ka.lt
        replace hO := hO.below hyA
        generalize y37.alloc (.cells zeroWd 40) = y47 at *
        generalize y37.heap.size = gb at *
        clear hyA
        refine hK.out _ _ (HKT.out _ hE47) (fun hHeld => ?_)
        clear hK K
        (try simp only [Act.put, la1, la2, la3])
        refine doH (i := 3) rfl (by kernel_rfl) (by rfl) (fun K hK => ?_)
        obtain ⟨v48, y48, hr, hO9, hg⟩ := append_g2 opOk hO oa n cap HLN.out (HOA.out y47 hE47) (by simp; omega) hE47.size
        have hE48 := hE47.grown hg hE47.size (fun j hj => (World.ownsRow.lt hO j hj).1)
        replace ka := ka.grown hg (ne_row (apartT hO ka (by decide)))
        replace kb := kb.grown hg (ne_row (apartT hO kb (by decide)))
        clear hO
        have hO := hO9
        clear hO9 hg
        rw [List.nil_append] at hO
        refine Lib.wp_append_run _ _ _ 22 22 rfl _ _ rfl rfl _ _ hr ?_
        clear hr
        refine hK.out _ _ (HKT.out _ hE48) (fun hHeld => ?_)
        clear hK K
        (try simp only [Act.put, la1, la2, la3])
        refine doH (i := 5) rfl (by kernel_rfl) (by rfl) (fun K hK => ?_)
        obtain ⟨v49, y49, hr, hO9, hg⟩ := append_g2 opOk hO ob m cap' HLM.out (HOB.out y48 hE48) (by rw [HLN.out]; omega) hE48.size
        have hE49 := hE48.grown hg hE48.size (fun j hj => (World.ownsRow.lt hO j hj).1)
        replace ka := ka.grown hg (ne_row (apartT hO ka (by decide)))
        replace kb := kb.grown hg (ne_row (apartT hO kb (by decide)))
        clear hO
        have hO := hO9
        clear hO9 hg
        refine Lib.wp_append_run _ _ _ 22 22 rfl _ _ rfl rfl _ _ hr ?_
        clear hr
        obtain ⟨o5, c5, hv5, hR5, _⟩ := hO.form opOk
        rw [HNN.out] at hv5
        subst hv5
        refine hK.out _ _ (HKT.out _ hE49) (fun hHeld => ?_)
        clear hK K
        (try simp only [Act.put, la1, la2, la3])
        refine doH (i := 6) rfl (by kernel_rfl) (by rfl) (fun K hK => ?_)
        go_simp
        go_at_call 11
        refine (HD2.out y49 o5 c5 hR5 h30 h20 HSM.out.1 HSM.out.2).mono ?_
        rintro e y50 ⟨cs2, ds2, rfl, hX, hXd, hyc⟩
        have hvy := hE49.size
        have va : ga < y49.heap.size := ka.lt
        have vb : gb < y49.heap.size := kb.lt
        have hE50 : Below w8.heap.size w8 y50 := hE49.trans (hyc.mono hE49.size)
        replace ka := ka.below hyc ka.lt
        replace kb := kb.below hyc kb.lt
        have hs1 := hX.size
        have hs2 := hXd.size
        have ho1 := hX.one
        have ho2 := hXd.one
        obtain ⟨yc, hycc⟩ : ∃ yc, y50 = yc := ⟨_, rfl⟩
        rw [hycc] at hX
        have hbc : Below yc.heap.size yc y50 := by rw [hycc]; exact Below.refl _ _
        have ua : ga < yc.heap.size := by rw [← hycc]; exact ka.lt
        have ub : gb < yc.heap.size := by rw [← hycc]; exact kb.lt
        clear hycc hXd hO hR5
        go_wp2_with fail
        refine hK.out _ _ (HKT.out _ hE50) (fun hHeld => ?_)
        clear hK K
        (try simp only [Act.put, la1, la2, la3])
        iterate 4 ((first | apply tk 7 rfl rfl (by kernel_rfl) | apply tk 8 rfl rfl (by kernel_rfl) | apply tk 9 rfl rfl (by kernel_rfl) | apply tk 10 rfl rfl (by kernel_rfl)); (case hQ => exact fun _ _ _ h => h); (case hw => rfl); (case hy => (intro w hSw; (try dsimp only at hSw); go_simp; try with_reducible rfl)); (case hS => assumption); (try simp only [Act.put, la1, la2, la3]))
        refine doH (i := 13) rfl (by kernel_rfl) (by rfl) (fun K hK => ?_)
        refine wp_store_row 37 _ _ rfl ga cs2 rfl rfl 37 zeroSt ka (iSt hs1) hs1.symm ho1 ?_
        have hF1 := row_below hE50 ga (by omega) cs2
        refine hK.out _ _ (HKT.out _ hF1) (fun hHeld => ?_)
        clear hK K
        (try simp only [Act.put])
        refine doH (i := 14) rfl (by kernel_rfl) (by rfl) (fun K hK => ?_)
        refine wp_store_row 40 _ _ rfl gb ds2 rfl rfl 40 zeroWd (Blk.setRow kb (by omega) cs2) (iWd hs2) hs2.symm ho2 ?_
        have hF2 := row_below hF1 gb (by omega) ds2
        refine hK.out _ _ (HKT.out _ hF2) (fun hHeld => ?_)
        clear hK K
        (try simp only [Act.put])
        apply tk 15 rfl rfl (by kernel_rfl); (case hQ => exact fun _ _ _ h => h); (case hw => rfl); (case hy => (intro w hSw; (try dsimp only at hSw); go_simp; try with_reducible rfl)); (case hS => assumption); (try simp only [Act.put, la1, la2, la3])
        refine wpAnyH_done (by kernel_rfl) ?_ _
        go_wp2_with fail
        go_meet
        obtain ⟨t1, t2⟩ := rise_tail (B := w8.heap.size) (gb := gb) (ds2 := ds2) hX hbc ka (by omega) (by omega) (fun q _ _ => by omega)
        exact ⟨ga, gb, cs2, 0, rfl, rfl, rfl, la, t1, t2, hF2, rfl⟩
        go_simp
        have kb : Blk (y1.alloc (.cells zeroWd 40)) y1.heap.size 40 zeroWd := Blk.new _ _ _
        have hyA := (Below.refl _ y1).alloc (Nat.le_refl _) (.cells zeroWd 40)
        have hE51 := hE1.trans (hyA.mono hE1.size)
        have lb : w8.heap.size ≤ y1.heap.size := hE1.size
        replace hO := hO.below hyA
        generalize y1.alloc (.cells zeroWd 40) = y51 at *
        generalize y1.heap.size = gb at *
        clear hyA
        refine hK.out _ _ (HKT.out _ hE51) (fun hHeld => ?_)
        clear hK K
        (try simp only [Act.put, la1, la2, la3])
        refine doH2 (i := 3) (j := 11) rfl rfl (by kernel_rfl) (by rfl) (by rfl) (fun K hK => ?_) (fun K hK => ?_)
        obtain ⟨v52, y52, hr, hO9, hg⟩ := append_g2 opOk hO oa n cap HLN.out (HOA.out y51 hE51) (by simp; omega) hE51.size
        have hE52 := hE51.grown hg hE51.size (fun j hj => (World.ownsRow.lt hO j hj).1)
        replace kb := kb.grown hg (ne_row (apartT hO kb (by decide)))
        clear hO
        have hO := hO9
        clear hO9 hg
        rw [List.nil_append] at hO
        refine Lib.wp_append_run _ _ _ 22 22 rfl _ _ rfl rfl _ _ hr ?_
        clear hr
        refine hK.out _ _ (HKT.out _ hE52) (fun hHeld => ?_)
        clear hK K
        (try simp only [Act.put, la1, la2, la3])
        refine doH2 (i := 5) (j := 11) rfl rfl (by kernel_rfl) (by rfl) (by rfl) (fun K hK => ?_) (fun K hK => ?_)
        obtain ⟨v53, y53, hr, hO9, hg⟩ := append_g2 opOk hO ob m cap' HLM.out (HOB.out y52 hE52) (by rw [HLN.out]; omega) hE52.size
        have hE53 := hE52.grown hg hE52.size (fun j hj => (World.ownsRow.lt hO j hj).1)
        replace kb := kb.grown hg (ne_row (apartT hO kb (by decide)))
        clear hO
        have hO := hO9
        clear hO9 hg
        refine Lib.wp_append_run _ _ _ 22 22 rfl _ _ rfl rfl _ _ hr ?_
        clear hr
        obtain ⟨o5, c5, hv5, hR5, _⟩ := hO.form opOk
        rw [HNN.out] at hv5
        subst hv5
        refine hK.out _ _ (HKT.out _ hE53) (fun hHeld => ?_)
        clear hK K
        (try simp only [Act.put, la1, la2, la3])
        refine doH2 (i := 6) (j := 11) rfl rfl (by kernel_rfl) (by rfl) (by rfl) (fun K hK => ?_) (fun K hK => ?_)
        go_simp
        go_at_call 11
        refine (HD2.out y53 o5 c5 hR5 h30 h20 HSM.out.1 HSM.out.2).mono ?_
        rintro e y54 ⟨cs2, ds2, rfl, hX, hXd, hyc⟩
        have hvy := hE53.size
        have vb : gb < y53.heap.size := kb.lt
        have hE54 : Below w8.heap.size w8 y54 := hE53.trans (hyc.mono hE53.size)
        replace kb := kb.below hyc kb.lt
        have hs1 := hX.size
        have hs2 := hXd.size
        have ho1 := hX.one
        have ho2 := hXd.one
        obtain ⟨yc, hycc⟩ : ∃ yc, y54 = yc := ⟨_, rfl⟩
        rw [hycc] at hX
        have hbc : Below yc.heap.size yc y54 := by rw [hycc]; exact Below.refl _ _
        have ub : gb < yc.heap.size := by rw [← hycc]; exact kb.lt
        clear hycc hXd hO hR5
        go_wp2_with fail
        refine hK.out _ _ (HKT.out _ hE54) (fun hHeld => ?_)
        clear hK K
        (try simp only [Act.put, la1, la2, la3])
        iterate 4 ((first | apply tk 7 rfl rfl (by kernel_rfl) | apply tk 8 rfl rfl (by kernel_rfl) | apply tk 9 rfl rfl (by kernel_rfl) | apply tk 10 rfl rfl (by kernel_rfl)); (case hQ => exact fun _ _ _ h => h); (case hw => rfl); (case hy => (intro w hSw; (try dsimp only at hSw); go_simp; try with_reducible rfl)); (case hS => assumption); (try simp only [Act.put, la1, la2, la3]))
        refine doH (i := 11) rfl (by kernel_rfl) (by rfl) (fun K hK => ?_)
        go_simp
        have ka : Blk (y54.alloc (.cells zeroSt 37)) y54.heap.size 37 zeroSt := Blk.new _ _ _
        have hyA := (Below.refl _ y54).alloc (Nat.le_refl _) (.cells zeroSt 37)
        have hE55 := hE54.trans (hyA.mono hE54.size)
        have la : w8.heap.size ≤ y54.heap.size := hE54.size
        have dab : gb < y54.heap.size := kb.lt
        replace kb := kb.below hyA kb.lt
        have ua : yc.heap.size ≤ y54.heap.size := hbc.size
        replace hbc := hbc.trans (hyA.mono hbc.size)
        generalize y54.alloc (.cells zeroSt 37) = y55 at *
        generalize y54.heap.size = ga at *
        clear hyA
        refine hK.out _ _ (HKT.out _ hE55) (fun hHeld => ?_)
        clear hK K
        (try simp only [Act.put, la1, la2, la3])
        refine doH (i := 13) rfl (by kernel_rfl) (by rfl) (fun K hK => ?_)
        refine wp_store_row 37 _ _ rfl ga cs2 rfl rfl 37 zeroSt ka (iSt hs1) hs1.symm ho1 ?_
        have hF1 := row_below hE55 ga (by omega) cs2
        refine hK.out _ _ (HKT.out _ hF1) (fun hHeld => ?_)
        clear hK K
        (try simp only [Act.put])
        refine doH (i := 14) rfl (by kernel_rfl) (by rfl) (fun K hK => ?_)
        refine wp_store_row 40 _ _ rfl gb ds2 rfl rfl 40 zeroWd (Blk.setRow kb (by omega) cs2) (iWd hs2) hs2.symm ho2 ?_
        have hF2 := row_below hF1 gb (by omega) ds2
        refine hK.out _ _ (HKT.out _ hF2) (fun hHeld => ?_)
        clear hK K
        (try simp only [Act.put])
        apply tk 15 rfl rfl (by kernel_rfl); (case hQ => exact fun _ _ _ h => h); (case hw => rfl); (case hy => (intro w hSw; (try dsimp only at hSw); go_simp; try with_reducible rfl)); (case hS => assumption); (try simp only [Act.put, la1, la2, la3])
        refine wpAnyH_done (by kernel_rfl) ?_ _
        go_wp2_with fail
        go_meet
        obtain ⟨t1, t2⟩ := rise_tail (B := w8.heap.size) (gb := gb) (ds2 := ds2) hX hbc ka (by omega) (by omega) (fun q _ _ => by omega)
        exact ⟨ga, gb, cs2, 0, rfl, rfl, rfl, la, t1, t2, hF2, rfl⟩
        go_simp
        have ka : Blk (y53.alloc (.cells zeroSt 37)) y53.heap.size 37 zeroSt := Blk.new _ _ _
        have hyA := (Below.refl _ y53).alloc (Nat.le_refl _) (.cells zeroSt 37)
        have hE56 := hE53.trans (hyA.mono hE53.size)
        have la : w8.heap.size ≤ y53.heap.size := hE53.size
        have dab : gb < y53.heap.size := kb.lt
        replace kb := kb.below hyA kb.lt
        replace hO := hO.below hyA
        replace hR5 := hR5.below hyA
        generalize y53.alloc (.cells zeroSt 37) = y56 at *
        generalize y53.heap.size = ga at *
        clear hyA
        refine hK.out _ _ (HKT.out _ hE56) (fun hHeld => ?_)
        clear hK K
        (try simp only [Act.put, la1, la2, la3])
        refine doH (i := 6) rfl (by kernel_rfl) (by rfl) (fun K hK => ?_)
        go_simp
        go_at_call 11
        refine (HD2.out y56 o5 c5 hR5 h30 h20 HSM.out.1 HSM.out.2).mono ?_
        rintro e y57 ⟨cs2, ds2, rfl, hX, hXd, hyc⟩
        have hvy := hE56.size
        have vb : gb < y56.heap.size := kb.lt
        have va : ga < y56.heap.size := ka.lt
        have hE57 : Below w8.heap.size w8 y57 := hE56.trans (hyc.mono hE56.size)
        replace kb := kb.below hyc kb.lt
        replace ka := ka.below hyc ka.lt
        have hs1 := hX.size
        have hs2 := hXd.size
        have ho1 := hX.one
        have ho2 := hXd.one
        obtain ⟨yc, hycc⟩ : ∃ yc, y57 = yc := ⟨_, rfl⟩
        rw [hycc] at hX
        have hbc : Below yc.heap.size yc y57 := by rw [hycc]; exact Below.refl _ _
        have ub : gb < yc.heap.size := by rw [← hycc]; exact kb.lt
        have ua : ga < yc.heap.size := by rw [← hycc]; exact ka.lt
        clear hycc hXd hO hR5
        go_wp2_with fail
        refine hK.out _ _ (HKT.out _ hE57) (fun hHeld => ?_)
        clear hK K
        (try simp only [Act.put, la1, la2, la3])
        iterate 4 ((first | apply tk 7 rfl rfl (by kernel_rfl) | apply tk 8 rfl rfl (by kernel_rfl) | apply tk 9 rfl rfl (by kernel_rfl) | apply tk 10 rfl rfl (by kernel_rfl)); (case hQ => exact fun _ _ _ h => h); (case hw => rfl); (case hy => (intro w hSw; (try dsimp only at hSw); go_simp; try with_reducible rfl)); (case hS => assumption); (try simp only [Act.put, la1, la2, la3]))
        refine doH (i := 13) rfl (by kernel_rfl) (by rfl) (fun K hK => ?_)
        refine wp_store_row 37 _ _ rfl ga cs2 rfl rfl 37 zeroSt ka (iSt hs1) hs1.symm ho1 ?_
        have hF1 := row_below hE57 ga (by omega) cs2
        refine hK.out _ _ (HKT.out _ hF1) (fun hHeld => ?_)
        clear hK K
        (try simp only [Act.put])
        refine doH (i := 14) rfl (by kernel_rfl) (by rfl) (fun K hK => ?_)
        refine wp_store_row 40 _ _ rfl gb ds2 rfl rfl 40 zeroWd (Blk.setRow kb (by omega) cs2) (iWd hs2) hs2.symm ho2 ?_
        have hF2 := row_below hF1 gb (by omega) ds2
        refine hK.out _ _ (HKT.out _ hF2) (fun hHeld => ?_)
        clear hK K
        (try simp only [Act.put])
        apply tk 15 rfl rfl (by kernel_rfl); (case hQ => exact fun _ _ _ h => h); (case hw => rfl); (case hy => (intro w hSw; (try dsimp only at hSw); go_simp; try with_reducible rfl)); (case hS => assumption); (try simp only [Act.put, la1, la2, la3])
        refine wpAnyH_done (by kernel_rfl) ?_ _
        go_wp2_with fail
        go_meet
        obtain ⟨t1, t2⟩ := rise_tail (B := w8.heap.size) (gb := gb) (ds2 := ds2) hX hbc ka (by omega) (by omega) (fun q _ _ => by omega)
        exact ⟨ga, gb, cs2, 0, rfl, rfl, rfl, la, t1, t2, hF2, rfl⟩
        go_simp
        have ka : Blk (y52.alloc (.cells zeroSt 37)) y52.heap.size 37 zeroSt := Blk.new _ _ _
        have hyA := (Below.refl _ y52).alloc (Nat.le_refl _) (.cells zeroSt 37)
        have hE58 := hE52.trans (hyA.mono hE52.size)
        have la : w8.heap.size ≤ y52.heap.size := hE52.size
        have dab : gb < y52.heap.size := kb.lt
        replace kb := kb.below hyA kb.lt
        replace hO := hO.below hyA
        generalize y52.alloc (.cells zeroSt 37) = y58 at *
        generalize y52.heap.size = ga at *
        clear hyA
        refine hK.out _ _ (HKT.out _ hE58) (fun hHeld => ?_)
        clear hK K
        (try simp only [Act.put, la1, la2, la3])
        refine doH (i := 5) rfl (by kernel_rfl) (by rfl) (fun K hK => ?_)
        obtain ⟨v59, y59, hr, hO9, hg⟩ := append_g2 opOk hO ob m cap' HLM.out (HOB.out y58 hE58) (by rw [HLN.out]; omega) hE58.size
        have hE59 := hE58.grown hg hE58.size (fun j hj => (World.ownsRow.lt hO j hj).1)
        replace kb := kb.grown hg (ne_row (apartT hO kb (by decide)))
        replace ka := ka.grown hg (ne_row (apartT hO ka (by decide)))
        clear hO
        have hO := hO9
        clear hO9 hg
        refine Lib.wp_append_run _ _ _ 22 22 rfl _ _ rfl rfl _ _ hr ?_
        clear hr
        obtain ⟨o5, c5, hv5, hR5, _⟩ := hO.form opOk
        rw [HNN.out] at hv5
        subst hv5
        refine hK.out _ _ (HKT.out _ hE59) (fun hHeld => ?_)
        clear hK K
        (try simp only [Act.put, la1, la2, la3])
        refine doH (i := 6) rfl (by kernel_rfl) (by rfl) (fun K hK => ?_)
        go_simp
        go_at_call 11
        refine (HD2.out y59 o5 c5 hR5 h30 h20 HSM.out.1 HSM.out.2).mono ?_
        rintro e y60 ⟨cs2, ds2, rfl, hX, hXd, hyc⟩
        have hvy := hE59.size
        have vb : gb < y59.heap.size := kb.lt
        have va : ga < y59.heap.size := ka.lt
        have hE60 : Below w8.heap.size w8 y60 := hE59.trans (hyc.mono hE59.size)
        replace kb := kb.below hyc kb.lt
        replace ka := ka.below hyc ka.lt
        have hs1 := hX.size
        have hs2 := hXd.size
        have ho1 := hX.one
        have ho2 := hXd.one
        obtain ⟨yc, hycc⟩ : ∃ yc, y60 = yc := ⟨_, rfl⟩
        rw [hycc] at hX
        have hbc : Below yc.heap.size yc y60 := by rw [hycc]; exact Below.refl _ _
        have ub : gb < yc.heap.size := by rw [← hycc]; exact kb.lt
        have ua : ga < yc.heap.size := by rw [← hycc]; exact ka.lt
        clear hycc hXd hO hR5
        go_wp2_with fail
        refine hK.out _ _ (HKT.out _ hE60) (fun hHeld => ?_)
        clear hK K
        (try simp only [Act.put, la1, la2, la3])
        iterate 4 ((first | apply tk 7 rfl rfl (by kernel_rfl) | apply tk 8 rfl rfl (by kernel_rfl) | apply tk 9 rfl rfl (by kernel_rfl) | apply tk 10 rfl rfl (by kernel_rfl)); (case hQ => exact fun _ _ _ h => h); (case hw => rfl); (case hy => (intro w hSw; (try dsimp only at hSw); go_simp; try with_reducible rfl)); (case hS => assumption); (try simp only [Act.put, la1, la2, la3]))
        refine doH (i := 13) rfl (by kernel_rfl) (by rfl) (fun K hK => ?_)
        refine wp_store_row 37 _ _ rfl ga cs2 rfl rfl 37 zeroSt ka (iSt hs1) hs1.symm ho1 ?_
        have hF1 := row_below hE60 ga (by omega) cs2
        refine hK.out _ _ (HKT.out _ hF1) (fun hHeld => ?_)
        clear hK K
        (try simp only [Act.put])
        refine doH (i := 14) rfl (by kernel_rfl) (by rfl) (fun K hK => ?_)
        refine wp_store_row 40 _ _ rfl gb ds2 rfl rfl 40 zeroWd (Blk.setRow kb (by omega) cs2) (iWd hs2) hs2.symm ho2 ?_
        have hF2 := row_below hF1 gb (by omega) ds2
        refine hK.out _ _ (HKT.out _ hF2) (fun hHeld => ?_)
        clear hK K
        (try simp only [Act.put])
        apply tk 15 rfl rfl (by kernel_rfl); (case hQ => exact fun _ _ _ h => h); (case hw => rfl); (case hy => (intro w hSw; (try dsimp only at hSw); go_simp; try with_reducible rfl)); (case hS => assumption); (try simp only [Act.put, la1, la2, la3])
        refine wpAnyH_done (by kernel_rfl) ?_ _
        go_wp2_with fail
        go_meet
        obtain ⟨t1, t2⟩ := rise_tail (B := w8.heap.size) (gb := gb) (ds2 := ds2) hX hbc ka (by omega) (by omega) (fun q _ _ => by omega)
        exact ⟨ga, gb, cs2, 0, rfl, rfl, rfl, la, t1, t2, hF2, rfl⟩
        go_simp
        have ka : Blk (y51.alloc (.cells zeroSt 37)) y51.heap.size 37 zeroSt := Blk.new _ _ _
        have hyA := (Below.refl _ y51).alloc (Nat.le_refl _) (.cells zeroSt 37)
        have hE61 := hE51.trans (hyA.mono hE51.size)
        have la : w8.heap.size ≤ y51.heap.size := hE51.size
        have dab : gb < y51.heap.size := kb.lt
        replace kb := kb.below hyA kb.lt
        replace hO := hO.below hyA
        generalize y51.alloc (.cells zeroSt 37) = y61 at *
        generalize y51.heap.size = ga at *
        clear hyA
        refine hK.out _ _ (HKT.out _ hE61) (fun hHeld => ?_)
        clear hK K
        (try simp only [Act.put, la1, la2, la3])
        refine doH (i := 3) rfl (by kernel_rfl) (by rfl) (fun K hK => ?_)
        obtain ⟨v62, y62, hr, hO9, hg⟩ := append_g2 opOk hO oa n cap HLN.out (HOA.out y61 hE61) (by simp; omega) hE61.size
        have hE62 := hE61.grown hg hE61.size (fun j hj => (World.ownsRow.lt hO j hj).1)
        replace kb := kb.grown hg (ne_row (apartT hO kb (by decide)))
        replace ka := ka.grown hg (ne_row (apartT hO ka (by decide)))
        clear hO
        have hO := hO9
        clear hO9 hg
        rw [List.nil_append] at hO
        refine Lib.wp_append_run _ _ _ 22 22 rfl _ _ rfl rfl _ _ hr ?_
        clear hr
        refine hK.out _ _ (HKT.out _ hE62) (fun hHeld => ?_)
        clear hK K
        (try simp only [Act.put, la1, la2, la3])
        refine doH (i := 5) rfl (by kernel_rfl) (by rfl) (fun K hK => ?_)
        obtain ⟨v63, y63, hr, hO9, hg⟩ := append_g2 opOk hO ob m cap' HLM.out (HOB.out y62 hE62) (by rw [HLN.out]; omega) hE62.size
        have hE63 := hE62.grown hg hE62.size (fun j hj => (World.ownsRow.lt hO j hj).1)
        replace kb := kb.grown hg (ne_row (apartT hO kb (by decide)))
        replace ka := ka.grown hg (ne_row (apartT hO ka (by decide)))
        clear hO
        have hO := hO9
        clear hO9 hg
        refine Lib.wp_append_run _ _ _ 22 22 rfl _ _ rfl rfl _ _ hr ?_
        clear hr
        obtain ⟨o5, c5, hv5, hR5, _⟩ := hO.form opOk
        rw [HNN.out] at hv5
        subst hv5
        refine hK.out _ _ (HKT.out _ hE63) (fun hHeld => ?_)
        clear hK K
        (try simp only [Act.put, la1, la2, la3])
        refine doH (i := 6) rfl (by kernel_rfl) (by rfl) (fun K hK => ?_)
        go_simp
        go_at_call 11
        refine (HD2.out y63 o5 c5 hR5 h30 h20 HSM.out.1 HSM.out.2).mono ?_
        rintro e y64 ⟨cs2, ds2, rfl, hX, hXd, hyc⟩
        have hvy := hE63.size
        have vb : gb < y63.heap.size := kb.lt
        have va : ga < y63.heap.size := ka.lt
        have hE64 : Below w8.heap.size w8 y64 := hE63.trans (hyc.mono hE63.size)
        replace kb := kb.below hyc kb.lt
        replace ka := ka.below hyc ka.lt
        have hs1 := hX.size
        have hs2 := hXd.size
        have ho1 := hX.one
        have ho2 := hXd.one
        obtain ⟨yc, hycc⟩ : ∃ yc, y64 = yc := ⟨_, rfl⟩
        rw [hycc] at hX
        have hbc : Below yc.heap.size yc y64 := by rw [hycc]; exact Below.refl _ _
        have ub : gb < yc.heap.size := by rw [← hycc]; exact kb.lt
        have ua : ga < yc.heap.size := by rw [← hycc]; exact ka.lt
        clear hycc hXd hO hR5
        go_wp2_with fail
        refine hK.out _ _ (HKT.out _ hE64) (fun hHeld => ?_)
        clear hK K
        (try simp only [Act.put, la1, la2, la3])
        iterate 4 ((first | apply tk 7 rfl rfl (by kernel_rfl) | apply tk 8 rfl rfl (by kernel_rfl) | apply tk 9 rfl rfl (by kernel_rfl) | apply tk 10 rfl rfl (by kernel_rfl)); (case hQ => exact fun _ _ _ h => h); (case hw => rfl); (case hy => (intro w hSw; (try dsimp only at hSw); go_simp; try with_reducible rfl)); (case hS => assumption); (try simp only [Act.put, la1, la2, la3]))
        refine doH (i := 13) rfl (by kernel_rfl) (by rfl) (fun K hK => ?_)
        refine wp_store_row 37 _ _ rfl ga cs2 rfl rfl 37 zeroSt ka (iSt hs1) hs1.symm ho1 ?_
        have hF1 := row_below hE64 ga (by omega) cs2
        refine hK.out _ _ (HKT.out _ hF1) (fun hHeld => ?_)
        clear hK K
        (try simp only [Act.put])
        refine doH (i := 14) rfl (by kernel_rfl) (by rfl) (fun K hK => ?_)
        refine wp_store_row 40 _ _ rfl gb ds2 rfl rfl 40 zeroWd (Blk.setRow kb (by omega) cs2) (iWd hs2) hs2.symm ho2 ?_
        have hF2 := row_below hF1 gb (by omega) ds2
        refine hK.out _ _ (HKT.out _ hF2) (fun hHeld => ?_)
        clear hK K
        (try simp only [Act.put])
        apply tk 15 rfl rfl (by kernel_rfl); (case hQ => exact fun _ _ _ h => h); (case hw => rfl); (case hy => (intro w hSw; (try dsimp only at hSw); go_simp; try with_reducible rfl)); (case hS => assumption); (try simp only [Act.put, la1, la2, la3])
        refine wpAnyH_done (by kernel_rfl) ?_ _
        go_wp2_with fail
        go_meet
        obtain ⟨t1, t2⟩ := rise_tail (B := w8.heap.size) (gb := gb) (ds2 := ds2) hX hbc ka (by omega) (by omega) (fun q _ _ => by omega)
        exact ⟨ga, gb, cs2, 0, rfl, rfl, rfl, la, t1, t2, hF2, rfl⟩
        go_simp
        have ka : Blk (y0.alloc (.cells zeroSt 37)) y0.heap.size 37 zeroSt := Blk.new _ _ _
        have hyA := (Below.refl _ y0).alloc (Nat.le_refl _) (.cells zeroSt 37)
        have hE65 := hE0.trans (hyA.mono hE0.size)
        have la : w8.heap.size ≤ y0.heap.size := hE0.size
        generalize y0.alloc (.cells zeroSt 37) = y65 at *
        generalize y0.heap.size = ga at *
        clear hyA
        refine hK.out _ _ (HKT.out _ hE65) (fun hHeld => ?_)
        clear hK K
        (try simp only [Act.put, la1, la2, la3])
        refine doH2 (i := 1) (j := 12) rfl rfl (by kernel_rfl) (by rfl) (by rfl) (fun K hK => ?_) (fun K hK => ?_)
        go_simp
        have hO := ownG_lit opOk y65 w8.heap.size hE65.size
        have hyA := (Below.refl _ y65).alloc (Nat.le_refl _) (.cells #[] 73)
        have hE66 := hE65.trans (hyA.mono hE65.size)
        change OwnG _ (y65.alloc (.cells #[] 73)) _ _ _ at hO
        replace ka := ka.below hyA ka.lt
        generalize y65.alloc (.cells #[] 73) = y66 at *
        generalize y65.heap.size = b0 at *
        clear hyA
        refine hK.out _ _ (HKT.out _ hE66) (fun hHeld => ?_)
        clear hK K
        (try simp only [Act.put, la1, la2, la3])
        refine doH2 (i := 3) (j := 12) rfl rfl (by kernel_rfl) (by rfl) (by rfl) (fun K hK => ?_) (fun K hK => ?_)
        obtain ⟨v67, y67, hr, hO9, hg⟩ := append_g2 opOk hO oa n cap HLN.out (HOA.out y66 hE66) (by simp; omega) hE66.size
        have hE67 := hE66.grown hg hE66.size (fun j hj => (World.ownsRow.lt hO j hj).1)
        replace ka := ka.grown hg (ne_row (apartT hO ka (by decide)))
        clear hO
        have hO := hO9
        clear hO9 hg
        rw [List.nil_append] at hO
        refine Lib.wp_append_run _ _ _ 22 22 rfl _ _ rfl rfl _ _ hr ?_
        clear hr
        refine hK.out _ _ (HKT.out _ hE67) (fun hHeld => ?_)
        clear hK K
        (try simp only [Act.put, la1, la2, la3])
        refine doH2 (i := 5) (j := 12) rfl rfl (by kernel_rfl) (by rfl) (by rfl) (fun K hK => ?_) (fun K hK => ?_)
        obtain ⟨v68, y68, hr, hO9, hg⟩ := append_g2 opOk hO ob m cap' HLM.out (HOB.out y67 hE67) (by rw [HLN.out]; omega) hE67.size
        have hE68 := hE67.grown hg hE67.size (fun j hj => (World.ownsRow.lt hO j hj).1)
        replace ka := ka.grown hg (ne_row (apartT hO ka (by decide)))
        clear hO
        have hO := hO9
        clear hO9 hg
        refine Lib.wp_append_run _ _ _ 22 22 rfl _ _ rfl rfl _ _ hr ?_
        clear hr
        obtain ⟨o5, c5, hv5, hR5, _⟩ := hO.form opOk
        rw [HNN.out] at hv5
        subst hv5
        refine hK.out _ _ (HKT.out _ hE68) (fun hHeld => ?_)
        clear hK K
        (try simp only [Act.put, la1, la2, la3])
        refine doH2 (i := 6) (j := 12) rfl rfl (by kernel_rfl) (by rfl) (by rfl) (fun K hK => ?_) (fun K hK => ?_)
        go_simp
        go_at_call 11
        refine (HD2.out y68 o5 c5 hR5 h30 h20 HSM.out.1 HSM.out.2).mono ?_
        rintro e y69 ⟨cs2, ds2, rfl, hX, hXd, hyc⟩
        have hvy := hE68.size
        have va : ga < y68.heap.size := ka.lt
        have hE69 : Below w8.heap.size w8 y69 := hE68.trans (hyc.mono hE68.size)
        replace ka := ka.below hyc ka.lt
        have hs1 := hX.size
        have hs2 := hXd.size
        have ho1 := hX.one
        have ho2 := hXd.one
        obtain ⟨yc, hycc⟩ : ∃ yc, y69 = yc := ⟨_, rfl⟩
        rw [hycc] at hX
        have hbc : Below yc.heap.size yc y69 := by rw [hycc]; exact Below.refl _ _
        have ua : ga < yc.heap.size := by rw [← hycc]; exact ka.lt
        clear hycc hXd hO hR5
        go_wp2_with fail
        refine hK.out _ _ (HKT.out _ hE69) (fun hHeld => ?_)
        clear hK K
        (try simp only [Act.put, la1, la2, la3])
        iterate 4 ((first | apply tk 7 rfl rfl (by kernel_rfl) | apply tk 8 rfl rfl (by kernel_rfl) | apply tk 9 rfl rfl (by kernel_rfl) | apply tk 10 rfl rfl (by kernel_rfl)); (case hQ => exact fun _ _ _ h => h); (case hw => rfl); (case hy => (intro w hSw; (try dsimp only at hSw); go_simp; try with_reducible rfl)); (case hS => assumption); (try simp only [Act.put, la1, la2, la3]))
        refine doH (i := 12) rfl (by kernel_rfl) (by rfl) (fun K hK => ?_)
        go_simp
        have kb : Blk (y69.alloc (.cells zeroWd 40)) y69.heap.size 40 zeroWd := Blk.new _ _ _
        have hyA := (Below.refl _ y69).alloc (Nat.le_refl _) (.cells zeroWd 40)
        have hE70 := hE69.trans (hyA.mono hE69.size)
        have lb : w8.heap.size ≤ y69.heap.size := hE69.size
        have dba : ga < y69.heap.size := ka.lt
        replace ka := ka.below hyA ka.lt
        have ub : yc.heap.size ≤ y69.heap.size := hbc.size
        replace hbc := hbc.trans (hyA.mono hbc.size)
        generalize y69.alloc (.cells zeroWd 40) = y70 at *
        generalize y69.heap.size = gb at *
        clear hyA
        refine hK.out _ _ (HKT.out _ hE70) (fun hHeld => ?_)
        clear hK K
        (try simp only [Act.put, la1, la2, la3])
        refine doH (i := 13) rfl (by kernel_rfl) (by rfl) (fun K hK => ?_)
        refine wp_store_row 37 _ _ rfl ga cs2 rfl rfl 37 zeroSt ka (iSt hs1) hs1.symm ho1 ?_
        have hF1 := row_below hE70 ga (by omega) cs2
        refine hK.out _ _ (HKT.out _ hF1) (fun hHeld => ?_)
        clear hK K
        (try simp only [Act.put])
        refine doH (i := 14) rfl (by kernel_rfl) (by rfl) (fun K hK => ?_)
        refine wp_store_row 40 _ _ rfl gb ds2 rfl rfl 40 zeroWd (Blk.setRow kb (by omega) cs2) (iWd hs2) hs2.symm ho2 ?_
        have hF2 := row_below hF1 gb (by omega) ds2
        refine hK.out _ _ (HKT.out _ hF2) (fun hHeld => ?_)
        clear hK K
        (try simp only [Act.put])
        apply tk 15 rfl rfl (by kernel_rfl); (case hQ => exact fun _ _ _ h => h); (case hw => rfl); (case hy => (intro w hSw; (try dsimp only at hSw); go_simp; try with_reducible rfl)); (case hS => assumption); (try simp only [Act.put, la1, la2, la3])
        refine wpAnyH_done (by kernel_rfl) ?_ _
        go_wp2_with fail
        go_meet
        obtain ⟨t1, t2⟩ := rise_tail (B := w8.heap.size) (gb := gb) (ds2 := ds2) hX hbc ka (by omega) (by omega) (fun q _ _ => by omega)
        exact ⟨ga, gb, cs2, 0, rfl, rfl, rfl, la, t1, t2, hF2, rfl⟩
        go_simp
        have kb : Blk (y68.alloc (.cells zeroWd 40)) y68.heap.size 40 zeroWd := Blk.new _ _ _
        have hyA := (Below.refl _ y68).alloc (Nat.le_refl _) (.cells zeroWd 40)
        have hE71 := hE68.trans (hyA.mono hE68.size)
        have lb : w8.heap.size ≤ y68.heap.size := hE68.size
        have dba : ga < y68.heap.size := ka.lt
        replace ka := ka.below hyA ka.lt
        replace hO := hO.below hyA
        replace hR5 := hR5.below hyA
        generalize y68.alloc (.cells zeroWd 40) = y71 at *
        generalize y68.heap.size = gb at *
        clear hyA
        refine hK.out _ _ (HKT.out _ hE71) (fun hHeld => ?_)
        clear hK K
        (try simp only [Act.put, la1, la2, la3])
        refine doH (i := 6) rfl (by kernel_rfl) (by rfl) (fun K hK => ?_)
        go_simp
        go_at_call 11
        refine (HD2.out y71 o5 c5 hR5 h30 h20 HSM.out.1 HSM.out.2).mono ?_
        rintro e y72 ⟨cs2, ds2, rfl, hX, hXd, hyc⟩
        have hvy := hE71.size
        have va : ga < y71.heap.size := ka.lt
        have vb : gb < y71.heap.size := kb.lt
        have hE72 : Below w8.heap.size w8 y72 := hE71.trans (hyc.mono hE71.size)
        replace ka := ka.below hyc ka.lt
        replace kb := kb.below hyc kb.lt
        have hs1 := hX.size
        have hs2 := hXd.size
        have ho1 := hX.one
        have ho2 := hXd.one
        obtain ⟨yc, hycc⟩ : ∃ yc, y72 = yc := ⟨_, rfl⟩
        rw [hycc] at hX
        have hbc : Below yc.heap.size yc y72 := by rw [hycc]; exact Below.refl _ _
        have ua : ga < yc.heap.size := by rw [← hycc]; exact ka.lt
        have ub : gb < yc.heap.size := by rw [← hycc]; exact kb.lt
        clear hycc hXd hO hR5
        go_wp2_with fail
        refine hK.out _ _ (HKT.out _ hE72) (fun hHeld => ?_)
        clear hK K
        (try simp only [Act.put, la1, la2, la3])
        iterate 4 ((first | apply tk 7 rfl rfl (by kernel_rfl) | apply tk 8 rfl rfl (by kernel_rfl) | apply tk 9 rfl rfl (by kernel_rfl) | apply tk 10 rfl rfl (by kernel_rfl)); (case hQ => exact fun _ _ _ h => h); (case hw => rfl); (case hy => (intro w hSw; (try dsimp only at hSw); go_simp; try with_reducible rfl)); (case hS => assumption); (try simp only [Act.put, la1, la2, la3]))
        refine doH (i := 13) rfl (by kernel_rfl) (by rfl) (fun K hK => ?_)
        refine wp_store_row 37 _ _ rfl ga cs2 rfl rfl 37 zeroSt ka (iSt hs1) hs1.symm ho1 ?_
        have hF1 := row_below hE72 ga (by omega) cs2
        refine hK.out _ _ (HKT.out _ hF1) (fun hHeld => ?_)
        clear hK K
        (try simp only [Act.put])
        refine doH (i := 14) rfl (by kernel_rfl) (by rfl) (fun K hK => ?_)
        refine wp_store_row 40 _ _ rfl gb ds2 rfl rfl 40 zeroWd (Blk.setRow kb (by omega) cs2) (iWd hs2) hs2.symm ho2 ?_
        have hF2 := row_below hF1 gb (by omega) ds2
        refine hK.out _ _ (HKT.out _ hF2) (fun hHeld => ?_)
        clear hK K
        (try simp only [Act.put])
        apply tk 15 rfl rfl (by kernel_rfl); (case hQ => exact fun _ _ _ h => h); (case hw => rfl); (case hy => (intro w hSw; (try dsimp only at hSw); go_simp; try with_reducible rfl)); (case hS => assumption); (try simp only [Act.put, la1, la2, la3])
        refine wpAnyH_done (by kernel_rfl) ?_ _
        go_wp2_with fail
        go_meet
        obtain ⟨t1, t2⟩ := rise_tail (B := w8.heap.size) (gb := gb) (ds2 := ds2) hX hbc ka (by omega) (by omega) (fun q _ _ => by omega)
        exact ⟨ga, gb, cs2, 0, rfl, rfl, rfl, la, t1, t2, hF2, rfl⟩
        go_simp
        have kb : Blk (y67.alloc (.cells zeroWd 40)) y67.heap.size 40 zeroWd := Blk.new _ _ _
        have hyA := (Below.refl _ y67).alloc (Nat.le_refl _) (.cells zeroWd 40)
        have hE73 := hE67.trans (hyA.mono hE67.size)
        have lb : w8.heap.size ≤ y67.heap.size := hE67.size
        have dba : ga < y67.heap.size := ka.lt
        replace ka := ka.below hyA ka.lt
        replace hO := hO.below hyA
        generalize y67.alloc (.cells zeroWd 40) = y73 at *
        generalize y67.heap.size = gb at *
        clear hyA
        refine hK.out _ _ (HKT.out _ hE73) (fun hHeld => ?_)
        clear hK K
        (try simp only [Act.put, la1, la2, la3])
        refine doH (i := 5) rfl (by kernel_rfl) (by rfl) (fun K hK => ?_)
        obtain ⟨v74, y74, hr, hO9, hg⟩ := append_g2 opOk hO ob m cap' HLM.out (HOB.out y73 hE73) (by rw [HLN.out]; omega) hE73.size
        have hE74 := hE73.grown hg hE73.size (fun j hj => (World.ownsRow.lt hO j hj).1)
        replace ka := ka.grown hg (ne_row (apartT hO ka (by decide)))
        replace kb := kb.grown hg (ne_row (apartT hO kb (by decide)))
        clear hO
        have hO := hO9
        clear hO9 hg
        refine Lib.wp_append_run _ _ _ 22 22 rfl _ _ rfl rfl _ _ hr ?_
        clear hr
        obtain ⟨o5, c5, hv5, hR5, _⟩ := hO.form opOk
        rw [HNN.out] at hv5
        subst hv5
        refine hK.out _ _ (HKT.out _ hE74) (fun hHeld => ?_)
        clear hK K
        (try simp only [Act.put, la1, la2, la3])
        refine doH (i := 6) rfl (by kernel_rfl) (by rfl) (fun K hK => ?_)
        go_simp
        go_at_call 11
        refine (HD2.out y74 o5 c5 hR5 h30 h20 HSM.out.1 HSM.out.2).mono ?_
        rintro e y75 ⟨cs2, ds2, rfl, hX, hXd, hyc⟩
        have hvy := hE74.size
        have va : ga < y74.heap.size := ka.lt
        have vb : gb < y74.heap.size := kb.lt
        have hE75 : Below w8.heap.size w8 y75 := hE74.trans (hyc.mono hE74.size)
        replace ka := ka.below hyc ka.lt
        replace kb := kb.below hyc kb.lt
        have hs1 := hX.size
        have hs2 := hXd.size
        have ho1 := hX.one
        have ho2 := hXd.one
        obtain ⟨yc, hycc⟩ : ∃ yc, y75 = yc := ⟨_, rfl⟩
        rw [hycc] at hX
        have hbc : Below yc.heap.size yc y75 := by rw [hycc]; exact Below.refl _ _
        have ua : ga < yc.heap.size := by rw [← hycc]; exact ka.lt
        have ub : gb < yc.heap.size := by rw [← hycc]; exact kb.lt
        clear hycc hXd hO hR5
        go_wp2_with fail
        refine hK.out _ _ (HKT.out _ hE75) (fun hHeld => ?_)
        clear hK K
        (try simp only [Act.put, la1, la2, la3])
        iterate 4 ((first | apply tk 7 rfl rfl (by kernel_rfl) | apply tk 8 rfl rfl (by kernel_rfl) | apply tk 9 rfl rfl (by kernel_rfl) | apply tk 10 rfl rfl (by kernel_rfl)); (case hQ => exact fun _ _ _ h => h); (case hw => rfl); (case hy => (intro w hSw; (try dsimp only at hSw); go_simp; try with_reducible rfl)); (case hS => assumption); (try simp only [Act.put, la1, la2, la3]))
        refine doH (i := 13) rfl (by kernel_rfl) (by rfl) (fun K hK => ?_)
        refine wp_store_row 37 _ _ rfl ga cs2 rfl rfl 37 zeroSt ka (iSt hs1) hs1.symm ho1 ?_
        have hF1 := row_below hE75 ga (by omega) cs2
        refine hK.out _ _ (HKT.out _ hF1) (fun hHeld => ?_)
        clear hK K
        (try simp only [Act.put])
        refine doH (i := 14) rfl (by kernel_rfl) (by rfl) (fun K hK => ?_)
        refine wp_store_row 40 _ _ rfl gb ds2 rfl rfl 40 zeroWd (Blk.setRow kb (by omega) cs2) (iWd hs2) hs2.symm ho2 ?_
        have hF2 := row_below hF1 gb (by omega) ds2
        refine hK.out _ _ (HKT.out _ hF2) (fun hHeld => ?_)
        clear hK K
        (try simp only [Act.put])
        apply tk 15 rfl rfl (by kernel_rfl); (case hQ => exact fun _ _ _ h => h); (case hw => rfl); (case hy => (intro w hSw; (try dsimp only at hSw); go_simp; try with_reducible rfl)); (case hS => assumption); (try simp only [Act.put, la1, la2, la3])
        refine wpAnyH_done (by kernel_rfl) ?_ _
        go_wp2_with fail
        go_meet
        obtain ⟨t1, t2⟩ := rise_tail (B := w8.heap.size) (gb := gb) (ds2 := ds2) hX hbc ka (by omega) (by omega) (fun q _ _ => by omega)
        exact ⟨ga, gb, cs2, 0, rfl, rfl, rfl, la, t1, t2, hF2, rfl⟩
        go_simp
        have kb : Blk (y66.alloc (.cells zeroWd 40)) y66.heap.size 40 zeroWd := Blk.new _ _ _
        have hyA := (Below.refl _ y66).alloc (Nat.le_refl _) (.cells zeroWd 40)
        have hE76 := hE66.trans (hyA.mono hE66.size)
        have lb : w8.heap.size ≤ y66.heap.size := hE66.size
        have dba : ga < y66.heap.size := ka.lt
        replace ka := ka.below hyA ka.lt
        replace hO := hO.below hyA
        generalize y66.alloc (.cells zeroWd 40) = y76 at *
        generalize y66.heap.size = gb at *
        clear hyA
        refine hK.out _ _ (HKT.out _ hE76) (fun hHeld => ?_)
        clear hK K
        (try simp only [Act.put, la1, la2, la3])
        refine doH (i := 3) rfl (by kernel_rfl) (by rfl) (fun K hK => ?_)
        obtain ⟨v77, y77, hr, hO9, hg⟩ := append_g2 opOk hO oa n cap HLN.out (HOA.out y76 hE76) (by simp; omega) hE76.size
        have hE77 := hE76.grown hg hE76.size (fun j hj => (World.ownsRow.lt hO j hj).1)
        replace ka := ka.grown hg (ne_row (apartT hO ka (by decide)))
        replace kb := kb.grown hg (ne_row (apartT hO kb (by decide)))
        clear hO
        have hO := hO9
        clear hO9 hg
        rw [List.nil_append] at hO
        refine Lib.wp_append_run _ _ _ 22 22 rfl _ _ rfl rfl _ _ hr ?_
        clear hr
        refine hK.out _ _ (HKT.out _ hE77) (fun hHeld => ?_)
        clear hK K
        (try simp only [Act.put, la1, la2, la3])
        refine doH (i := 5) rfl (by kernel_rfl) (by rfl) (fun K hK => ?_)
        obtain ⟨v78, y78, hr, hO9, hg⟩ := append_g2 opOk hO ob m cap' HLM.out (HOB.out y77 hE77) (by rw [HLN.out]; omega) hE77.size
        have hE78 := hE77.grown hg hE77.size (fun j hj => (World.ownsRow.lt hO j hj).1)
        replace ka := ka.grown hg (ne_row (apartT hO ka (by decide)))
        replace kb := kb.grown hg (ne_row (apartT hO kb (by decide)))
        clear hO
        have hO := hO9
        clear hO9 hg
        refine Lib.wp_append_run _ _ _ 22 22 rfl _ _ rfl rfl _ _ hr ?_
        clear hr
        obtain ⟨o5, c5, hv5, hR5, _⟩ := hO.form opOk
        rw [HNN.out] at hv5
        subst hv5
        refine hK.out _ _ (HKT.out _ hE78) (fun hHeld => ?_)
        clear hK K
        (try simp only [Act.put, la1, la2, la3])
        refine doH (i := 6) rfl (by kernel_rfl) (by rfl) (fun K hK => ?_)
        go_simp
        go_at_call 11
        refine (HD2.out y78 o5 c5 hR5 h30 h20 HSM.out.1 HSM.out.2).mono ?_
        rintro e y79 ⟨cs2, ds2, rfl, hX, hXd, hyc⟩
        have hvy := hE78.size
        have va : ga < y78.heap.size := ka.lt
        have vb : gb < y78.heap.size := kb.lt
        have hE79 : Below w8.heap.size w8 y79 := hE78.trans (hyc.mono hE78.size)
        replace ka := ka.below hyc ka.lt
        replace kb := kb.below hyc kb.lt
        have hs1 := hX.size
        have hs2 := hXd.size
        have ho1 := hX.one
        have ho2 := hXd.one
        obtain ⟨yc, hycc⟩ : ∃ yc, y79 = yc := ⟨_, rfl⟩
        rw [hycc] at hX
        have hbc : Below yc.heap.size yc y79 := by rw [hycc]; exact Below.refl _ _
        have ua : ga < yc.heap.size := by rw [← hycc]; exact ka.lt
        have ub : gb < yc.heap.size := by rw [← hycc]; exact kb.lt
        clear hycc hXd hO hR5
        go_wp2_with fail
        refine hK.out _ _ (HKT.out _ hE79) (fun hHeld => ?_)
        clear hK K
        (try simp only [Act.put, la1, la2, la3])
        iterate 4 ((first | apply tk 7 rfl rfl (by kernel_rfl) | apply tk 8 rfl rfl (by kernel_rfl) | apply tk 9 rfl rfl (by kernel_rfl) | apply tk 10 rfl rfl (by kernel_rfl)); (case hQ => exact fun _ _ _ h => h); (case hw => rfl); (case hy => (intro w hSw; (try dsimp only at hSw); go_simp; try with_reducible rfl)); (case hS => assumption); (try simp only [Act.put, la1, la2, la3]))
        refine doH (i := 13) rfl (by kernel_rfl) (by rfl) (fun K hK => ?_)
        refine wp_store_row 37 _ _ rfl ga cs2 rfl rfl 37 zeroSt ka (iSt hs1) hs1.symm ho1 ?_
        have hF1 := row_below hE79 ga (by omega) cs2
        refine hK.out _ _ (HKT.out _ hF1) (fun hHeld => ?_)
        clear hK K
        (try simp only [Act.put])
        refine doH (i := 14) rfl (by kernel_rfl) (by rfl) (fun K hK => ?_)
        refine wp_store_row 40 _ _ rfl gb ds2 rfl rfl 40 zeroWd (Blk.setRow kb (by omega) cs2) (iWd hs2) hs2.symm ho2 ?_
        have hF2 := row_below hF1 gb (by omega) ds2
        refine hK.out _ _ (HKT.out _ hF2) (fun hHeld => ?_)
        clear hK K
        (try simp only [Act.put])
        apply tk 15 rfl rfl (by kernel_rfl); (case hQ => exact fun _ _ _ h => h); (case hw => rfl); (case hy => (intro w hSw; (try dsimp only at hSw); go_simp; try with_reducible rfl)); (case hS => assumption); (try simp only [Act.put, la1, la2, la3])
        refine wpAnyH_done (by kernel_rfl) ?_ _
        go_wp2_with fail
        go_meet
        obtain ⟨t1, t2⟩ := rise_tail (B := w8.heap.size) (gb := gb) (ds2 := ds2) hX hbc ka (by omega) (by omega) (fun q _ _ => by omega)
        exact ⟨ga, gb, cs2, 0, rfl, rfl, rfl, la, t1, t2, hF2, rfl⟩
        go_simp
        have kb : Blk (y65.alloc (.cells zeroWd 40)) y65.heap.size 40 zeroWd := Blk.new _ _ _
        have hyA := (Below.refl _ y65).alloc (Nat.le_refl _) (.cells zeroWd 40)
        have hE80 := hE65.trans (hyA.mono hE65.size)
        have lb : w8.heap.size ≤ y65.heap.size := hE65.size
        have dba : ga < y65.heap.size := ka.lt
        replace ka := ka.below hyA ka.lt
        generalize y65.alloc (.cells zeroWd 40) = y80 at *
        generalize y65.heap.size = gb at *
        clear hyA
        refine hK.out _ _ (HKT.out _ hE80) (fun hHeld => ?_)
        clear hK K
        (try simp only [Act.put, la1, la2, la3])
        refine doH (i := 1) rfl (by kernel_rfl) (by rfl) (fun K hK => ?_)
        go_simp
        have hO := ownG_lit opOk y80 w8.heap.size hE80.size
        have hyA := (Below.refl _ y80).alloc (Nat.le_refl _) (.cells #[] 73)
        have hE81 := hE80.trans (hyA.mono hE80.size)
        change OwnG _ (y80.alloc (.cells #[] 73)) _ _ _ at hO
        replace ka := ka.below hyA ka.lt
        replace kb := kb.below hyA kb.lt
        generalize y80.alloc (.cells #[] 73) = y81 at *
        generalize y80.heap.size = b0 at *
        clear hyA
        refine hK.out _ _ (HKT.out _ hE81) (fun hHeld => ?_)
        clear hK K
        (try simp only [Act.put, la1, la2, la3])
        refine doH (i := 3) rfl (by kernel_rfl) (by rfl) (fun K hK => ?_)
        obtain ⟨v82, y82, hr, hO9, hg⟩ := append_g2 opOk hO oa n cap HLN.out (HOA.out y81 hE81) (by simp; omega) hE81.size
        have hE82 := hE81.grown hg hE81.size (fun j hj => (World.ownsRow.lt hO j hj).1)
        replace ka := ka.grown hg (ne_row (apartT hO ka (by decide)))
        replace kb := kb.grown hg (ne_row (apartT hO kb (by decide)))
        clear hO
        have hO := hO9
        clear hO9 hg
        rw [List.nil_append] at hO
        refine Lib.wp_append_run _ _ _ 22 22 rfl _ _ rfl rfl _ _ hr ?_
        clear hr
        refine hK.out _ _ (HKT.out _ hE82) (fun hHeld => ?_)
        clear hK K
        (try simp only [Act.put, la1, la2, la3])
        refine doH (i := 5) rfl (by kernel_rfl) (by rfl) (fun K hK => ?_)
        obtain ⟨v83, y83, hr, hO9, hg⟩ := append_g2 opOk hO ob m cap' HLM.out (HOB.out y82 hE82) (by rw [HLN.out]; omega) hE82.size
        have hE83 := hE82.grown hg hE82.size (fun j hj => (World.ownsRow.lt hO j hj).1)
        replace ka := ka.grown hg (ne_row (apartT hO ka (by decide)))
        replace kb := kb.grown hg (ne_row (apartT hO kb (by decide)))
        clear hO
        have hO := hO9
        clear hO9 hg
        refine Lib.wp_append_run _ _ _ 22 22 rfl _ _ rfl rfl _ _ hr ?_
        clear hr
        obtain ⟨o5, c5, hv5, hR5, _⟩ := hO.form opOk
        rw [HNN.out] at hv5
        subst hv5
        refine hK.out _ _ (HKT.out _ hE83) (fun hHeld => ?_)
        clear hK K
        (try simp only [Act.put, la1, la2, la3])
        refine doH (i := 6) rfl (by kernel_rfl) (by rfl) (fun K hK => ?_)
        go_simp
        go_at_call 11
        refine (HD2.out y83 o5 c5 hR5 h30 h20 HSM.out.1 HSM.out.2).mono ?_
        rintro e y84 ⟨cs2, ds2, rfl, hX, hXd, hyc⟩
        have hvy := hE83.size
        have va : ga < y83.heap.size := ka.lt
        have vb : gb < y83.heap.size := kb.lt
        have hE84 : Below w8.heap.size w8 y84 := hE83.trans (hyc.mono hE83.size)
        replace ka := ka.below hyc ka.lt
        replace kb := kb.below hyc kb.lt
        have hs1 := hX.size
        have hs2 := hXd.size
        have ho1 := hX.one
        have ho2 := hXd.one
        obtain ⟨yc, hycc⟩ : ∃ yc, y84 = yc := ⟨_, rfl⟩
        rw [hycc] at hX
        have hbc : Below yc.heap.size yc y84 := by rw [hycc]; exact Below.refl _ _
        have ua : ga < yc.heap.size := by rw [← hycc]; exact ka.lt
        have ub : gb < yc.heap.size := by rw [← hycc]; exact kb.lt
        clear hycc hXd hO hR5
        go_wp2_with fail
        refine hK.out _ _ (HKT.out _ hE84) (fun hHeld => ?_)
        clear hK K
        (try simp only [Act.put, la1, la2, la3])
        iterate 4 ((first | apply tk 7 rfl rfl (by kernel_rfl) | apply tk 8 rfl rfl (by kernel_rfl) | apply tk 9 rfl rfl (by kernel_rfl) | apply tk 10 rfl rfl (by kernel_rfl)); (case hQ => exact fun _ _ _ h => h); (case hw => rfl); (case hy => (intro w hSw; (try dsimp only at hSw); go_simp; try with_reducible rfl)); (case hS => assumption); (try simp only [Act.put, la1, la2, la3]))
        refine doH (i := 13) rfl (by kernel_rfl) (by rfl) (fun K hK => ?_)
        refine wp_store_row 37 _ _ rfl ga cs2 rfl rfl 37 zeroSt ka (iSt hs1) hs1.symm ho1 ?_
        have hF1 := row_below hE84 ga (by omega) cs2
        refine hK.out _ _ (HKT.out _ hF1) (fun hHeld => ?_)
        clear hK K
        (try simp only [Act.put])
        refine doH (i := 14) rfl (by kernel_rfl) (by rfl) (fun K hK => ?_)
        refine wp_store_row 40 _ _ rfl gb ds2 rfl rfl 40 zeroWd (Blk.setRow kb (by omega) cs2) (iWd hs2) hs2.symm ho2 ?_
        have hF2 := row_below hF1 gb (by omega) ds2
        refine hK.out _ _ (HKT.out _ hF2) (fun hHeld => ?_)
        clear hK K
        (try simp only [Act.put])
        apply tk 15 rfl rfl (by kernel_rfl); (case hQ => exact fun _ _ _ h => h); (case hw => rfl); (case hy => (intro w hSw; (try dsimp only at hSw); go_simp; try with_reducible rfl)); (case hS => assumption); (try simp only [Act.put, la1, la2, la3])
        refine wpAnyH_done (by kernel_rfl) ?_ _
        go_wp2_with fail
        go_meet
        obtain ⟨t1, t2⟩ := rise_tail (B := w8.heap.size) (gb := gb) (ds2 := ds2) hX hbc ka (by omega) (by omega) (fun q _ _ => by omega)
        exact ⟨ga, gb, cs2, 0, rfl, rfl, rfl, la, t1, t2, hF2, rfl⟩
        go_simp
        have kb : Blk (y0.alloc (.cells zeroWd 40)) y0.heap.size 40 zeroWd := Blk.new _ _ _
        have hyA := (Below.refl _ y0).alloc (Nat.le_refl _) (.cells zeroWd 40)
        have hE85 := hE0.trans (hyA.mono hE0.size)
        have lb : w8.heap.size ≤ y0.heap.size := hE0.size
        generalize y0.alloc (.cells zeroWd 40) = y85 at *
        generalize y0.heap.size = gb at *
        clear hyA
        refine hK.out _ _ (HKT.out _ hE85) (fun hHeld => ?_)
        clear hK K
        (try simp only [Act.put, la1, la2, la3])
        refine doH2 (i := 1) (j := 11) rfl rfl (by kernel_rfl) (by rfl) (by rfl) (fun K hK => ?_) (fun K hK => ?_)
        go_simp
        have hO := ownG_lit opOk y85 w8.heap.size hE85.size
        have hyA := (Below.refl _ y85).alloc (Nat.le_refl _) (.cells #[] 73)
        have hE86 := hE85.trans (hyA.mono hE85.size)
        change OwnG _ (y85.alloc (.cells #[] 73)) _ _ _ at hO
        replace kb := kb.below hyA kb.lt
        generalize y85.alloc (.cells #[] 73) = y86 at *
        generalize y85.heap.size = b0 at *
        clear hyA
        refine hK.out _ _ (HKT.out _ hE86) (fun hHeld => ?_)
        clear hK K
        (try simp only [Act.put, la1, la2, la3])
        refine doH2 (i := 3) (j := 11) rfl rfl (by kernel_rfl) (by rfl) (by rfl) (fun K hK => ?_) (fun K hK => ?_)
        obtain ⟨v87, y87, hr, hO9, hg⟩ := append_g2 opOk hO oa n cap HLN.out (HOA.out y86 hE86) (by simp; omega) hE86.size
        have hE87 := hE86.grown hg hE86.size (fun j hj => (World.ownsRow.lt hO j hj).1)
        replace kb := kb.grown hg (ne_row (apartT hO kb (by decide)))
        clear hO
        have hO := hO9
        clear hO9 hg
        rw [List.nil_append] at hO
        refine Lib.wp_append_run _ _ _ 22 22 rfl _ _ rfl rfl _ _ hr ?_
        clear hr
        refine hK.out _ _ (HKT.out _ hE87) (fun hHeld => ?_)
        clear hK K
        (try simp only [Act.put, la1, la2, la3])
        refine doH2 (i := 5) (j := 11) rfl rfl (by kernel_rfl) (by rfl) (by rfl) (fun K hK => ?_) (fun K hK => ?_)
        obtain ⟨v88, y88, hr, hO9, hg⟩ := append_g2 opOk hO ob m cap' HLM.out (HOB.out y87 hE87) (by rw [HLN.out]; omega) hE87.size
        have hE88 := hE87.grown hg hE87.size (fun j hj => (World.ownsRow.lt hO j hj).1)
        replace kb := kb.grown hg (ne_row (apartT hO kb (by decide)))
        clear hO
        have hO := hO9
        clear hO9 hg
        refine Lib.wp_append_run _ _ _ 22 22 rfl _ _ rfl rfl _ _ hr ?_
        clear hr
        obtain ⟨o5, c5, hv5, hR5, _⟩ := hO.form opOk
        rw [HNN.out] at hv5
        subst hv5
        refine hK.out _ _ (HKT.out _ hE88) (fun hHeld => ?_)
        clear hK K
        (try simp only [Act.put, la1, la2, la3])
        refine doH2 (i := 6) (j := 11) rfl rfl (by kernel_rfl) (by rfl) (by rfl) (fun K hK => ?_) (fun K hK => ?_)
        go_simp
        go_at_call 11
        refine (HD2.out y88 o5 c5 hR5 h30 h20 HSM.out.1 HSM.out.2).mono ?_
        rintro e y89 ⟨cs2, ds2, rfl, hX, hXd, hyc⟩
        have hvy := hE88.size
        have vb : gb < y88.heap.size := kb.lt
        have hE89 : Below w8.heap.size w8 y89 := hE88.trans (hyc.mono hE88.size)
        replace kb := kb.below hyc kb.lt
        have hs1 := hX.size
        have hs2 := hXd.size
        have ho1 := hX.one
        have ho2 := hXd.one
        obtain ⟨yc, hycc⟩ : ∃ yc, y89 = yc := ⟨_, rfl⟩
        rw [hycc] at hX
        have hbc : Below yc.heap.size yc y89 := by rw [hycc]; exact Below.refl _ _
        have ub : gb < yc.heap.size := by rw [← hycc]; exact kb.lt
        clear hycc hXd hO hR5
        go_wp2_with fail
        refine hK.out _ _ (HKT.out _ hE89) (fun hHeld => ?_)
        clear hK K
        (try simp only [Act.put, la1, la2, la3])
        iterate 4 ((first | apply tk 7 rfl rfl (by kernel_rfl) | apply tk 8 rfl rfl (by kernel_rfl) | apply tk 9 rfl rfl (by kernel_rfl) | apply tk 10 rfl rfl (by kernel_rfl)); (case hQ => exact fun _ _ _ h => h); (case hw => rfl); (case hy => (intro w hSw; (try dsimp only at hSw); go_simp; try with_reducible rfl)); (case hS => assumption); (try simp only [Act.put, la1, la2, la3]))
        refine doH (i := 11) rfl (by kernel_rfl) (by rfl) (fun K hK => ?_)
        go_simp
        have ka : Blk (y89.alloc (.cells zeroSt 37)) y89.heap.size 37 zeroSt := Blk.new _ _ _
        have hyA := (Below.refl _ y89).alloc (Nat.le_refl _) (.cells zeroSt 37)
        have hE90 := hE89.trans (hyA.mono hE89.size)
        have la : w8.heap.size ≤ y89.heap.size := hE89.size
        have dab : gb < y89.heap.size := kb.lt
        replace kb := kb.below hyA kb.lt
        have ua : yc.heap.size ≤ y89.heap.size := hbc.size
        replace hbc := hbc.trans (hyA.mono hbc.size)
        generalize y89.alloc (.cells zeroSt 37) = y90 at *
        generalize y89.heap.size = ga at *
        clear hyA
        refine hK.out _ _ (HKT.out _ hE90) (fun hHeld => ?_)
        clear hK K
        (try simp only [Act.put, la1, la2, la3])
        refine doH (i := 13) rfl (by kernel_rfl) (by rfl) (fun K hK => ?_)
        refine wp_store_row 37 _ _ rfl ga cs2 rfl rfl 37 zeroSt ka (iSt hs1) hs1.symm ho1 ?_
        have hF1 := row_below hE90 ga (by omega) cs2
        refine hK.out _ _ (HKT.out _ hF1) (fun hHeld => ?_)
        clear hK K
        (try simp only [Act.put])
        refine doH (i := 14) rfl (by kernel_rfl) (by rfl) (fun K hK => ?_)
        refine wp_store_row 40 _ _ rfl gb ds2 rfl rfl 40 zeroWd (Blk.setRow kb (by omega) cs2) (iWd hs2) hs2.symm ho2 ?_
        have hF2 := row_below hF1 gb (by omega) ds2
        refine hK.out _ _ (HKT.out _ hF2) (fun hHeld => ?_)
        clear hK K
        (try simp only [Act.put])
        apply tk 15 rfl rfl (by kernel_rfl); (case hQ => exact fun _ _ _ h => h); (case hw => rfl); (case hy => (intro w hSw; (try dsimp only at hSw); go_simp; try with_reducible rfl)); (case hS => assumption); (try simp only [Act.put, la1, la2, la3])
        refine wpAnyH_done (by kernel_rfl) ?_ _
        go_wp2_with fail
        go_meet
        obtain ⟨t1, t2⟩ := rise_tail (B := w8.heap.size) (gb := gb) (ds2 := ds2) hX hbc ka (by omega) (by omega) (fun q _ _ => by omega)
        exact ⟨ga, gb, cs2, 0, rfl, rfl, rfl, la, t1, t2, hF2, rfl⟩
        go_simp
        have ka : Blk (y88.alloc (.cells zeroSt 37)) y88.heap.size 37 zeroSt := Blk.new _ _ _
        have hyA := (Below.refl _ y88).alloc (Nat.le_refl _) (.cells zeroSt 37)
        have hE91 := hE88.trans (hyA.mono hE88.size)
        have la : w8.heap.size ≤ y88.heap.size := hE88.size
        have dab : gb < y88.heap.size := kb.lt
        replace kb := kb.below hyA kb.lt
        replace hO := hO.below hyA
        replace hR5 := hR5.below hyA
        generalize y88.alloc (.cells zeroSt 37) = y91 at *
        generalize y88.heap.size = ga at *
        clear hyA
        refine hK.out _ _ (HKT.out _ hE91) (fun hHeld => ?_)
        clear hK K
        (try simp only [Act.put, la1, la2, la3])
        refine doH (i := 6) rfl (by kernel_rfl) (by rfl) (fun K hK => ?_)
        go_simp
        go_at_call 11
        refine (HD2.out y91 o5 c5 hR5 h30 h20 HSM.out.1 HSM.out.2).mono ?_
        rintro e y92 ⟨cs2, ds2, rfl, hX, hXd, hyc⟩
        have hvy := hE91.size
        have vb : gb < y91.heap.size := kb.lt
        have va : ga < y91.heap.size := ka.lt
        have hE92 : Below w8.heap.size w8 y92 := hE91.trans (hyc.mono hE91.size)
        replace kb := kb.below hyc kb.lt
        replace ka := ka.below hyc ka.lt
        have hs1 := hX.size
        have hs2 := hXd.size
        have ho1 := hX.one
        have ho2 := hXd.one
        obtain ⟨yc, hycc⟩ : ∃ yc, y92 = yc := ⟨_, rfl⟩
        rw [hycc] at hX
        have hbc : Below yc.heap.size yc y92 := by rw [hycc]; exact Below.refl _ _
        have ub : gb < yc.heap.size := by rw [← hycc]; exact kb.lt
        have ua : ga < yc.heap.size := by rw [← hycc]; exact ka.lt
        clear hycc hXd hO hR5
        go_wp2_with fail
        refine hK.out _ _ (HKT.out _ hE92) (fun hHeld => ?_)
        clear hK K
        (try simp only [Act.put, la1, la2, la3])
        iterate 4 ((first | apply tk 7 rfl rfl (by kernel_rfl) | apply tk 8 rfl rfl (by kernel_rfl) | apply tk 9 rfl rfl (by kernel_rfl) | apply tk 10 rfl rfl (by kernel_rfl)); (case hQ => exact fun _ _ _ h => h); (case hw => rfl); (case hy => (intro w hSw; (try dsimp only at hSw); go_simp; try with_reducible rfl)); (case hS => assumption); (try simp only [Act.put, la1, la2, la3]))
        refine doH (i := 13) rfl (by kernel_rfl) (by rfl) (fun K hK => ?_)
        refine wp_store_row 37 _ _ rfl ga cs2 rfl rfl 37 zeroSt ka (iSt hs1) hs1.symm ho1 ?_
        have hF1 := row_below hE92 ga (by omega) cs2
        refine hK.out _ _ (HKT.out _ hF1) (fun hHeld => ?_)
        clear hK K
        (try simp only [Act.put])
        refine doH (i := 14) rfl (by kernel_rfl) (by rfl) (fun K hK => ?_)
        refine wp_store_row 40 _ _ rfl gb ds2 rfl rfl 40 zeroWd (Blk.setRow kb (by omega) cs2) (iWd hs2) hs2.symm ho2 ?_
        have hF2 := row_below hF1 gb (by omega) ds2
        refine hK.out _ _ (HKT.out _ hF2) (fun hHeld => ?_)
        clear hK K
        (try simp only [Act.put])
        apply tk 15 rfl rfl (by kernel_rfl); (case hQ => exact fun _ _ _ h => h); (case hw => rfl); (case hy => (intro w hSw; (try dsimp only at hSw); go_simp; try with_reducible rfl)); (case hS => assumption); (try simp only [Act.put, la1, la2, la3])
        refine wpAnyH_done (by kernel_rfl) ?_ _
        go_wp2_with fail
        go_meet
        obtain ⟨t1, t2⟩ := rise_tail (B := w8.heap.size) (gb := gb) (ds2 := ds2) hX hbc ka (by omega) (by omega) (fun q _ _ => by omega)
        exact ⟨ga, gb, cs2, 0, rfl, rfl, rfl, la, t1, t2, hF2, rfl⟩
        go_simp
        have ka : Blk (y87.alloc (.cells zeroSt 37)) y87.heap.size 37 zeroSt := Blk.new _ _ _
        have hyA := (Below.refl _ y87).alloc (Nat.le_refl _) (.cells zeroSt 37)
        have hE93 := hE87.trans (hyA.mono hE87.size)
        have la : w8.heap.size ≤ y87.heap.size := hE87.size
        have dab : gb < y87.heap.size := kb.lt
        replace kb := kb.below hyA kb.lt
        replace hO := hO.below hyA
        generalize y87.alloc (.cells zeroSt 37) = y93 at *
        generalize y87.heap.size = ga at *
        clear hyA
        refine hK.out _ _ (HKT.out _ hE93) (fun hHeld => ?_)
        clear hK K
        (try simp only [Act.put, la1, la2, la3])
        refine doH (i := 5) rfl (by kernel_rfl) (by rfl) (fun K hK => ?_)
        obtain ⟨v94, y94, hr, hO9, hg⟩ := append_g2 opOk hO ob m cap' HLM.out (HOB.out y93 hE93) (by rw [HLN.out]; omega) hE93.size
        have hE94 := hE93.grown hg hE93.size (fun j hj => (World.ownsRow.lt hO j hj).1)
        replace kb := kb.grown hg (ne_row (apartT hO kb (by decide)))
        replace ka := ka.grown hg (ne_row (apartT hO ka (by decide)))
        clear hO
        have hO := hO9
        clear hO9 hg
        refine Lib.wp_append_run _ _ _ 22 22 rfl _ _ rfl rfl _ _ hr ?_
        clear hr
        obtain ⟨o5, c5, hv5, hR5, _⟩ := hO.form opOk
        rw [HNN.out] at hv5
        subst hv5
        refine hK.out _ _ (HKT.out _ hE94) (fun hHeld => ?_)
        clear hK K
        (try simp only [Act.put, la1, la2, la3])
        refine doH (i := 6) rfl (by kernel_rfl) (by rfl) (fun K hK => ?_)
        go_simp
        go_at_call 11
        refine (HD2.out y94 o5 c5 hR5 h30 h20 HSM.out.1 HSM.out.2).mono ?_
        rintro e y95 ⟨cs2, ds2, rfl, hX, hXd, hyc⟩
        have hvy := hE94.size
        have vb : gb < y94.heap.size := kb.lt
        have va : ga < y94.heap.size := ka.lt
        have hE95 : Below w8.heap.size w8 y95 := hE94.trans (hyc.mono hE94.size)
        replace kb := kb.below hyc kb.lt
        replace ka := ka.below hyc ka.lt
        have hs1 := hX.size
        have hs2 := hXd.size
        have ho1 := hX.one
        have ho2 := hXd.one
        obtain ⟨yc, hycc⟩ : ∃ yc, y95 = yc := ⟨_, rfl⟩
        rw [hycc] at hX
        have hbc : Below yc.heap.size yc y95 := by rw [hycc]; exact Below.refl _ _
        have ub : gb < yc.heap.size := by rw [← hycc]; exact kb.lt
        have ua : ga < yc.heap.size := by rw [← hycc]; exact ka.lt
        clear hycc hXd hO hR5
        go_wp2_with fail
        refine hK.out _ _ (HKT.out _ hE95) (fun hHeld => ?_)
        clear hK K
        (try simp only [Act.put, la1, la2, la3])
        iterate 4 ((first | apply tk 7 rfl rfl (by kernel_rfl) | apply tk 8 rfl rfl (by kernel_rfl) | apply tk 9 rfl rfl (by kernel_rfl) | apply tk 10 rfl rfl (by kernel_rfl)); (case hQ => exact fun _ _ _ h => h); (case hw => rfl); (case hy => (intro w hSw; (try dsimp only at hSw); go_simp; try with_reducible rfl)); (case hS => assumption); (try simp only [Act.put, la1, la2, la3]))
        refine doH (i := 13) rfl (by kernel_rfl) (by rfl) (fun K hK => ?_)
        refine wp_store_row 37 _ _ rfl ga cs2 rfl rfl 37 zeroSt ka (iSt hs1) hs1.symm ho1 ?_
        have hF1 := row_below hE95 ga (by omega) cs2
        refine hK.out _ _ (HKT.out _ hF1) (fun hHeld => ?_)
        clear hK K
        (try simp only [Act.put])
        refine doH (i := 14) rfl (by kernel_rfl) (by rfl) (fun K hK => ?_)
        refine wp_store_row 40 _ _ rfl gb ds2 rfl rfl 40 zeroWd (Blk.setRow kb (by omega) cs2) (iWd hs2) hs2.symm ho2 ?_
        have hF2 := row_below hF1 gb (by omega) ds2
        refine hK.out _ _ (HKT.out _ hF2) (fun hHeld => ?_)
        clear hK K
        (try simp only [Act.put])
        apply tk 15 rfl rfl (by kernel_rfl); (case hQ => exact fun _ _ _ h => h); (case hw => rfl); (case hy => (intro w hSw; (try dsimp only at hSw); go_simp; try with_reducible rfl)); (case hS => assumption); (try simp only [Act.put, la1, la2, la3])
        refine wpAnyH_done (by kernel_rfl) ?_ _
        go_wp2_with fail
        go_meet
        obtain ⟨t1, t2⟩ := rise_tail (B := w8.heap.size) (gb := gb) (ds2 := ds2) hX hbc ka (by omega) (by omega) (fun q _ _ => by omega)
        exact ⟨ga, gb, cs2, 0, rfl, rfl, rfl, la, t1, t2, hF2, rfl⟩
        go_simp
        have ka : Blk (y86.alloc (.cells zeroSt 37)) y86.heap.size 37 zeroSt := Blk.new _ _ _
        have hyA := (Below.refl _ y86).alloc (Nat.le_refl _) (.cells zeroSt 37)
        have hE96 := hE86.trans (hyA.mono hE86.size)
        have la : w8.heap.size ≤ y86.heap.size := hE86.size
        have dab : gb < y86.heap.size := kb.lt
        replace kb := kb.below hyA kb.lt
        replace hO := hO.below hyA
        generalize y86.alloc (.cells zeroSt 37) = y96 at *
        generalize y86.heap.size = ga at *
        clear hyA
        refine hK.out _ _ (HKT.out _ hE96) (fun hHeld => ?_)
        clear hK K
        (try simp only [Act.put, la1, la2, la3])
        refine doH (i := 3) rfl (by kernel_rfl) (by rfl) (fun K hK => ?_)
        obtain ⟨v97, y97, hr, hO9, hg⟩ := append_g2 opOk hO oa n cap HLN.out (HOA.out y96 hE96) (by simp; omega) hE96.size
        have hE97 := hE96.grown hg hE96.size (fun j hj => (World.ownsRow.lt hO j hj).1)
        replace kb := kb.grown hg (ne_row (apartT hO kb (by decide)))
        replace ka := ka.grown hg (ne_row (apartT hO ka (by decide)))
        clear hO
        have hO := hO9
        clear hO9 hg
        rw [List.nil_append] at hO
        refine Lib.wp_append_run _ _ _ 22 22 rfl _ _ rfl rfl _ _ hr ?_
        clear hr
        refine hK.out _ _ (HKT.out _ hE97) (fun hHeld => ?_)
        clear hK K
        (try simp only [Act.put, la1, la2, la3])
        refine doH (i := 5) rfl (by kernel_rfl) (by rfl) (fun K hK => ?_)
        obtain ⟨v98, y98, hr, hO9, hg⟩ := append_g2 opOk hO ob m cap' HLM.out (HOB.out y97 hE97) (by rw [HLN.out]; omega) hE97.size
        have hE98 := hE97.grown hg hE97.size (fun j hj => (World.ownsRow.lt hO j hj).1)
        replace kb := kb.grown hg (ne_row (apartT hO kb (by decide)))
        replace ka := ka.grown hg (ne_row (apartT hO ka (by decide)))
        clear hO
        have hO := hO9
        clear hO9 hg
        refine Lib.wp_append_run _ _ _ 22 22 rfl _ _ rfl rfl _ _ hr ?_
        clear hr
        obtain ⟨o5, c5, hv5, hR5, _⟩ := hO.form opOk
        rw [HNN.out] at hv5
        subst hv5
        refine hK.out _ _ (HKT.out _ hE98) (fun hHeld => ?_)
        clear hK K
        (try simp only [Act.put, la1, la2, la3])
        refine doH (i := 6) rfl (by kernel_rfl) (by rfl) (fun K hK => ?_)
        go_simp
        go_at_call 11
        refine (HD2.out y98 o5 c5 hR5 h30 h20 HSM.out.1 HSM.out.2).mono ?_
        rintro e y99 ⟨cs2, ds2, rfl, hX, hXd, hyc⟩
        have hvy := hE98.size
        have vb : gb < y98.heap.size := kb.lt
        have va : ga < y98.heap.size := ka.lt
        have hE99 : Below w8.heap.size w8 y99 := hE98.trans (hyc.mono hE98.size)
        replace kb := kb.below hyc kb.lt
        replace ka := ka.below hyc ka.lt
        have hs1 := hX.size
        have hs2 := hXd.size
        have ho1 := hX.one
        have ho2 := hXd.one
        obtain ⟨yc, hycc⟩ : ∃ yc, y99 = yc := ⟨_, rfl⟩
        rw [hycc] at hX
        have hbc : Below yc.heap.size yc y99 := by rw [hycc]; exact Below.refl _ _
        have ub : gb < yc.heap.size := by rw [← hycc]; exact kb.lt
        have ua : ga < yc.heap.size := by rw [← hycc]; exact ka.lt
        clear hycc hXd hO hR5
        go_wp2_with fail
        refine hK.out _ _ (HKT.out _ hE99) (fun hHeld => ?_)
        clear hK K
        (try simp only [Act.put, la1, la2, la3])
        iterate 4 ((first | apply tk 7 rfl rfl (by kernel_rfl) | apply tk 8 rfl rfl (by kernel_rfl) | apply tk 9 rfl rfl (by kernel_rfl) | apply tk 10 rfl rfl (by kernel_rfl)); (case hQ => exact fun _ _ _ h => h); (case hw => rfl); (case hy => (intro w hSw; (try dsimp only at hSw); go_simp; try with_reducible rfl)); (case hS => assumption); (try simp only [Act.put, la1, la2, la3]))
        refine doH (i := 13) rfl (by kernel_rfl) (by rfl) (fun K hK => ?_)
        refine wp_store_row 37 _ _ rfl ga cs2 rfl rfl 37 zeroSt ka (iSt hs1) hs1.symm ho1 ?_
        have hF1 := row_below hE99 ga (by omega) cs2
        refine hK.out _ _ (HKT.out _ hF1) (fun hHeld => ?_)
        clear hK K
        (try simp only [Act.put])
        refine doH (i := 14) rfl (by kernel_rfl) (by rfl) (fun K hK => ?_)
        refine wp_store_row 40 _ _ rfl gb ds2 rfl rfl 40 zeroWd (Blk.setRow kb (by omega) cs2) (iWd hs2) hs2.symm ho2 ?_
        have hF2 := row_below hF1 gb (by omega) ds2
        refine hK.out _ _ (HKT.out _ hF2) (fun hHeld => ?_)
        clear hK K
        (try simp only [Act.put])
        apply tk 15 rfl rfl (by kernel_rfl); (case hQ => exact fun _ _ _ h => h); (case hw => rfl); (case hy => (intro w hSw; (try dsimp only at hSw); go_simp; try with_reducible rfl)); (case hS => assumption); (try simp only [Act.put, la1, la2, la3])
        refine wpAnyH_done (by kernel_rfl) ?_ _
        go_wp2_with fail
        go_meet
        obtain ⟨t1, t2⟩ := rise_tail (B := w8.heap.size) (gb := gb) (ds2 := ds2) hX hbc ka (by omega) (by omega) (fun q _ _ => by omega)
        exact ⟨ga, gb, cs2, 0, rfl, rfl, rfl, la, t1, t2, hF2, rfl⟩
        go_simp
        have ka : Blk (y85.alloc (.cells zeroSt 37)) y85.heap.size 37 zeroSt := Blk.new _ _ _
        have hyA := (Below.refl _ y85).alloc (Nat.le_refl _) (.cells zeroSt 37)
        have hE100 := hE85.trans (hyA.mono hE85.size)
        have la : w8.heap.size ≤ y85.heap.size := hE85.size
        have dab : gb < y85.heap.size := kb.lt
        replace kb := kb.below hyA kb.lt
        generalize y85.alloc (.cells zeroSt 37) = y100 at *
        generalize y85.heap.size = ga at *
        clear hyA
        refine hK.out _ _ (HKT.out _ hE100) (fun hHeld => ?_)
        clear hK K
        (try simp only [Act.put, la1, la2, la3])
        refine doH (i := 1) rfl (by kernel_rfl) (by rfl) (fun K hK => ?_)
        go_simp
        have hO := ownG_lit opOk y100 w8.heap.size hE100.size
        have hyA := (Below.refl _ y100).alloc (Nat.le_refl _) (.cells #[] 73)
        have hE101 := hE100.trans (hyA.mono hE100.size)
        change OwnG _ (y100.alloc (.cells #[] 73)) _ _ _ at hO
        replace kb := kb.below hyA kb.lt
        replace ka := ka.below hyA ka.lt
        generalize y100.alloc (.cells #[] 73) = y101 at *
        generalize y100.heap.size = b0 at *
        clear hyA
        refine hK.out _ _ (HKT.out _ hE101) (fun hHeld => ?_)
        clear hK K
        (try simp only [Act.put, la1, la2, la3])
        refine doH (i := 3) rfl (by kernel_rfl) (by rfl) (fun K hK => ?_)
        obtain ⟨v102, y102, hr, hO9, hg⟩ := append_g2 opOk hO oa n cap HLN.out (HOA.out y101 hE101) (by simp; omega) hE101.size
        have hE102 := hE101.grown hg hE101.size (fun j hj => (World.ownsRow.lt hO j hj).1)
        replace kb := kb.grown hg (ne_row (apartT hO kb (by decide)))
        replace ka := ka.grown hg (ne_row (apartT hO ka (by decide)))
        clear hO
        have hO := hO9
        clear hO9 hg
        rw [List.nil_append] at hO
        refine Lib.wp_append_run _ _ _ 22 22 rfl _ _ rfl rfl _ _ hr ?_
        clear hr
        refine hK.out _ _ (HKT.out _ hE102) (fun hHeld => ?_)
        clear hK K
        (try simp only [Act.put, la1, la2, la3])
        refine doH (i := 5) rfl (by kernel_rfl) (by rfl) (fun K hK => ?_)
        obtain ⟨v103, y103, hr, hO9, hg⟩ := append_g2 opOk hO ob m cap' HLM.out (HOB.out y102 hE102) (by rw [HLN.out]; omega) hE102.size
        have hE103 := hE102.grown hg hE102.size (fun j hj => (World.ownsRow.lt hO j hj).1)
        replace kb := kb.grown hg (ne_row (apartT hO kb (by decide)))
        replace ka := ka.grown hg (ne_row (apartT hO ka (by decide)))
        clear hO
        have hO := hO9
        clear hO9 hg
        refine Lib.wp_append_run _ _ _ 22 22 rfl _ _ rfl rfl _ _ hr ?_
        clear hr
        obtain ⟨o5, c5, hv5, hR5, _⟩ := hO.form opOk
        rw [HNN.out] at hv5
        subst hv5
        refine hK.out _ _ (HKT.out _ hE103) (fun hHeld => ?_)
        clear hK K
        (try simp only [Act.put, la1, la2, la3])
        refine doH (i := 6) rfl (by kernel_rfl) (by rfl) (fun K hK => ?_)
        go_simp
        go_at_call 11
        refine (HD2.out y103 o5 c5 hR5 h30 h20 HSM.out.1 HSM.out.2).mono ?_
        rintro e y104 ⟨cs2, ds2, rfl, hX, hXd, hyc⟩
        have hvy := hE103.size
        have vb : gb < y103.heap.size := kb.lt
        have va : ga < y103.heap.size := ka.lt
        have hE104 : Below w8.heap.size w8 y104 := hE103.trans (hyc.mono hE103.size)
        replace kb := kb.below hyc kb.lt
        replace ka := ka.below hyc ka.lt
        have hs1 := hX.size
        have hs2 := hXd.size
        have ho1 := hX.one
        have ho2 := hXd.one
        obtain ⟨yc, hycc⟩ : ∃ yc, y104 = yc := ⟨_, rfl⟩
        rw [hycc] at hX
        have hbc : Below yc.heap.size yc y104 := by rw [hycc]; exact Below.refl _ _
        have ub : gb < yc.heap.size := by rw [← hycc]; exact kb.lt
        have ua : ga < yc.heap.size := by rw [← hycc]; exact ka.lt
        clear hycc hXd hO hR5
        go_wp2_with fail
        refine hK.out _ _ (HKT.out _ hE104) (fun hHeld => ?_)
        clear hK K
        (try simp only [Act.put, la1, la2, la3])
        iterate 4 ((first | apply tk 7 rfl rfl (by kernel_rfl) | apply tk 8 rfl rfl (by kernel_rfl) | apply tk 9 rfl rfl (by kernel_rfl) | apply tk 10 rfl rfl (by kernel_rfl)); (case hQ => exact fun _ _ _ h => h); (case hw => rfl); (case hy => (intro w hSw; (try dsimp only at hSw); go_simp; try with_reducible rfl)); (case hS => assumption); (try simp only [Act.put, la1, la2, la3]))
        refine doH (i := 13) rfl (by kernel_rfl) (by rfl) (fun K hK => ?_)
        refine wp_store_row 37 _ _ rfl ga cs2 rfl rfl 37 zeroSt ka (iSt hs1) hs1.symm ho1 ?_
        have hF1 := row_below hE104 ga (by omega) cs2
        refine hK.out _ _ (HKT.out _ hF1) (fun hHeld => ?_)
        clear hK K
        (try simp only [Act.put])
        refine doH (i := 14) rfl (by kernel_rfl) (by rfl) (fun K hK => ?_)
        refine wp_store_row 40 _ _ rfl gb ds2 rfl rfl 40 zeroWd (Blk.setRow kb (by omega) cs2) (iWd hs2) hs2.symm ho2 ?_
        have hF2 := row_below hF1 gb (by omega) ds2
        refine hK.out _ _ (HKT.out _ hF2) (fun hHeld => ?_)
        clear hK K
        (try simp only [Act.put])
        apply tk 15 rfl rfl (by kernel_rfl); (case hQ => exact fun _ _ _ h => h); (case hw => rfl); (case hy => (intro w hSw; (try dsimp only at hSw); go_simp; try with_reducible rfl)); (case hS => assumption); (try simp only [Act.put, la1, la2, la3])
        refine wpAnyH_done (by kernel_rfl) ?_ _
        go_wp2_with fail
        go_meet
        obtain ⟨t1, t2⟩ := rise_tail (B := w8.heap.size) (gb := gb) (ds2 := ds2) hX hbc ka (by omega) (by omega) (fun q _ _ => by omega)
        exact ⟨ga, gb, cs2, 0, rfl, rfl, rfl, la, t1, t2, hF2, rfl⟩
      case rest =>
        obtain ⟨ga, _, cs2, _, rfl, rfl, rfl, lga, ka, hS2, hb11, _⟩ := hcut
        generalize wc = w9 at *
        replace ks := ks.below hb11 ks.lt
        have hS9 := hS8.below hb11
        have hb12 := hb10.trans (hb11.mono hb10.size)
        obtain ⟨va, va', rfl, ⟨o1, c1, rfl, hA, _, _, _⟩, ⟨o1', c1', rfl, hA', _, _, _⟩⟩ := hS9
        obtain ⟨vb, vb', rfl, ⟨o2, c2, rfl, hB, _, _, _⟩, ⟨o2', c2', rfl, hB', _, _, _⟩⟩ := hS2
        obtain ⟨⟨tkx, htk⟩, hdx, hhd⟩ := HPF.out
        obtain ⟨n1, hn1⟩ : ∃ x, P1.tk.length = x := ⟨_, rfl⟩
        obtain ⟨m1, hm1⟩ : ∃ x, P1.hd.length = x := ⟨_, rfl⟩
        obtain ⟨n2, hn2⟩ : ∃ x, P2.tk.length = x := ⟨_, rfl⟩
        obtain ⟨m2, hm2⟩ : ∃ x, P2.hd.length = x := ⟨_, rfl⟩
        have hlt1 : n1 ≤ n2 := by rw [← hn1, ← hn2, htk, List.length_append]; omega
        have hlt2 : m1 ≤ m2 := by rw [← hm1, ← hm2, hhd, List.length_append]; omega
        have hmost := HI2.out.most
        have hmh := HI2.out.heads
        rw [hn2] at hmost hmh
        rw [hm2] at hmh
        have HRQ : Hid (∀ W, Below w9.heap.size w9 W → ∀ k, k < n1 → ∃ r : Req, ∃ g o g' o', o1 = some ⟨g, o, none⟩ ∧ o2 = some ⟨g', o', none⟩ ∧ (loadVar 24 ⟨g, o + k * 5, none⟩).run Tryz.prog W = .ok (.agg #[.int .i64 r.c, .int .i64 r.q, .string r.l, .string r.k, .string r.v]) W ∧ (loadVar 24 ⟨g', o' + k * 5, none⟩).run Tryz.prog W = .ok (.agg #[.int .i64 r.c, .int .i64 r.q, .string r.l, .string r.k, .string r.v]) W) := Lib.hid fun W hW k hk => by
          obtain ⟨g, o, h1, _⟩ := req_at hA (i := k) (by omega)
          obtain ⟨g', o', h1', _⟩ := req_at hB (i := k) (by omega)
          refine ⟨P1.tk[k]'(by omega), g, o, g', o', h1, h1', ?_, ?_⟩
          · have := hA.below hW
            rw [h1] at this
            exact RowG.load reqOk this (List.getElem?_eq_getElem (by omega))
          · have := hB.below hW
            rw [h1'] at this
            exact RowG.load reqOk this (by rw [htk, List.getElem?_append_left (by omega)]; exact List.getElem?_eq_getElem (by omega))
        have HHD : Hid (∀ k, k < m2 → ∃ x : Hd, x.q = (k : Int) + 1 ∧ x.z ≤ n2 ∧ 0 ≤ x.t ∧ ∃ g' o', o2' = some ⟨g', o', none⟩ ∧ (∀ W, Below w9.heap.size w9 W → (loadVar 67 ⟨g', o' + k * 5, none⟩).run Tryz.prog W = .ok (.agg #[.int .i64 x.q, .int .i64 x.z, .int .i64 x.t, .string x.r, .string x.m]) W) ∧
            (k < m1 → ∃ g o, o1' = some ⟨g, o, none⟩ ∧ ∀ W, Below w9.heap.size w9 W → (loadVar 67 ⟨g, o + k * 5, none⟩).run Tryz.prog W = .ok (.agg #[.int .i64 x.q, .int .i64 x.z, .int .i64 x.t, .string x.r, .string x.m]) W) ∧
            (∀ j, k = j + 1 → ∃ pz pt, pz < x.z ∧ pt ≤ x.t ∧ ∀ W, Below w9.heap.size w9 W → (loadVar 3 ⟨g', o' + j * 5 + 1, none⟩).run Tryz.prog W = .ok (.int .i64 pz) W ∧ (loadVar 3 ⟨g', o' + j * 5 + 2, none⟩).run Tryz.prog W = .ok (.int .i64 pt) W)) := Lib.hid fun k hk => by
          obtain ⟨g', o', h1', _⟩ := hd_at hB' (i := k) (by omega)
          have hx : P2.hd.getD k default = P2.hd[k]'(by omega) := by rw [List.getD_eq_getElem?_getD, List.getElem?_eq_getElem (by omega)]; rfl
          have i1 := HI2.out.hq k (by omega)
          have i2 := HI2.out.size (i := k) (by omega)
          have i3 := HI2.out.ht k (by omega)
          have i4 := HI2.out.tpos k (by omega)
          have i5 := HI2.out.hz k (by omega)
          rw [hx] at i1 i2 i3 i5
          rw [hn2] at i2
          refine ⟨P2.hd[k]'(by omega), i1, i2, by omega, g', o', h1', fun W hW => ?_, fun hk1 => ?_, fun j hj => ?_⟩
          · have := hB'.below hW
            rw [h1'] at this
            exact RowG.load hdOk this (List.getElem?_eq_getElem (by omega))
          · obtain ⟨g, o, h1, _⟩ := hd_at hA' (i := k) (by omega)
            refine ⟨g, o, h1, fun W hW => ?_⟩
            have := hA'.below hW
            rw [h1] at this
            have he : P1.hd[k]? = some (P2.hd[k]'(by omega)) := by
              rw [← List.getElem?_eq_getElem, hhd, List.getElem?_append_left (by omega)]
            exact RowG.load hdOk this he
          · subst hj
            obtain ⟨g2, o2, h2, hg2, _, d1, d2, _⟩ := hd_at hB' (i := j) (by omega)
            rw [h1'] at h2
            injection h2 with h2
            injection h2 with h3 h4
            subst h3 h4
            have hy : P2.hd.getD j default = P2.hd[j]'(by omega) := by rw [List.getD_eq_getElem?_getD, List.getElem?_eq_getElem (by omega)]; rfl
            refine ⟨(P2.hd[j]'(by omega)).z, (P2.hd[j]'(by omega)).t, ?_, ?_, fun W hW => ⟨num_load ((hW.cell (p := ⟨g', o' + j * 5 + 1, none⟩) hg2).trans d1), num_load ((hW.cell (p := ⟨g', o' + j * 5 + 2, none⟩) hg2).trans d2)⟩⟩
            · rw [← hy]; exact i5
            · rw [← hy]; exact i3
        have HSL : Hid (∀ W, Below w9.heap.size w9 W → (loadVar 28 ⟨w7.heap.size, 0, none⟩).run Tryz.prog W = .ok (.slice o1 n1 c1) W ∧ (loadVar 28 ⟨ga, 0, none⟩).run Tryz.prog W = .ok (.slice o2 n2 c2) W ∧ (loadVar 35 ⟨w7.heap.size, 21, none⟩).run Tryz.prog W = .ok (.slice o1' m1 c1') W ∧ (loadVar 35 ⟨ga, 21, none⟩).run Tryz.prog W = .ok (.slice o2' m2 c2') W) := Lib.hid fun W hW => by
          rw [← hn1, ← hn2, ← hm1, ← hm2]
          exact ⟨sl_req ((ks.below hW ks.lt).cell 0), sl_req ((ka.below hW ka.lt).cell 0), sl_hd ((ks.below hW ks.lt).cell 21), sl_hd ((ka.below hW ka.lt).cell 21)⟩
        obtain ⟨l0, l1, l2, l3⟩ := HSL.out w9 (Below.refl _ _)
        clear ks ka hS8 hA hA' hB hB' htk hhd hn1 hn2 hm1 hm2 hb11 hb10 kT HKT HOA HOB HLN HLM HNN HD2 HD1
        have hlt1' : ¬ (n2 : Int) < (n1 : Int) := by omega
        have hlt2' : ¬ (m2 : Int) < (m1 : Int) := by omega
        go_wp2_with fail
        go_loopw [12] (fun i wr => ∃ k : Nat, k ≤ n1 ∧ i = .int .i64 k ∧ Below w9.heap.size w9 wr) (fun i _ => n1 - (intOf i).toNat)
        case atStart => exact ⟨0, by omega, rfl, Below.refl _ _⟩
        case round =>
          clear l0 l1 l2 l3
          obtain ⟨k, hk, rfl, hW⟩ := hrel
          obtain ⟨l0, l1, l2, l3⟩ := HSL.out wr hW
          by_cases hlt : k < n1
          · have hlt' : (k : Int) < (n1 : Int) := by omega
            have hlt3' : (k : Int) < (n2 : Int) := by omega
            obtain ⟨r, g, o, g', o', rfl, rfl, d0, d1⟩ := HRQ.out wr.drew hW.drew k hlt
            obtain ⟨rc, rq, rl, rk, rv⟩ := r
            have HW9 := Lib.hid hW.drew
            have HS9 : Hid ((fun W => ((loadVar 28 ⟨w7.heap.size, 0, none⟩).run Tryz.prog W = .ok (.slice (some ⟨g, o, none⟩) n1 c1) W ∧ (loadVar 28 ⟨ga, 0, none⟩).run Tryz.prog W = .ok (.slice (some ⟨g', o', none⟩) n2 c2) W) ∧ (loadVar 24 ⟨g, o + k * 5, none⟩).run Tryz.prog W = .ok (.agg #[.int .i64 rc, .int .i64 rq, .string rl, .string rk, .string rv]) W ∧ (loadVar 24 ⟨g', o' + k * 5, none⟩).run Tryz.prog W = .ok (.agg #[.int .i64 rc, .int .i64 rq, .string rl, .string rk, .string rv]) W) wr.drew) := Lib.hid ⟨⟨(HSL.out wr.drew hW.drew).1, (HSL.out wr.drew hW.drew).2.1⟩, d0, d1⟩
            clear hW d0 d1
            go_wp2_with fail
            refine wp_region_held_drew (S := fun W => ((loadVar 28 ⟨w7.heap.size, 0, none⟩).run Tryz.prog W = .ok (.slice (some ⟨g, o, none⟩) n1 c1) W ∧ (loadVar 28 ⟨ga, 0, none⟩).run Tryz.prog W = .ok (.slice (some ⟨g', o', none⟩) n2 c2) W) ∧ (loadVar 24 ⟨g, o + k * 5, none⟩).run Tryz.prog W = .ok (.agg #[.int .i64 rc, .int .i64 rq, .string rl, .string rk, .string rv]) W ∧ (loadVar 24 ⟨g', o' + k * 5, none⟩).run Tryz.prog W = .ok (.agg #[.int .i64 rc, .int .i64 rq, .string rl, .string rk, .string rv]) W) (by kernel_rfl) ?_ (fun hHeld0 => ?_)
            · exact HS9.out
            iterate 8 ((first | apply tk 0 rfl rfl (by kernel_rfl) | apply tk 1 rfl rfl (by kernel_rfl) | apply tk 2 rfl rfl (by kernel_rfl) | apply tk 3 rfl rfl (by kernel_rfl) | apply tk 4 rfl rfl (by kernel_rfl) | apply tk 5 rfl rfl (by kernel_rfl) | apply tk 6 rfl rfl (by kernel_rfl) | apply tk 7 rfl rfl (by kernel_rfl)); (case hQ => exact fun _ _ _ h => h); (case hw => rfl); (case hy => (intro w hSw; (try dsimp only at hSw); go_simp; try with_reducible rfl)); (case hS => assumption); (try simp only [Act.put, la1, la2, la3]))
            iterate 3 ((first | apply tk 8 rfl rfl (by kernel_rfl) | apply tk 9 rfl rfl (by kernel_rfl) | apply tk 10 rfl rfl (by kernel_rfl)); (case hQ => exact fun _ _ _ h => h); (case hw => rfl); (case hy => (intro w hSw; (try dsimp only at hSw); go_simp; try with_reducible rfl)); (case hS => assumption); (try simp only [Act.put, la1, la2, la3]))
            refine wpAnyH_done (by kernel_rfl) ?_ _
            generalize wr.drew = wz at *
            go_wp2_with fail
            go_roundw
            case rel => exact ⟨k + 1, by omega, by go_num, HW9.out⟩
            case measure => simp [intOf]; omega
          · obtain rfl : n1 = k := by omega
            have hlt' : ¬ (n1 : Int) < (n1 : Int) := by omega
            go_wp2_with fail
            go_loopw [13] (fun i wr => ∃ k : Nat, k ≤ m2 ∧ i = .int .i64 k ∧ Below w9.heap.size w9 wr) (fun i _ => m2 - (intOf i).toNat)
            case atStart => exact ⟨0, by omega, rfl, hW⟩
            case round =>
              clear l0 l1 l2 l3 hW hlt hlt'
              obtain ⟨i, hi, rfl, hW⟩ := hrel
              obtain ⟨l0, l1, l2, l3⟩ := HSL.out wr hW
              by_cases hlt : i < m2
              · have hlt' : (i : Int) < (m2 : Int) := by omega
                obtain ⟨x, hxq, hxz, hxt, g', o', rfl, d2, d1, dp⟩ := HHD.out i hlt
                obtain ⟨xq, hz, ht, hr, hm⟩ := x
                dsimp only at hxq hxz hxt d1 d2 dp
                subst hxq
                have d0 := d2 wr hW
                obtain ⟨wh, hwh⟩ : ∃ wh, wr.alloc (.cells #[.int .i64 ((i : Int) + 1), .int .i64 hz, .int .i64 ht, .string hr, .string hm] 67) = wh := ⟨_, rfl⟩
                have hbh : Below wr.heap.size wr wh := by rw [← hwh]; exact (Below.refl _ wr).alloc (Nat.le_refl _) _
                have kh : Blk wh wr.heap.size 67 #[.int .i64 ((i : Int) + 1), .int .i64 hz, .int .i64 ht, .string hr, .string hm] := by rw [← hwh]; exact Blk.new _ _ _
                have hWh := hW.trans (hbh.mono hW.size)
                have hzh : ∀ W : World, (zeroValue 67).run Tryz.prog W = .ok (.agg zeroHd) W := fun W => by kernel_rfl
                have HWH := Lib.hid hwh
                have HKH := Lib.hid kh
                have HXT := Lib.hid (And.intro hxz hxt)
                obtain ⟨gh, hgh⟩ : ∃ gh, wr.heap.size = gh := ⟨_, rfl⟩
                have HGH := Lib.hid hgh
                rw [hgh] at kh
                have hz1 : ¬ (n2 : Int) < hz := by omega
                have ht1 : ¬ ht < 0 := by omega
                have e1 : IntKind.i64.wrap ((i : Int) + 1) = (i : Int) + 1 := by rw [IntKind.wrap_i64]; omega
                have HWD := Lib.hid hWh.drew
                clear hwh hbh hgh hW
                go_wp2_with (first
                  | (refine wpList_store_row rfl 67 _ _ rfl wr.heap.size #[.int .i64 ((i : Int) + 1), .int .i64 hz, .int .i64 ht, .string hr, .string hm] rfl rfl 67 zeroHd (Blk.new _ _ _) info5 rfl (hd_one _ _ _ _ _) ?_; rw [World.setRow_alloc_new, HWH.out, HGH.out])
                  | rw [HWH.out, HGH.out])
                have kd : Blk wh.drew gh 67 #[.int .i64 ((i : Int) + 1), .int .i64 hz, .int .i64 ht, .string hr, .string hm] := kh.drew
                have q1 := head_load5 kd
                have q2 := num_load (kd.cell 0)
                have q3 := num_load (kd.cell 1)
                have q4 := num_load (kd.cell 2)
                obtain ⟨b0, b1, b2, b3⟩ := HSL.out wh.drew HWD.out
                clear hz1 ht1 hxz hxt
                have hz1 : ¬ (n2 : Int) < hz := by have := HXT.out.1; omega
                have ht1 : ¬ ht < 0 := by have := HXT.out.2; omega
                by_cases him : i < m1
                · have him' : (i : Int) < (m1 : Int) := by omega
                  obtain ⟨g, o, rfl, d3⟩ := d1 him
                  have b4 := d3 wh.drew HWD.out
                  clear d3
                  by_cases hpos : 0 < i
                  · obtain ⟨j, hj⟩ : ∃ j, i = j + 1 := ⟨i - 1, by omega⟩
                    obtain ⟨pz, pt, hpz, hpt, dq⟩ := dp j hj
                    have hi0 : (0 : Int) < (i : Int) := by omega
                    have hjm : (j : Int) < (m2 : Int) := by omega
                    have hj0 : (0 : Int) ≤ (j : Int) := by omega
                    have e2 : IntKind.i64.wrap ((i : Int) - 1) = (j : Int) := by rw [IntKind.wrap_i64]; omega
                    have hz2 : ¬ hz ≤ pz := by omega
                    have ht2 : ¬ ht < pt := by omega
                    have q5 := (dq wh.drew HWD.out).1
                    have q6 := (dq wh.drew HWD.out).2
                    clear dq
                    have HJ := Lib.hid hj
                    clear hj
                    have HS17 : Hid ((fun W => (loadVar 67 ⟨gh, 0, none⟩).run Tryz.prog W = .ok (.agg #[.int .i64 ((i : Int) + 1), .int .i64 hz, .int .i64 ht, .string hr, .string hm]) W ∧ (loadVar 3 ⟨gh, 0, none⟩).run Tryz.prog W = .ok (.int .i64 ((i : Int) + 1)) W ∧ (loadVar 3 ⟨gh, 1, none⟩).run Tryz.prog W = .ok (.int .i64 hz) W ∧ (loadVar 3 ⟨gh, 2, none⟩).run Tryz.prog W = .ok (.int .i64 ht) W ∧ (loadVar 28 ⟨ga, 0, none⟩).run Tryz.prog W = .ok (.slice o2 n2 c2) W ∧ (loadVar 35 ⟨w7.heap.size, 21, none⟩).run Tryz.prog W = .ok (.slice (some ⟨g, o, none⟩) m1 c1') W ∧ (loadVar 35 ⟨ga, 21, none⟩).run Tryz.prog W = .ok (.slice (some ⟨g', o', none⟩) m2 c2') W ∧ (loadVar 67 ⟨g, o + i * 5, none⟩).run Tryz.prog W = .ok (.agg #[.int .i64 ((i : Int) + 1), .int .i64 hz, .int .i64 ht, .string hr, .string hm]) W ∧ (loadVar 3 ⟨g', o' + j * 5 + 1, none⟩).run Tryz.prog W = .ok (.int .i64 pz) W ∧ (loadVar 3 ⟨g', o' + j * 5 + 2, none⟩).run Tryz.prog W = .ok (.int .i64 pt) W) wh.drew) := Lib.hid ⟨q1, q2, q3, q4, b1, b2, b3, b4, q5, q6⟩
                    clear b0 b1 b2 b3 q1 q2 q3 q4 kd kh d0 d1 d2 dp l0 l1 l2 l3
                    refine wp_region_held_drew (S := fun W => (loadVar 67 ⟨gh, 0, none⟩).run Tryz.prog W = .ok (.agg #[.int .i64 ((i : Int) + 1), .int .i64 hz, .int .i64 ht, .string hr, .string hm]) W ∧ (loadVar 3 ⟨gh, 0, none⟩).run Tryz.prog W = .ok (.int .i64 ((i : Int) + 1)) W ∧ (loadVar 3 ⟨gh, 1, none⟩).run Tryz.prog W = .ok (.int .i64 hz) W ∧ (loadVar 3 ⟨gh, 2, none⟩).run Tryz.prog W = .ok (.int .i64 ht) W ∧ (loadVar 28 ⟨ga, 0, none⟩).run Tryz.prog W = .ok (.slice o2 n2 c2) W ∧ (loadVar 35 ⟨w7.heap.size, 21, none⟩).run Tryz.prog W = .ok (.slice (some ⟨g, o, none⟩) m1 c1') W ∧ (loadVar 35 ⟨ga, 21, none⟩).run Tryz.prog W = .ok (.slice (some ⟨g', o', none⟩) m2 c2') W ∧ (loadVar 67 ⟨g, o + i * 5, none⟩).run Tryz.prog W = .ok (.agg #[.int .i64 ((i : Int) + 1), .int .i64 hz, .int .i64 ht, .string hr, .string hm]) W ∧ (loadVar 3 ⟨g', o' + j * 5 + 1, none⟩).run Tryz.prog W = .ok (.int .i64 pz) W ∧ (loadVar 3 ⟨g', o' + j * 5 + 2, none⟩).run Tryz.prog W = .ok (.int .i64 pt) W) (by kernel_rfl) ?_ (fun hHeld0 => ?_)
                    · exact HS17.out
                    iterate 8 ((first | apply tk 0 rfl rfl (by kernel_rfl) | apply tk 1 rfl rfl (by kernel_rfl) | apply tk 2 rfl rfl (by kernel_rfl) | apply tk 3 rfl rfl (by kernel_rfl) | apply tk 4 rfl rfl (by kernel_rfl) | apply tk 5 rfl rfl (by kernel_rfl) | apply tk 6 rfl rfl (by kernel_rfl) | apply tk 7 rfl rfl (by kernel_rfl)); (case hQ => exact fun _ _ _ h => h); (case hw => rfl); (case hy => (intro w hSw; (try dsimp only at hSw); go_simp; try with_reducible rfl)); (case hS => assumption); (try simp only [Act.put, la1, la2, la3]))
                    iterate 8 ((first | apply tk 8 rfl rfl (by kernel_rfl) | apply tk 9 rfl rfl (by kernel_rfl) | apply tk 10 rfl rfl (by kernel_rfl) | apply tk 11 rfl rfl (by kernel_rfl) | apply tk 12 rfl rfl (by kernel_rfl) | apply tk 13 rfl rfl (by kernel_rfl) | apply tk 14 rfl rfl (by kernel_rfl) | apply tk 15 rfl rfl (by kernel_rfl)); (case hQ => exact fun _ _ _ h => h); (case hw => rfl); (case hy => (intro w hSw; (try dsimp only at hSw); go_simp; try with_reducible rfl)); (case hS => assumption); (try simp only [Act.put, la1, la2, la3]))
                    iterate 8 ((first | apply tk 16 rfl rfl (by kernel_rfl) | apply tk 17 rfl rfl (by kernel_rfl) | apply tk 18 rfl rfl (by kernel_rfl) | apply tk 19 rfl rfl (by kernel_rfl) | apply tk 20 rfl rfl (by kernel_rfl) | apply tk 21 rfl rfl (by kernel_rfl) | apply tk 22 rfl rfl (by kernel_rfl) | apply tk 23 rfl rfl (by kernel_rfl)); (case hQ => exact fun _ _ _ h => h); (case hw => rfl); (case hy => (intro w hSw; (try dsimp only at hSw); go_simp; try with_reducible rfl)); (case hS => assumption); (try simp only [Act.put, la1, la2, la3]))
                    iterate 8 ((first | apply tk 24 rfl rfl (by kernel_rfl) | apply tk 25 rfl rfl (by kernel_rfl) | apply tk 26 rfl rfl (by kernel_rfl) | apply tk 27 rfl rfl (by kernel_rfl) | apply tk 28 rfl rfl (by kernel_rfl) | apply tk 29 rfl rfl (by kernel_rfl) | apply tk 30 rfl rfl (by kernel_rfl) | apply tk 31 rfl rfl (by kernel_rfl)); (case hQ => exact fun _ _ _ h => h); (case hw => rfl); (case hy => (intro w hSw; (try dsimp only at hSw); go_simp; try with_reducible rfl)); (case hS => assumption); (try simp only [Act.put, la1, la2, la3]))
                    iterate 8 ((first | apply tk 32 rfl rfl (by kernel_rfl) | apply tk 33 rfl rfl (by kernel_rfl) | apply tk 34 rfl rfl (by kernel_rfl) | apply tk 35 rfl rfl (by kernel_rfl) | apply tk 36 rfl rfl (by kernel_rfl) | apply tk 37 rfl rfl (by kernel_rfl) | apply tk 38 rfl rfl (by kernel_rfl) | apply tk 39 rfl rfl (by kernel_rfl)); (case hQ => exact fun _ _ _ h => h); (case hw => rfl); (case hy => (intro w hSw; (try dsimp only at hSw); go_simp; try with_reducible rfl)); (case hS => assumption); (try simp only [Act.put, la1, la2, la3]))
                    iterate 8 ((first | apply tk 40 rfl rfl (by kernel_rfl) | apply tk 41 rfl rfl (by kernel_rfl) | apply tk 42 rfl rfl (by kernel_rfl) | apply tk 43 rfl rfl (by kernel_rfl) | apply tk 44 rfl rfl (by kernel_rfl) | apply tk 45 rfl rfl (by kernel_rfl) | apply tk 46 rfl rfl (by kernel_rfl) | apply tk 47 rfl rfl (by kernel_rfl)); (case hQ => exact fun _ _ _ h => h); (case hw => rfl); (case hy => (intro w hSw; (try dsimp only at hSw); go_simp; try with_reducible rfl)); (case hS => assumption); (try simp only [Act.put, la1, la2, la3]))
                    iterate 8 ((first | apply tk 48 rfl rfl (by kernel_rfl) | apply tk 49 rfl rfl (by kernel_rfl) | apply tk 50 rfl rfl (by kernel_rfl) | apply tk 51 rfl rfl (by kernel_rfl) | apply tk 52 rfl rfl (by kernel_rfl) | apply tk 53 rfl rfl (by kernel_rfl) | apply tk 54 rfl rfl (by kernel_rfl) | apply tk 55 rfl rfl (by kernel_rfl)); (case hQ => exact fun _ _ _ h => h); (case hw => rfl); (case hy => (intro w hSw; (try dsimp only at hSw); go_simp; try with_reducible rfl)); (case hS => assumption); (try simp only [Act.put, la1, la2, la3]))
                    iterate 6 ((first | apply tk 56 rfl rfl (by kernel_rfl) | apply tk 57 rfl rfl (by kernel_rfl) | apply tk 58 rfl rfl (by kernel_rfl) | apply tk 59 rfl rfl (by kernel_rfl) | apply tk 60 rfl rfl (by kernel_rfl) | apply tk 61 rfl rfl (by kernel_rfl)); (case hQ => exact fun _ _ _ h => h); (case hw => rfl); (case hy => (intro w hSw; (try dsimp only at hSw); go_simp; try with_reducible rfl)); (case hS => assumption); (try simp only [Act.put, la1, la2, la3]))
                    refine wpAnyH_done (by kernel_rfl) ?_ _
                    generalize wh.drew = wz at *
                    go_wp2_with fail
                    go_roundw
                    case rel => exact ⟨i + 1, by omega, by go_num, HWD.out⟩
                    case measure => simp [intOf]; omega
                  · have hi0 : ¬ (0 : Int) < (i : Int) := by omega
                    have hposF : (0 < i) = False := by rw [eq_iff_iff]; exact ⟨fun h => hpos h, fun h => h.elim⟩
                    clear hpos
                    have HS17 : Hid ((fun W => (loadVar 67 ⟨gh, 0, none⟩).run Tryz.prog W = .ok (.agg #[.int .i64 ((i : Int) + 1), .int .i64 hz, .int .i64 ht, .string hr, .string hm]) W ∧ (loadVar 3 ⟨gh, 0, none⟩).run Tryz.prog W = .ok (.int .i64 ((i : Int) + 1)) W ∧ (loadVar 3 ⟨gh, 1, none⟩).run Tryz.prog W = .ok (.int .i64 hz) W ∧ (loadVar 3 ⟨gh, 2, none⟩).run Tryz.prog W = .ok (.int .i64 ht) W ∧ (loadVar 28 ⟨ga, 0, none⟩).run Tryz.prog W = .ok (.slice o2 n2 c2) W ∧ (loadVar 35 ⟨w7.heap.size, 21, none⟩).run Tryz.prog W = .ok (.slice (some ⟨g, o, none⟩) m1 c1') W ∧ (loadVar 35 ⟨ga, 21, none⟩).run Tryz.prog W = .ok (.slice (some ⟨g', o', none⟩) m2 c2') W ∧ (loadVar 67 ⟨g, o + i * 5, none⟩).run Tryz.prog W = .ok (.agg #[.int .i64 ((i : Int) + 1), .int .i64 hz, .int .i64 ht, .string hr, .string hm]) W) wh.drew) := Lib.hid ⟨q1, q2, q3, q4, b1, b2, b3, b4⟩
                    clear b0 b1 b2 b3 q1 q2 q3 q4 kd kh d0 d1 d2 dp l0 l1 l2 l3
                    refine wp_region_held_drew (S := fun W => (loadVar 67 ⟨gh, 0, none⟩).run Tryz.prog W = .ok (.agg #[.int .i64 ((i : Int) + 1), .int .i64 hz, .int .i64 ht, .string hr, .string hm]) W ∧ (loadVar 3 ⟨gh, 0, none⟩).run Tryz.prog W = .ok (.int .i64 ((i : Int) + 1)) W ∧ (loadVar 3 ⟨gh, 1, none⟩).run Tryz.prog W = .ok (.int .i64 hz) W ∧ (loadVar 3 ⟨gh, 2, none⟩).run Tryz.prog W = .ok (.int .i64 ht) W ∧ (loadVar 28 ⟨ga, 0, none⟩).run Tryz.prog W = .ok (.slice o2 n2 c2) W ∧ (loadVar 35 ⟨w7.heap.size, 21, none⟩).run Tryz.prog W = .ok (.slice (some ⟨g, o, none⟩) m1 c1') W ∧ (loadVar 35 ⟨ga, 21, none⟩).run Tryz.prog W = .ok (.slice (some ⟨g', o', none⟩) m2 c2') W ∧ (loadVar 67 ⟨g, o + i * 5, none⟩).run Tryz.prog W = .ok (.agg #[.int .i64 ((i : Int) + 1), .int .i64 hz, .int .i64 ht, .string hr, .string hm]) W) (by kernel_rfl) ?_ (fun hHeld0 => ?_)
                    · exact HS17.out
                    iterate 8 ((first | apply tk 0 rfl rfl (by kernel_rfl) | apply tk 1 rfl rfl (by kernel_rfl) | apply tk 2 rfl rfl (by kernel_rfl) | apply tk 3 rfl rfl (by kernel_rfl) | apply tk 4 rfl rfl (by kernel_rfl) | apply tk 5 rfl rfl (by kernel_rfl) | apply tk 6 rfl rfl (by kernel_rfl) | apply tk 7 rfl rfl (by kernel_rfl)); (case hQ => exact fun _ _ _ h => h); (case hw => rfl); (case hy => (intro w hSw; (try dsimp only at hSw); go_simp; try with_reducible rfl)); (case hS => assumption); (try simp only [Act.put, la1, la2, la3]))
                    iterate 8 ((first | apply tk 8 rfl rfl (by kernel_rfl) | apply tk 9 rfl rfl (by kernel_rfl) | apply tk 10 rfl rfl (by kernel_rfl) | apply tk 11 rfl rfl (by kernel_rfl) | apply tk 12 rfl rfl (by kernel_rfl) | apply tk 13 rfl rfl (by kernel_rfl) | apply tk 14 rfl rfl (by kernel_rfl) | apply tk 15 rfl rfl (by kernel_rfl)); (case hQ => exact fun _ _ _ h => h); (case hw => rfl); (case hy => (intro w hSw; (try dsimp only at hSw); go_simp; try with_reducible rfl)); (case hS => assumption); (try simp only [Act.put, la1, la2, la3]))
                    iterate 8 ((first | apply tk 16 rfl rfl (by kernel_rfl) | apply tk 17 rfl rfl (by kernel_rfl) | apply tk 18 rfl rfl (by kernel_rfl) | apply tk 19 rfl rfl (by kernel_rfl) | apply tk 20 rfl rfl (by kernel_rfl) | apply tk 21 rfl rfl (by kernel_rfl) | apply tk 22 rfl rfl (by kernel_rfl) | apply tk 23 rfl rfl (by kernel_rfl)); (case hQ => exact fun _ _ _ h => h); (case hw => rfl); (case hy => (intro w hSw; (try dsimp only at hSw); go_simp; try with_reducible rfl)); (case hS => assumption); (try simp only [Act.put, la1, la2, la3]))
                    apply tk 24 rfl rfl (by kernel_rfl); (case hQ => exact fun _ _ _ h => h); (case hw => rfl); (case hy => (intro w hSw; (try dsimp only at hSw); go_simp; try with_reducible rfl)); (case hS => assumption); (try simp only [Act.put, la1, la2, la3])
                    iterate 8 ((first | refine sk 25 rfl rfl (by kernel_rfl) ?_ ?_ ?_ ?_ | refine sk 26 rfl rfl (by kernel_rfl) ?_ ?_ ?_ ?_ | refine sk 27 rfl rfl (by kernel_rfl) ?_ ?_ ?_ ?_ | refine sk 28 rfl rfl (by kernel_rfl) ?_ ?_ ?_ ?_ | refine sk 29 rfl rfl (by kernel_rfl) ?_ ?_ ?_ ?_ | refine sk 30 rfl rfl (by kernel_rfl) ?_ ?_ ?_ ?_ | refine sk 31 rfl rfl (by kernel_rfl) ?_ ?_ ?_ ?_ | refine sk 32 rfl rfl (by kernel_rfl) ?_ ?_ ?_ ?_); exact fun _ _ _ h => h; rfl; assumption; (try simp only [Act.put, la1, la2, la3]))
                    iterate 8 ((first | refine sk 33 rfl rfl (by kernel_rfl) ?_ ?_ ?_ ?_ | refine sk 34 rfl rfl (by kernel_rfl) ?_ ?_ ?_ ?_ | refine sk 35 rfl rfl (by kernel_rfl) ?_ ?_ ?_ ?_ | refine sk 36 rfl rfl (by kernel_rfl) ?_ ?_ ?_ ?_ | refine sk 37 rfl rfl (by kernel_rfl) ?_ ?_ ?_ ?_ | refine sk 38 rfl rfl (by kernel_rfl) ?_ ?_ ?_ ?_ | refine sk 39 rfl rfl (by kernel_rfl) ?_ ?_ ?_ ?_ | refine sk 40 rfl rfl (by kernel_rfl) ?_ ?_ ?_ ?_); exact fun _ _ _ h => h; rfl; assumption; (try simp only [Act.put, la1, la2, la3]))
                    iterate 6 ((first | refine sk 41 rfl rfl (by kernel_rfl) ?_ ?_ ?_ ?_ | refine sk 42 rfl rfl (by kernel_rfl) ?_ ?_ ?_ ?_ | refine sk 43 rfl rfl (by kernel_rfl) ?_ ?_ ?_ ?_ | refine sk 44 rfl rfl (by kernel_rfl) ?_ ?_ ?_ ?_ | refine sk 45 rfl rfl (by kernel_rfl) ?_ ?_ ?_ ?_ | refine sk 46 rfl rfl (by kernel_rfl) ?_ ?_ ?_ ?_); exact fun _ _ _ h => h; rfl; assumption; (try simp only [Act.put, la1, la2, la3]))
                    iterate 8 ((first | apply tk 47 rfl rfl (by kernel_rfl) | apply tk 48 rfl rfl (by kernel_rfl) | apply tk 49 rfl rfl (by kernel_rfl) | apply tk 50 rfl rfl (by kernel_rfl) | apply tk 51 rfl rfl (by kernel_rfl) | apply tk 52 rfl rfl (by kernel_rfl) | apply tk 53 rfl rfl (by kernel_rfl) | apply tk 54 rfl rfl (by kernel_rfl)); (case hQ => exact fun _ _ _ h => h); (case hw => rfl); (case hy => (intro w hSw; (try dsimp only at hSw); go_simp; try with_reducible rfl)); (case hS => assumption); (try simp only [Act.put, la1, la2, la3]))
                    iterate 7 ((first | apply tk 55 rfl rfl (by kernel_rfl) | apply tk 56 rfl rfl (by kernel_rfl) | apply tk 57 rfl rfl (by kernel_rfl) | apply tk 58 rfl rfl (by kernel_rfl) | apply tk 59 rfl rfl (by kernel_rfl) | apply tk 60 rfl rfl (by kernel_rfl) | apply tk 61 rfl rfl (by kernel_rfl)); (case hQ => exact fun _ _ _ h => h); (case hw => rfl); (case hy => (intro w hSw; (try dsimp only at hSw); go_simp; try with_reducible rfl)); (case hS => assumption); (try simp only [Act.put, la1, la2, la3]))
                    refine wpAnyH_done (by kernel_rfl) ?_ _
                    generalize wh.drew = wz at *
                    go_wp2_with fail
                    go_roundw
                    case rel => exact ⟨i + 1, by omega, by go_num, HWD.out⟩
                    case measure => simp [intOf]; omega
                · have him' : ¬ (i : Int) < (m1 : Int) := by omega
                  by_cases hpos : 0 < i
                  · obtain ⟨j, hj⟩ : ∃ j, i = j + 1 := ⟨i - 1, by omega⟩
                    obtain ⟨pz, pt, hpz, hpt, dq⟩ := dp j hj
                    have hi0 : (0 : Int) < (i : Int) := by omega
                    have hjm : (j : Int) < (m2 : Int) := by omega
                    have hj0 : (0 : Int) ≤ (j : Int) := by omega
                    have e2 : IntKind.i64.wrap ((i : Int) - 1) = (j : Int) := by rw [IntKind.wrap_i64]; omega
                    have hz2 : ¬ hz ≤ pz := by omega
                    have ht2 : ¬ ht < pt := by omega
                    have q5 := (dq wh.drew HWD.out).1
                    have q6 := (dq wh.drew HWD.out).2
                    clear dq
                    have HJ := Lib.hid hj
                    clear hj
                    have HS17 : Hid ((fun W => (loadVar 67 ⟨gh, 0, none⟩).run Tryz.prog W = .ok (.agg #[.int .i64 ((i : Int) + 1), .int .i64 hz, .int .i64 ht, .string hr, .string hm]) W ∧ (loadVar 3 ⟨gh, 0, none⟩).run Tryz.prog W = .ok (.int .i64 ((i : Int) + 1)) W ∧ (loadVar 3 ⟨gh, 1, none⟩).run Tryz.prog W = .ok (.int .i64 hz) W ∧ (loadVar 3 ⟨gh, 2, none⟩).run Tryz.prog W = .ok (.int .i64 ht) W ∧ (loadVar 28 ⟨ga, 0, none⟩).run Tryz.prog W = .ok (.slice o2 n2 c2) W ∧ (loadVar 35 ⟨w7.heap.size, 21, none⟩).run Tryz.prog W = .ok (.slice o1' m1 c1') W ∧ (loadVar 35 ⟨ga, 21, none⟩).run Tryz.prog W = .ok (.slice (some ⟨g', o', none⟩) m2 c2') W ∧ (loadVar 3 ⟨g', o' + j * 5 + 1, none⟩).run Tryz.prog W = .ok (.int .i64 pz) W ∧ (loadVar 3 ⟨g', o' + j * 5 + 2, none⟩).run Tryz.prog W = .ok (.int .i64 pt) W) wh.drew) := Lib.hid ⟨q1, q2, q3, q4, b1, b2, b3, q5, q6⟩
                    clear b0 b1 b2 b3 q1 q2 q3 q4 kd kh d0 d1 d2 dp l0 l1 l2 l3
                    refine wp_region_held_drew (S := fun W => (loadVar 67 ⟨gh, 0, none⟩).run Tryz.prog W = .ok (.agg #[.int .i64 ((i : Int) + 1), .int .i64 hz, .int .i64 ht, .string hr, .string hm]) W ∧ (loadVar 3 ⟨gh, 0, none⟩).run Tryz.prog W = .ok (.int .i64 ((i : Int) + 1)) W ∧ (loadVar 3 ⟨gh, 1, none⟩).run Tryz.prog W = .ok (.int .i64 hz) W ∧ (loadVar 3 ⟨gh, 2, none⟩).run Tryz.prog W = .ok (.int .i64 ht) W ∧ (loadVar 28 ⟨ga, 0, none⟩).run Tryz.prog W = .ok (.slice o2 n2 c2) W ∧ (loadVar 35 ⟨w7.heap.size, 21, none⟩).run Tryz.prog W = .ok (.slice o1' m1 c1') W ∧ (loadVar 35 ⟨ga, 21, none⟩).run Tryz.prog W = .ok (.slice (some ⟨g', o', none⟩) m2 c2') W ∧ (loadVar 3 ⟨g', o' + j * 5 + 1, none⟩).run Tryz.prog W = .ok (.int .i64 pz) W ∧ (loadVar 3 ⟨g', o' + j * 5 + 2, none⟩).run Tryz.prog W = .ok (.int .i64 pt) W) (by kernel_rfl) ?_ (fun hHeld0 => ?_)
                    · exact HS17.out
                    iterate 6 ((first | apply tk 0 rfl rfl (by kernel_rfl) | apply tk 1 rfl rfl (by kernel_rfl) | apply tk 2 rfl rfl (by kernel_rfl) | apply tk 3 rfl rfl (by kernel_rfl) | apply tk 4 rfl rfl (by kernel_rfl) | apply tk 5 rfl rfl (by kernel_rfl)); (case hQ => exact fun _ _ _ h => h); (case hw => rfl); (case hy => (intro w hSw; (try dsimp only at hSw); go_simp; try with_reducible rfl)); (case hS => assumption); (try simp only [Act.put, la1, la2, la3]))
                    iterate 7 ((first | refine sk 6 rfl rfl (by kernel_rfl) ?_ ?_ ?_ ?_ | refine sk 7 rfl rfl (by kernel_rfl) ?_ ?_ ?_ ?_ | refine sk 8 rfl rfl (by kernel_rfl) ?_ ?_ ?_ ?_ | refine sk 9 rfl rfl (by kernel_rfl) ?_ ?_ ?_ ?_ | refine sk 10 rfl rfl (by kernel_rfl) ?_ ?_ ?_ ?_ | refine sk 11 rfl rfl (by kernel_rfl) ?_ ?_ ?_ ?_ | refine sk 12 rfl rfl (by kernel_rfl) ?_ ?_ ?_ ?_); exact fun _ _ _ h => h; rfl; assumption; (try simp only [Act.put, la1, la2, la3]))
                    iterate 8 ((first | apply tk 13 rfl rfl (by kernel_rfl) | apply tk 14 rfl rfl (by kernel_rfl) | apply tk 15 rfl rfl (by kernel_rfl) | apply tk 16 rfl rfl (by kernel_rfl) | apply tk 17 rfl rfl (by kernel_rfl) | apply tk 18 rfl rfl (by kernel_rfl) | apply tk 19 rfl rfl (by kernel_rfl) | apply tk 20 rfl rfl (by kernel_rfl)); (case hQ => exact fun _ _ _ h => h); (case hw => rfl); (case hy => (intro w hSw; (try dsimp only at hSw); go_simp; try with_reducible rfl)); (case hS => assumption); (try simp only [Act.put, la1, la2, la3]))
                    iterate 8 ((first | apply tk 21 rfl rfl (by kernel_rfl) | apply tk 22 rfl rfl (by kernel_rfl) | apply tk 23 rfl rfl (by kernel_rfl) | apply tk 24 rfl rfl (by kernel_rfl) | apply tk 25 rfl rfl (by kernel_rfl) | apply tk 26 rfl rfl (by kernel_rfl) | apply tk 27 rfl rfl (by kernel_rfl) | apply tk 28 rfl rfl (by kernel_rfl)); (case hQ => exact fun _ _ _ h => h); (case hw => rfl); (case hy => (intro w hSw; (try dsimp only at hSw); go_simp; try with_reducible rfl)); (case hS => assumption); (try simp only [Act.put, la1, la2, la3]))
                    iterate 8 ((first | apply tk 29 rfl rfl (by kernel_rfl) | apply tk 30 rfl rfl (by kernel_rfl) | apply tk 31 rfl rfl (by kernel_rfl) | apply tk 32 rfl rfl (by kernel_rfl) | apply tk 33 rfl rfl (by kernel_rfl) | apply tk 34 rfl rfl (by kernel_rfl) | apply tk 35 rfl rfl (by kernel_rfl) | apply tk 36 rfl rfl (by kernel_rfl)); (case hQ => exact fun _ _ _ h => h); (case hw => rfl); (case hy => (intro w hSw; (try dsimp only at hSw); go_simp; try with_reducible rfl)); (case hS => assumption); (try simp only [Act.put, la1, la2, la3]))
                    iterate 8 ((first | apply tk 37 rfl rfl (by kernel_rfl) | apply tk 38 rfl rfl (by kernel_rfl) | apply tk 39 rfl rfl (by kernel_rfl) | apply tk 40 rfl rfl (by kernel_rfl) | apply tk 41 rfl rfl (by kernel_rfl) | apply tk 42 rfl rfl (by kernel_rfl) | apply tk 43 rfl rfl (by kernel_rfl) | apply tk 44 rfl rfl (by kernel_rfl)); (case hQ => exact fun _ _ _ h => h); (case hw => rfl); (case hy => (intro w hSw; (try dsimp only at hSw); go_simp; try with_reducible rfl)); (case hS => assumption); (try simp only [Act.put, la1, la2, la3]))
                    iterate 8 ((first | apply tk 45 rfl rfl (by kernel_rfl) | apply tk 46 rfl rfl (by kernel_rfl) | apply tk 47 rfl rfl (by kernel_rfl) | apply tk 48 rfl rfl (by kernel_rfl) | apply tk 49 rfl rfl (by kernel_rfl) | apply tk 50 rfl rfl (by kernel_rfl) | apply tk 51 rfl rfl (by kernel_rfl) | apply tk 52 rfl rfl (by kernel_rfl)); (case hQ => exact fun _ _ _ h => h); (case hw => rfl); (case hy => (intro w hSw; (try dsimp only at hSw); go_simp; try with_reducible rfl)); (case hS => assumption); (try simp only [Act.put, la1, la2, la3]))
                    iterate 8 ((first | apply tk 53 rfl rfl (by kernel_rfl) | apply tk 54 rfl rfl (by kernel_rfl) | apply tk 55 rfl rfl (by kernel_rfl) | apply tk 56 rfl rfl (by kernel_rfl) | apply tk 57 rfl rfl (by kernel_rfl) | apply tk 58 rfl rfl (by kernel_rfl) | apply tk 59 rfl rfl (by kernel_rfl) | apply tk 60 rfl rfl (by kernel_rfl)); (case hQ => exact fun _ _ _ h => h); (case hw => rfl); (case hy => (intro w hSw; (try dsimp only at hSw); go_simp; try with_reducible rfl)); (case hS => assumption); (try simp only [Act.put, la1, la2, la3]))
                    apply tk 61 rfl rfl (by kernel_rfl); (case hQ => exact fun _ _ _ h => h); (case hw => rfl); (case hy => (intro w hSw; (try dsimp only at hSw); go_simp; try with_reducible rfl)); (case hS => assumption); (try simp only [Act.put, la1, la2, la3])
                    refine wpAnyH_done (by kernel_rfl) ?_ _
                    generalize wh.drew = wz at *
                    go_wp2_with fail
                    go_roundw
                    case rel => exact ⟨i + 1, by omega, by go_num, HWD.out⟩
                    case measure => simp [intOf]; omega
                  · have hi0 : ¬ (0 : Int) < (i : Int) := by omega
                    have hposF : (0 < i) = False := by rw [eq_iff_iff]; exact ⟨fun h => hpos h, fun h => h.elim⟩
                    clear hpos
                    have HS17 : Hid ((fun W => (loadVar 67 ⟨gh, 0, none⟩).run Tryz.prog W = .ok (.agg #[.int .i64 ((i : Int) + 1), .int .i64 hz, .int .i64 ht, .string hr, .string hm]) W ∧ (loadVar 3 ⟨gh, 0, none⟩).run Tryz.prog W = .ok (.int .i64 ((i : Int) + 1)) W ∧ (loadVar 3 ⟨gh, 1, none⟩).run Tryz.prog W = .ok (.int .i64 hz) W ∧ (loadVar 3 ⟨gh, 2, none⟩).run Tryz.prog W = .ok (.int .i64 ht) W ∧ (loadVar 28 ⟨ga, 0, none⟩).run Tryz.prog W = .ok (.slice o2 n2 c2) W ∧ (loadVar 35 ⟨w7.heap.size, 21, none⟩).run Tryz.prog W = .ok (.slice o1' m1 c1') W ∧ (loadVar 35 ⟨ga, 21, none⟩).run Tryz.prog W = .ok (.slice (some ⟨g', o', none⟩) m2 c2') W) wh.drew) := Lib.hid ⟨q1, q2, q3, q4, b1, b2, b3⟩
                    clear b0 b1 b2 b3 q1 q2 q3 q4 kd kh d0 d1 d2 dp l0 l1 l2 l3
                    refine wp_region_held_drew (S := fun W => (loadVar 67 ⟨gh, 0, none⟩).run Tryz.prog W = .ok (.agg #[.int .i64 ((i : Int) + 1), .int .i64 hz, .int .i64 ht, .string hr, .string hm]) W ∧ (loadVar 3 ⟨gh, 0, none⟩).run Tryz.prog W = .ok (.int .i64 ((i : Int) + 1)) W ∧ (loadVar 3 ⟨gh, 1, none⟩).run Tryz.prog W = .ok (.int .i64 hz) W ∧ (loadVar 3 ⟨gh, 2, none⟩).run Tryz.prog W = .ok (.int .i64 ht) W ∧ (loadVar 28 ⟨ga, 0, none⟩).run Tryz.prog W = .ok (.slice o2 n2 c2) W ∧ (loadVar 35 ⟨w7.heap.size, 21, none⟩).run Tryz.prog W = .ok (.slice o1' m1 c1') W ∧ (loadVar 35 ⟨ga, 21, none⟩).run Tryz.prog W = .ok (.slice (some ⟨g', o', none⟩) m2 c2') W) (by kernel_rfl) ?_ (fun hHeld0 => ?_)
                    · exact HS17.out
                    iterate 6 ((first | apply tk 0 rfl rfl (by kernel_rfl) | apply tk 1 rfl rfl (by kernel_rfl) | apply tk 2 rfl rfl (by kernel_rfl) | apply tk 3 rfl rfl (by kernel_rfl) | apply tk 4 rfl rfl (by kernel_rfl) | apply tk 5 rfl rfl (by kernel_rfl)); (case hQ => exact fun _ _ _ h => h); (case hw => rfl); (case hy => (intro w hSw; (try dsimp only at hSw); go_simp; try with_reducible rfl)); (case hS => assumption); (try simp only [Act.put, la1, la2, la3]))
                    iterate 7 ((first | refine sk 6 rfl rfl (by kernel_rfl) ?_ ?_ ?_ ?_ | refine sk 7 rfl rfl (by kernel_rfl) ?_ ?_ ?_ ?_ | refine sk 8 rfl rfl (by kernel_rfl) ?_ ?_ ?_ ?_ | refine sk 9 rfl rfl (by kernel_rfl) ?_ ?_ ?_ ?_ | refine sk 10 rfl rfl (by kernel_rfl) ?_ ?_ ?_ ?_ | refine sk 11 rfl rfl (by kernel_rfl) ?_ ?_ ?_ ?_ | refine sk 12 rfl rfl (by kernel_rfl) ?_ ?_ ?_ ?_); exact fun _ _ _ h => h; rfl; assumption; (try simp only [Act.put, la1, la2, la3]))
                    iterate 8 ((first | apply tk 13 rfl rfl (by kernel_rfl) | apply tk 14 rfl rfl (by kernel_rfl) | apply tk 15 rfl rfl (by kernel_rfl) | apply tk 16 rfl rfl (by kernel_rfl) | apply tk 17 rfl rfl (by kernel_rfl) | apply tk 18 rfl rfl (by kernel_rfl) | apply tk 19 rfl rfl (by kernel_rfl) | apply tk 20 rfl rfl (by kernel_rfl)); (case hQ => exact fun _ _ _ h => h); (case hw => rfl); (case hy => (intro w hSw; (try dsimp only at hSw); go_simp; try with_reducible rfl)); (case hS => assumption); (try simp only [Act.put, la1, la2, la3]))
                    iterate 4 ((first | apply tk 21 rfl rfl (by kernel_rfl) | apply tk 22 rfl rfl (by kernel_rfl) | apply tk 23 rfl rfl (by kernel_rfl) | apply tk 24 rfl rfl (by kernel_rfl)); (case hQ => exact fun _ _ _ h => h); (case hw => rfl); (case hy => (intro w hSw; (try dsimp only at hSw); go_simp; try with_reducible rfl)); (case hS => assumption); (try simp only [Act.put, la1, la2, la3]))
                    iterate 8 ((first | refine sk 25 rfl rfl (by kernel_rfl) ?_ ?_ ?_ ?_ | refine sk 26 rfl rfl (by kernel_rfl) ?_ ?_ ?_ ?_ | refine sk 27 rfl rfl (by kernel_rfl) ?_ ?_ ?_ ?_ | refine sk 28 rfl rfl (by kernel_rfl) ?_ ?_ ?_ ?_ | refine sk 29 rfl rfl (by kernel_rfl) ?_ ?_ ?_ ?_ | refine sk 30 rfl rfl (by kernel_rfl) ?_ ?_ ?_ ?_ | refine sk 31 rfl rfl (by kernel_rfl) ?_ ?_ ?_ ?_ | refine sk 32 rfl rfl (by kernel_rfl) ?_ ?_ ?_ ?_); exact fun _ _ _ h => h; rfl; assumption; (try simp only [Act.put, la1, la2, la3]))
                    iterate 8 ((first | refine sk 33 rfl rfl (by kernel_rfl) ?_ ?_ ?_ ?_ | refine sk 34 rfl rfl (by kernel_rfl) ?_ ?_ ?_ ?_ | refine sk 35 rfl rfl (by kernel_rfl) ?_ ?_ ?_ ?_ | refine sk 36 rfl rfl (by kernel_rfl) ?_ ?_ ?_ ?_ | refine sk 37 rfl rfl (by kernel_rfl) ?_ ?_ ?_ ?_ | refine sk 38 rfl rfl (by kernel_rfl) ?_ ?_ ?_ ?_ | refine sk 39 rfl rfl (by kernel_rfl) ?_ ?_ ?_ ?_ | refine sk 40 rfl rfl (by kernel_rfl) ?_ ?_ ?_ ?_); exact fun _ _ _ h => h; rfl; assumption; (try simp only [Act.put, la1, la2, la3]))
                    iterate 6 ((first | refine sk 41 rfl rfl (by kernel_rfl) ?_ ?_ ?_ ?_ | refine sk 42 rfl rfl (by kernel_rfl) ?_ ?_ ?_ ?_ | refine sk 43 rfl rfl (by kernel_rfl) ?_ ?_ ?_ ?_ | refine sk 44 rfl rfl (by kernel_rfl) ?_ ?_ ?_ ?_ | refine sk 45 rfl rfl (by kernel_rfl) ?_ ?_ ?_ ?_ | refine sk 46 rfl rfl (by kernel_rfl) ?_ ?_ ?_ ?_); exact fun _ _ _ h => h; rfl; assumption; (try simp only [Act.put, la1, la2, la3]))
                    iterate 8 ((first | apply tk 47 rfl rfl (by kernel_rfl) | apply tk 48 rfl rfl (by kernel_rfl) | apply tk 49 rfl rfl (by kernel_rfl) | apply tk 50 rfl rfl (by kernel_rfl) | apply tk 51 rfl rfl (by kernel_rfl) | apply tk 52 rfl rfl (by kernel_rfl) | apply tk 53 rfl rfl (by kernel_rfl) | apply tk 54 rfl rfl (by kernel_rfl)); (case hQ => exact fun _ _ _ h => h); (case hw => rfl); (case hy => (intro w hSw; (try dsimp only at hSw); go_simp; try with_reducible rfl)); (case hS => assumption); (try simp only [Act.put, la1, la2, la3]))
                    iterate 7 ((first | apply tk 55 rfl rfl (by kernel_rfl) | apply tk 56 rfl rfl (by kernel_rfl) | apply tk 57 rfl rfl (by kernel_rfl) | apply tk 58 rfl rfl (by kernel_rfl) | apply tk 59 rfl rfl (by kernel_rfl) | apply tk 60 rfl rfl (by kernel_rfl) | apply tk 61 rfl rfl (by kernel_rfl)); (case hQ => exact fun _ _ _ h => h); (case hw => rfl); (case hy => (intro w hSw; (try dsimp only at hSw); go_simp; try with_reducible rfl)); (case hS => assumption); (try simp only [Act.put, la1, la2, la3]))
                    refine wpAnyH_done (by kernel_rfl) ?_ _
                    generalize wh.drew = wz at *
                    go_wp2_with fail
                    go_roundw
                    case rel => exact ⟨i + 1, by omega, by go_num, HWD.out⟩
                    case measure => simp [intOf]; omega
              · obtain rfl : m2 = i := by omega
                have hlt' : ¬ (m2 : Int) < (m2 : Int) := by omega
                have hbz := hb12.trans (hW.mono hb12.size)
                go_wp2_with fail
                go_ret
                exact ⟨rfl, hbz⟩
end
end Go.Proofs.YtjmjkcgldencoaaGreat
