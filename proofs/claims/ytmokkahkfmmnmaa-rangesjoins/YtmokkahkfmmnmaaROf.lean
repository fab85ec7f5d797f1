/-
  The range of leaves: the program's.
-/
import Derived.Test.YtmokkahkfmmnmaaRRound
import Derived.Test.YtmokkahkfmmnmaaRPut
import Derived.Test.YtmokkahkfmmnmaaRLen
namespace Go.Proofs.Ytmokkahkfmmnmaa
open Go.RowKit Go.Shelf
attribute [local go_sem] Oper.semAt_some

set_option maxRecDepth 100000 in
theorem slice_off (oa : Option Addr) (n cap k : Nat) (hk : k ≤ n) (_hn : n ≤ cap) (W : World) : (Instr.slice 22 (.slice oa n cap) (some (.int .i64 (k : Int))) none none).run Try.prog W = .ok (.slice (if cap = k then oa else oa.map (·.add k)) (n - k) (cap - k)) W := by
  rw [run_slice_l W _ _ n cap Try.underlying22 .i64 (k : Int) (by omega) (by omega)]
  have hs : (sizeOf (Try.prog.elem 22)).run Try.prog W = .ok 1 W := by kernel_rfl
  rw [hs]
  simp only [Result.andThen_ok, sliced, Int.toNat_natCast, Nat.mul_one]
/-- append(v, y), carried out in a region -/
theorem wp_append_txt {W : World} {o : Oper} {a : Act} {K : Act → World → Prop} {Q : Exit → Act → World → Prop} (hgd : o.guard = none) (s x : Operand)
    (ho : o.op = .call { callee := .builtin .append, args := #[s, x], argTypes := #[22, 22] }) (B : Nat) (v : Value) (ss : List ByteArray) (hs : a.eval s = v) (hown : Own W B v ss) (y : ByteArray)
    (hx : a.eval x = .slice (some ⟨W.heap.size, 0, none⟩) 1 1) (hlen : ss.length ≤ 1073741824) (hB : B ≤ W.heap.size)
    (h : ∀ g cap w', Own w' B (.slice (some ⟨g, 0, none⟩) (ss.length + 1) cap) (ss ++ [y]) → W.grownBy w' v.ownBlock → K (a.put o.dst (.slice (some ⟨g, 0, none⟩) (ss.length + 1) cap)) w') :
    Oper.wp Try.prog o a (W.alloc (.cells #[.string y] 9)) K Q := by
  have h0 := step_append_txt (ops := #[]) (E := False) (Q := Q) hgd s x ho B v ss hs hown y hx hlen hB h
  split at h0
  · exact h0
  · exact h0.elim
theorem own_kept {W W' : World} {B D : Nat} {v : Value} {ss : List ByteArray} {row : Option Nat} (h : Own W B v ss) (hg : W.grownBy W' row) (hr : ∀ r, row = some r → D ≤ r ∧ ∃ o : Obj, W.heap[r]? = some o ∧ o.isCells = false) : Own W' B v ss := by
  refine World.ownsRow.kept h hg ?_
  cases hv : v.ownBlock with
  | none => exact .inl rfl
  | some g =>
    refine .inr (fun e => ?_)
    obtain ⟨_, o, ho, hc⟩ := hr g e.symm
    rcases h.2 with ⟨rfl, _⟩ | ⟨g', cap, cur, rfl, _, hk, _⟩
    · cases hv
    · simp [Value.ownBlock] at hv
      subst hv
      rw [ho] at hk
      injection hk with hk
      rw [hk] at hc
      cases hc
theorem keeps_own {W W' : World} {B : Nat} {v : Value} {ss : List ByteArray} (h : Own W B v ss) (hg : W.grownBy W' v.ownBlock) : KeepsOthers W W' :=
  KeepsOthers.of_grownBy hg (fun j o e ho => by
    rcases h.2 with ⟨rfl, _⟩ | ⟨g, cap, cur, rfl, _, hk, _⟩
    · cases e
    · simp [Value.ownBlock] at e
      subst e
      rw [ho] at hk
      injection hk with hk
      rw [hk]
      rfl)
theorem prefix_sum {n : Nat} {pre rest : List Nat} {x : Nat} (h : strL n = pre ++ x :: rest) : 0 < x ∧ pre.sum + x ≤ n ∧ pre.length < 64 ∨ 9223372036854775808 ≤ n := by
  rcases Nat.lt_or_ge n 9223372036854775808 with h1 | h1
  · left
    have h2 := strL_sum n
    rw [h] at h2
    simp at h2
    have h3 := strL_le (n := n) (x := x) (by rw [h]; simp)
    have h4 := strL_len 63 n (by have : (2 : Nat) ^ 63 = 9223372036854775808 := by decide
                                 omega)
    rw [h] at h4
    simp at h4
    exact ⟨h3.1, by omega, by omega⟩
  · right; exact h1
section
attribute [-go_sem] loadVar
set_option maxRecDepth 100000 in
set_option maxHeartbeats 4000000 in
theorem of_any (oa : Option Addr) (n c : Nat) (ss : List ByteArray) (hn : ss.length = n) (hn2 : n ≤ 200) (hc : n ≤ c) (hz : Sz ss) (w : World) (hS : Strs w oa ss) :
    Calls Try.prog 12 #[.agg tabV, .slice oa n c] w (RP n (ofM ss) w) := by
  obtain ⟨B, hB⟩ : ∃ B, w.heap.size = B := ⟨_, rfl⟩
  obtain ⟨w0, hw0⟩ : ∃ w0, ((w.alloc (.cells tabV 29)).alloc (.cells #[.slice oa n c] 22)).alloc (.cells #[.int .i64 0, .slice none 0 0] 33) = w0 := ⟨_, rfl⟩
  have hT : Blk w0 B 29 tabV := by rw [← hw0, ← hB]; exact ((Blk.new _ _ _).alloc _).alloc _
  have hL : Blk w0 (B + 1) 22 #[.slice oa n c] := by rw [← hw0]; exact (Blk.new_at (by simp [hB])).alloc _
  have hO : Blk w0 (B + 1 + 1) 33 #[.int .i64 0, .slice none 0 0] := by rw [← hw0]; exact Blk.new_at (by simp [hB])
  have hB0 : Below w.heap.size w w0 := by rw [← hw0]; exact (((Below.refl _ w).alloc (Nat.le_refl _) _).alloc (by simp) _).alloc (by simp; omega) _
  have hs0 : w0.heap.size = B + 1 + 1 + 1 := by rw [← hw0]; simp [hB]
  obtain ⟨w1, hw1⟩ : ∃ w1, w0.alloc (.cells #[.int .i64 n, .slice none 0 0] 33) = w1 := ⟨_, rfl⟩
  have hT1 : Blk w1 B 29 tabV := by rw [← hw1]; exact hT.alloc _
  have hL1 : Blk w1 (B + 1) 22 #[.slice oa n c] := by rw [← hw1]; exact hL.alloc _
  have hO1 : Blk w1 (B + 1 + 1) 33 #[.int .i64 0, .slice none 0 0] := by rw [← hw1]; exact hO.alloc _
  have hR1 : Blk w1 (B + 1 + 1 + 1) 33 #[.int .i64 n, .slice none 0 0] := by rw [← hw1]; exact Blk.new_at hs0.symm
  have hB1 : Below w.heap.size w w1 := by rw [← hw1]; exact hB0.alloc hB0.size _
  have hs1 : w1.heap.size = B + 1 + 1 + 1 + 1 := by rw [← hw1]; simp [hs0]
  have l0 := ld_sl (hL.cell 0)
  have l1 := ld_sl (hL1.cell 0)
  have HW0 := Lib.hid hw0
  have HW1 := Lib.hid hw1
  have HRP := Lib.hid (show ∀ e w', RP n (ofM ss) w e w' = ∃ v, e = .returned (.agg #[.int .i64 ((n : Nat) : Int), v]) ∧ Own w' w.heap.size v (chk (strL n) ss) ∧ Below w.heap.size w w' from fun _ _ => by unfold RP ofM; rw [hn])
  have HSS := Lib.hid hS
  have HZ := Lib.hid hz
  have HN := Lib.hid hn
  clear hw0 hw1 hT hL hO hS hn hz
  refine (callsIn_wide (n := 7)).1 ?_
  refine callsIn_of_wp_marks Try.func12 rfl trivial ?_ rfl
  simp only [Try.ntmps12, List.size_toArray, List.length_cons, List.length_nil, Nat.reduceAdd, Nat.reduceSub, Array.replicate_succ, Array.replicate_zero, List.push_toArray, List.append_toArray, List.nil_append, List.cons_append]
  gi_wp2_with (first | rw [HW0.out] | rw [HW1.out])
  refine ⟨trivial, ?_⟩
  refine (stretches_in _ _ _).mono ?_
  rintro e w2 ⟨rfl, hw2⟩
  have hT2 : Blk w2 B 29 tabV := by rw [← hw2]; exact hT1.alloc _
  have hL2 : Blk w2 (B + 1) 22 #[.slice oa n c] := by rw [← hw2]; exact hL1.alloc _
  have hO2 : Blk w2 (B + 1 + 1) 33 #[.int .i64 0, .slice none 0 0] := by rw [← hw2]; exact hO1.alloc _
  have hR2 : Blk w2 (B + 1 + 1 + 1) 33 #[.int .i64 n, .slice none 0 0] := by rw [← hw2]; exact hR1.alloc _
  have hI2 : Blk w2 (B + 1 + 1 + 1 + 1) 3 #[.int .i64 n] := by rw [← hw2]; exact Blk.new_at hs1.symm
  have hB2 : Below w.heap.size w w2 := by rw [← hw2]; exact hB1.alloc hB1.size _
  have hs2 : w2.heap.size = B + 1 + 1 + 1 + 1 + 1 := by rw [← hw2]; simp [hs1]
  rw [hs1]
  clear hw2 l0 l1 hT1 hL1 hO1 hR1 hB1 hB0
  gi_wp2_with fail
  have HH := str1_hands (Lib.hid lenOf) (7 - 1) (B + 1 + 1 + 1 + 1) (by omega) (n : Int) (by omega) w2 hI2.lt (hI2.cell 0)
  rw [Int.toNat_natCast] at HH
  refine range_hands (by omega) (gf := 46) (lb := #[.pointer (some ⟨B + 1 + 1 + 1 + 1, 0, none⟩)]) rfl (enters_of Try.func46 (by kernel_rfl) rfl) HH (fun _ => rfl)
    (fun pre W => (∃ (o' : Option Addr) (v : Value), Blk W B 29 tabV ∧ Blk W (B + 1) 22 #[.slice o' (n - pre.sum) (c - pre.sum)] ∧ Blk W (B + 1 + 1) 33 #[.int .i64 0, .slice none 0 0] ∧ Blk W (B + 1 + 1 + 1) 33 #[.int .i64 n, v] ∧ Own W (B + 1 + 1 + 1 + 1 + 1) v (chk pre ss) ∧ (pre.sum < n → o' = oa.map (·.add pre.sum)) ∧ B + 1 + 1 + 1 + 1 + 1 ≤ W.heap.size) ∧ Below w.heap.size w W)
    (OwnFrom.and (fun s A B' row hs hg hr => by
      obtain ⟨o', v, h1, h2, h3, h4, h5, h6, h7⟩ := hs
      exact ⟨o', v, h1.grown hg (fun e => by have := (hr _ e.symm).1; omega), h2.grown hg (fun e => by have := (hr _ e.symm).1; omega), h3.grown hg (fun e => by have := (hr _ e.symm).1; omega), h4.grown hg (fun e => by have := (hr _ e.symm).1; omega), own_kept h5 hg hr, h6, Nat.le_trans h7 hg.size⟩) (ownFrom_below (Nat.le_refl _) (by omega)))
    ⟨⟨oa, .slice none 0 0, hT2, hL2, hO2, hR2, own_nil _ _, fun _ => by cases oa <;> rfl, by omega⟩, hB2⟩
    (fun x => { tmps := #[.agg tabV, .slice oa n c, .pointer (some ⟨B, 0, none⟩), .pointer (some ⟨B + 1, 0, none⟩), .pointer (some ⟨B + 1 + 1, 0, none⟩), .pointer (some ⟨B + 1 + 1 + 1, 0, none⟩), .int .i64 ((x : Nat) : Int), .slice oa n c, .int .i64 (n : Int), .agg #[.int .i64 (n : Int), .slice none 0 0], .slice oa n c, .int .i64 (n : Int), .func (.func 46) #[] #[.pointer (some ⟨B + 1 + 1 + 1 + 1, 0, none⟩)], .int .i64 ((x : Nat) : Int), undef, undef, undef, undef, undef, undef, undef, undef, undef, undef, undef, undef, undef, undef], defers := [] }) ?assign ?body ?done
  case assign =>
    intro l x W K hK
    gi_wp2
    exact hK
  case body =>
    rintro l pre x rest W hx ⟨⟨o', v, hT, hL, hO, hR, hown, ho, hsz⟩, hBW⟩
    clear hT2 hL2 hO2 hR2 hI2 hB2 HH
    obtain ⟨hx0, hxs, hpl⟩ : 0 < x ∧ pre.sum + x ≤ n ∧ pre.length < 64 := by
      rcases prefix_sum hx with h | h
      · exact h
      · omega
    have ho' := ho (by omega)
    subst ho'
    have HST := Lib.hid (show chk (pre ++ [x]) ss = chk pre ss ++ [rootM ((ss.drop pre.sum).take x)] by rw [chk_append]; rfl)
    have HSU := Lib.hid (show (pre ++ [x]).sum = pre.sum + x by simp)
    have hFL : (chk pre ss).length ≤ 1073741824 := by rw [chk_length]; omega
    have hSW := (HSS.out.below hBW).drop pre.sum
    have HM := Lib.hid (fun W' hW' => mroot_any x (oa.map (·.add pre.sum)) (c - pre.sum) ((ss.drop pre.sum).take x) (by rw [List.length_take, List.length_drop, HN.out]; omega) (by omega) (by omega) ((HZ.out.drop _).take _) W' hW')
    have HO := Lib.hid (show pre.sum + x < n → (if c - pre.sum = x then oa.map (·.add pre.sum) else (oa.map (·.add pre.sum)).map (·.add x)) = oa.map (·.add (pre.sum + x)) from fun h => by
      rw [if_neg (by omega), Option.map_map]
      congr 1
      funext a
      exact add_add a pre.sum x)
    have HS1 := slice_to (oa.map (·.add pre.sum)) (n - pre.sum) (c - pre.sum) x (by omega)
    have HS2 := slice_off (oa.map (·.add pre.sum)) (n - pre.sum) (c - pre.sum) x (by omega) (by omega)
    generalize hAA : pre.sum = A at *
    generalize chk pre ss = F at *
    generalize rootM ((ss.drop A).take x) = R at *
    generalize oa.map (·.add A) = o' at *
    generalize (if c - A = x then o' else o'.map (·.add x)) = o2 at *
    have hSXd : Strs W.drew o' ((ss.drop A).take x) := hSW.take x
    have hBlt := hR.lt
    obtain ⟨ov, lv, cv, rfl⟩ : ∃ ov lv cv, v = .slice ov lv cv := by
      obtain ⟨ov, cv, h, _⟩ := hown.formd
      exact ⟨_, _, _, h⟩
    have HKP := Lib.hid (show ∀ W', Blk W' B 29 tabV → Blk W' (B + 1) 22 #[.slice o' (n - A) (c - A)] → (loadVar 29 ⟨B, 0, none⟩).run Try.prog W' = .ok (.agg tabV) W' ∧ (loadVar 22 ⟨B + 1, 0, none⟩).run Try.prog W' = .ok (.slice o' (n - A) (c - A)) W' from fun W' h1 h2 => ⟨tab_run h1, ld_sl (h2.cell 0)⟩)
    have rD : (loadVar 22 ⟨B + 1 + 1 + 1, 1, none⟩).run Try.prog W.drew = .ok (.slice ov lv cv) W.drew := ld_sl ((show Blk W.drew (B + 1 + 1 + 1) 33 #[.int .i64 n, .slice ov lv cv] from hR).cell 1)
    have hTd : Blk W.drew B 29 tabV := hT
    have hLd : Blk W.drew (B + 1) 22 #[.slice o' (n - A) (c - A)] := hL
    have mixed : Try.prog.follows Departure.mixedOrders = true := by kernel_rfl
    clear hx ho HSS HZ hSW
    gi_wp2_with fail
    refine region_round (S := fun W' => (loadVar 29 ⟨B, 0, none⟩).run Try.prog W' = .ok (.agg tabV) W' ∧ (loadVar 22 ⟨B + 1, 0, none⟩).run Try.prog W' = .ok (.slice o' (n - A) (c - A)) W') (by kernel_rfl) mixed ?_ (fun hHeld0 => ?_)
    · (first | exact HKP.out _ hTd hLd | exact HKP.out _ t1 l1 | exact HKP.out _ (t1.alloc _) (l1.alloc _) | exact HKP.out _ t2 l2 | exact HKP.out _ (t2.far (by show B ≠ B + 1 + 1 + 1; omega) _) (l2.far (by show B + 1 ≠ B + 1 + 1 + 1; omega) _))
    apply takeH (i := 0) rfl (by kernel_rfl) (by kernel_rfl) (by kernel_rfl) (fun _ _ _ h => h) (by rfl)
    case hy => (intro w hSw; (try dsimp only at hSw); go_simp; try with_reducible rfl)
    case hS => assumption
    (try simp only [Act.put, List.setIfInBounds_toArray, List.set_cons_zero, List.set_cons_succ])
    apply takeH (i := 2) rfl (by kernel_rfl) (by kernel_rfl) (by kernel_rfl) (fun _ _ _ h => h) (by rfl)
    case hy => (intro w hSw; (try dsimp only at hSw); go_simp; try with_reducible rfl)
    case hS => assumption
    (try simp only [Act.put, List.setIfInBounds_toArray, List.set_cons_zero, List.set_cons_succ])
    apply takeH (i := 3) rfl (by kernel_rfl) (by kernel_rfl) (by kernel_rfl) (fun _ _ _ h => h) (by rfl)
    case hy => (intro w hSw; (try dsimp only at hSw); go_simp; try with_reducible rfl)
    case hS => assumption
    (try simp only [Act.put, List.setIfInBounds_toArray, List.set_cons_zero, List.set_cons_succ])
    apply takeH (i := 4) rfl (by kernel_rfl) (by kernel_rfl) (by kernel_rfl) (fun _ _ _ h => h) (by rfl)
    case hy => (intro w hSw; (try dsimp only at hSw); go_simp; try with_reducible rfl)
    case hS => assumption
    (try simp only [Act.put, List.setIfInBounds_toArray, List.set_cons_zero, List.set_cons_succ])
    apply takeH (i := 5) rfl (by kernel_rfl) (by kernel_rfl) (by kernel_rfl) (fun _ _ _ h => h) (by rfl)
    case hy => (intro w hSw; (try dsimp only at hSw); go_simp; try with_reducible rfl)
    case hS => assumption
    (try simp only [Act.put, List.setIfInBounds_toArray, List.set_cons_zero, List.set_cons_succ])
    refine doH2 (i := 1) (j := 6) rfl rfl (by kernel_rfl) (by rfl) (by rfl) (fun K hK => ?_) (fun K hK => ?_)
    · go_simp
      refine hK.out _ _ ?_ (fun hH1 => ?_)
      · (first | exact HKP.out _ hTd hLd | exact HKP.out _ t1 l1 | exact HKP.out _ (t1.alloc _) (l1.alloc _) | exact HKP.out _ t2 l2 | exact HKP.out _ (t2.far (by show B ≠ B + 1 + 1 + 1; omega) _) (l2.far (by show B + 1 ≠ B + 1 + 1 + 1; omega) _))
      clear hK K
      (try simp only [Act.put, List.setIfInBounds_toArray, List.set_cons_zero, List.set_cons_succ])
      refine doH (i := 6) rfl (by kernel_rfl) (by rfl) (fun K hK => ?_)
      go_simp
      refine (HM.out _ hSXd).mono ?_
      rintro e w1 ⟨rfl, hb1'⟩
      have hb1 : Below W.heap.size W w1 := (Below.refl _ _).drew.trans hb1'
      have t1 := hT.below hb1 hT.lt
      have l1 := hL.below hb1 hL.lt
      have r1 := hR.below hb1 hR.lt
      have o1 := hO.below hb1 hO.lt
      have own1 : Own w1 (B + 1 + 1 + 1 + 1 + 1) (.slice ov lv cv) F := hown.below hb1
      have rW1 := ld_sl (r1.cell 1)
      have rA1 : (loadVar 22 ⟨B + 1 + 1 + 1, 1, none⟩).run Try.prog (w1.alloc (.cells #[.string R] 9)) = .ok (.slice ov lv cv) (w1.alloc (.cells #[.string R] 9)) := ld_sl ((r1.alloc _).cell 1)
      have hBW1 : Below w.heap.size w w1 := hBW.trans (hb1.mono hBW.size)
      have hsz1 : B + 1 + 1 + 1 + 1 + 1 ≤ w1.heap.size := Nat.le_trans hsz hb1.size
      go_wp2_with fail
      refine hK.out _ _ ?_ (fun hH6 => ?_)
      · (first | exact HKP.out _ hTd hLd | exact HKP.out _ t1 l1 | exact HKP.out _ (t1.alloc _) (l1.alloc _) | exact HKP.out _ t2 l2 | exact HKP.out _ (t2.far (by show B ≠ B + 1 + 1 + 1; omega) _) (l2.far (by show B + 1 ≠ B + 1 + 1 + 1; omega) _))
      clear hK K
      (try simp only [Act.put, List.setIfInBounds_toArray, List.set_cons_zero, List.set_cons_succ])
      refine doH (i := 7) rfl (by kernel_rfl) (by rfl) (fun K hK => ?_)
      go_simp
      refine hK.out _ _ ?_ (fun hH7 => ?_)
      · (first | exact HKP.out _ hTd hLd | exact HKP.out _ t1 l1 | exact HKP.out _ (t1.alloc _) (l1.alloc _) | exact HKP.out _ t2 l2 | exact HKP.out _ (t2.far (by show B ≠ B + 1 + 1 + 1; omega) _) (l2.far (by show B + 1 ≠ B + 1 + 1 + 1; omega) _))
      clear hK K
      (try simp only [Act.put, List.setIfInBounds_toArray, List.set_cons_zero, List.set_cons_succ])
      refine doH (i := 8) rfl (by kernel_rfl) (by rfl) (fun K hK => ?_)
      refine wp_append_txt rfl _ _ rfl (B + 1 + 1 + 1 + 1 + 1) (.slice ov lv cv) F rfl own1 R rfl hFL hsz1 ?_
      intro g2 cap2 w2' own2 hg2
      have hne2 : ∀ k, k < B + 1 + 1 + 1 + 1 + 1 → some k ≠ (Value.slice ov lv cv).ownBlock := fun k hk e => by have := (World.ownsRow.lt own1 k e.symm).1; omega
      have t2 := t1.grown hg2 (hne2 _ (by omega))
      have l2 := l1.grown hg2 (hne2 _ (by omega))
      have r2 := r1.grown hg2 (hne2 _ (by omega))
      have o2' := o1.grown hg2 (hne2 _ (by omega))
      have c2 : w2'.cell? ⟨B + 1 + 1 + 1, 1, none⟩ = some (.slice ov lv cv) := r2.cell 1
      have f2 := r2.frozen 1
      have hBW2 := own_below2 hBW1 own1 (by omega) hg2
      refine hK.out _ _ ?_ (fun hH8 => ?_)
      · (first | exact HKP.out _ hTd hLd | exact HKP.out _ t1 l1 | exact HKP.out _ (t1.alloc _) (l1.alloc _) | exact HKP.out _ t2 l2 | exact HKP.out _ (t2.far (by show B ≠ B + 1 + 1 + 1; omega) _) (l2.far (by show B + 1 ≠ B + 1 + 1 + 1; omega) _))
      clear hK K
      (try simp only [Act.put, List.setIfInBounds_toArray, List.set_cons_zero, List.set_cons_succ])
      apply takeH (i := 9) rfl (by kernel_rfl) (by kernel_rfl) (by kernel_rfl) (fun _ _ _ h => h) (by rfl)
      case hy => (intro w hSw; (try dsimp only at hSw); go_simp; try with_reducible rfl)
      case hS => assumption
      (try simp only [Act.put, List.setIfInBounds_toArray, List.set_cons_zero, List.set_cons_succ])
      refine doH (i := 10) rfl (by kernel_rfl) (by rfl) (fun K hK => ?_)
      go_simp
      refine hK.out _ _ ?_ (fun hH10 => ?_)
      · (first | exact HKP.out _ hTd hLd | exact HKP.out _ t1 l1 | exact HKP.out _ (t1.alloc _) (l1.alloc _) | exact HKP.out _ t2 l2 | exact HKP.out _ (t2.far (by show B ≠ B + 1 + 1 + 1; omega) _) (l2.far (by show B + 1 ≠ B + 1 + 1 + 1; omega) _))
      clear hK K
      (try simp only [Act.put, List.setIfInBounds_toArray, List.set_cons_zero, List.set_cons_succ])
      refine wpAnyH_done (by kernel_rfl) ?_ _
      simp only [onlyN]
      have t3 := t2.far (p := ⟨B + 1 + 1 + 1, 1, none⟩) (by show B ≠ B + 1 + 1 + 1; omega) (.slice (some ⟨g2, 0, none⟩) (F.length + 1) cap2)
      have l3 := l2.far (p := ⟨B + 1 + 1 + 1, 1, none⟩) (by show B + 1 ≠ B + 1 + 1 + 1; omega) (.slice (some ⟨g2, 0, none⟩) (F.length + 1) cap2)
      have o3 := o2'.far (p := ⟨B + 1 + 1 + 1, 1, none⟩) (by show B + 1 + 1 ≠ B + 1 + 1 + 1; omega) (.slice (some ⟨g2, 0, none⟩) (F.length + 1) cap2)
      have r3 := r2.set_ 1 (.slice (some ⟨g2, 0, none⟩) (F.length + 1) cap2)
      have own3 := own_far own2 (p := ⟨B + 1 + 1 + 1, 1, none⟩) (by show B + 1 + 1 + 1 < _; omega) (.slice (some ⟨g2, 0, none⟩) (F.length + 1) cap2)
      have hBW3 := hBW2.setCell (p := ⟨B + 1 + 1 + 1, 1, none⟩) (by show w.heap.size ≤ B + 1 + 1 + 1; omega) (.slice (some ⟨g2, 0, none⟩) (F.length + 1) cap2)
      have hKO : KeepsOthers W (w2'.setCell ⟨B + 1 + 1 + 1, 1, none⟩ (.slice (some ⟨g2, 0, none⟩) (F.length + 1) cap2)) := (((KeepsOthers.of_grownBy (only_of_below (a := W) hb1 none) (fun _ _ h => by cases h))).trans (keeps_own own1 hg2)).trans (KeepsOthers.setCell _ _ _)
      generalize w2'.setCell ⟨B + 1 + 1 + 1, 1, none⟩ (.slice (some ⟨g2, 0, none⟩) (F.length + 1) cap2) = w3 at *
      have q3 := ld_sl (l3.cell 0)
      have c3 : w3.cell? ⟨B + 1, 0, none⟩ = some (.slice o' (n - A) (c - A)) := l3.cell 0
      have f3 := l3.frozen 0
      have HT3 := Lib.hid t3
      have HL3 := Lib.hid l3
      have HO3 := Lib.hid o3
      have HR3 := Lib.hid r3
      have HOW3 := Lib.hid own3
      clear t3 l3 o3 r3 own3 t2 l2 r2 o2' t1 l1 r1 o1 own1 own2 hg2 c2 f2 rW1 rA1 hb1 hTd hLd rD
      gi_wp2
      refine ⟨hKO.trans (KeepsOthers.setCell _ _ _), ⟨o2, .slice (some ⟨g2, 0, none⟩) (F.length + 1) cap2, HT3.out.far (p := ⟨B + 1, 0, none⟩) (by show B ≠ B + 1; omega) _, ?_, HO3.out.far (p := ⟨B + 1, 0, none⟩) (by show B + 1 + 1 ≠ B + 1; omega) _, HR3.out.far (p := ⟨B + 1, 0, none⟩) (by show B + 1 + 1 + 1 ≠ B + 1; omega) _, ?_, ?_, Nat.le_trans hsz (hKO.trans (KeepsOthers.setCell _ _ _)).size⟩, hBW3.setCell (p := ⟨B + 1, 0, none⟩) (by show w.heap.size ≤ B + 1; omega) _⟩
      · rw [HSU.out]
        have := HL3.out.set_ 0 (.slice o2 (n - A - x) (c - A - x))
        rw [show n - (A + x) = n - A - x by omega, show c - (A + x) = c - A - x by omega]
        exact this
      · rw [HST.out]
        exact own_far HOW3.out (p := ⟨B + 1, 0, none⟩) (by show B + 1 < _; omega) _
      · rw [HSU.out]
        exact HO.out
    · go_simp
      refine (HM.out _ hSXd).mono ?_
      rintro e w1 ⟨rfl, hb1'⟩
      have hb1 : Below W.heap.size W w1 := (Below.refl _ _).drew.trans hb1'
      have t1 := hT.below hb1 hT.lt
      have l1 := hL.below hb1 hL.lt
      have r1 := hR.below hb1 hR.lt
      have o1 := hO.below hb1 hO.lt
      have own1 : Own w1 (B + 1 + 1 + 1 + 1 + 1) (.slice ov lv cv) F := hown.below hb1
      have rW1 := ld_sl (r1.cell 1)
      have rA1 : (loadVar 22 ⟨B + 1 + 1 + 1, 1, none⟩).run Try.prog (w1.alloc (.cells #[.string R] 9)) = .ok (.slice ov lv cv) (w1.alloc (.cells #[.string R] 9)) := ld_sl ((r1.alloc _).cell 1)
      have hBW1 : Below w.heap.size w w1 := hBW.trans (hb1.mono hBW.size)
      have hsz1 : B + 1 + 1 + 1 + 1 + 1 ≤ w1.heap.size := Nat.le_trans hsz hb1.size
      go_wp2_with fail
      refine hK.out _ _ ?_ (fun hH6 => ?_)
      · (first | exact HKP.out _ hTd hLd | exact HKP.out _ t1 l1 | exact HKP.out _ (t1.alloc _) (l1.alloc _) | exact HKP.out _ t2 l2 | exact HKP.out _ (t2.far (by show B ≠ B + 1 + 1 + 1; omega) _) (l2.far (by show B + 1 ≠ B + 1 + 1 + 1; omega) _))
      clear hK K
      (try simp only [Act.put, List.setIfInBounds_toArray, List.set_cons_zero, List.set_cons_succ])
      refine doH2 (i := 1) (j := 7) rfl rfl (by kernel_rfl) (by rfl) (by rfl) (fun K hK => ?_) (fun K hK => ?_)
      · go_simp
        refine hK.out _ _ ?_ (fun hH1 => ?_)
        · (first | exact HKP.out _ hTd hLd | exact HKP.out _ t1 l1 | exact HKP.out _ (t1.alloc _) (l1.alloc _) | exact HKP.out _ t2 l2 | exact HKP.out _ (t2.far (by show B ≠ B + 1 + 1 + 1; omega) _) (l2.far (by show B + 1 ≠ B + 1 + 1 + 1; omega) _))
        clear hK K
        (try simp only [Act.put, List.setIfInBounds_toArray, List.set_cons_zero, List.set_cons_succ])
        refine doH (i := 7) rfl (by kernel_rfl) (by rfl) (fun K hK => ?_)
        go_simp
        refine hK.out _ _ ?_ (fun hH7 => ?_)
        · (first | exact HKP.out _ hTd hLd | exact HKP.out _ t1 l1 | exact HKP.out _ (t1.alloc _) (l1.alloc _) | exact HKP.out _ t2 l2 | exact HKP.out _ (t2.far (by show B ≠ B + 1 + 1 + 1; omega) _) (l2.far (by show B + 1 ≠ B + 1 + 1 + 1; omega) _))
        clear hK K
        (try simp only [Act.put, List.setIfInBounds_toArray, List.set_cons_zero, List.set_cons_succ])
        refine doH (i := 8) rfl (by kernel_rfl) (by rfl) (fun K hK => ?_)
        refine wp_append_txt rfl _ _ rfl (B + 1 + 1 + 1 + 1 + 1) (.slice ov lv cv) F rfl own1 R rfl hFL hsz1 ?_
        intro g2 cap2 w2' own2 hg2
        have hne2 : ∀ k, k < B + 1 + 1 + 1 + 1 + 1 → some k ≠ (Value.slice ov lv cv).ownBlock := fun k hk e => by have := (World.ownsRow.lt own1 k e.symm).1; omega
        have t2 := t1.grown hg2 (hne2 _ (by omega))
        have l2 := l1.grown hg2 (hne2 _ (by omega))
        have r2 := r1.grown hg2 (hne2 _ (by omega))
        have o2' := o1.grown hg2 (hne2 _ (by omega))
        have c2 : w2'.cell? ⟨B + 1 + 1 + 1, 1, none⟩ = some (.slice ov lv cv) := r2.cell 1
        have f2 := r2.frozen 1
        have hBW2 := own_below2 hBW1 own1 (by omega) hg2
        refine hK.out _ _ ?_ (fun hH8 => ?_)
        · (first | exact HKP.out _ hTd hLd | exact HKP.out _ t1 l1 | exact HKP.out _ (t1.alloc _) (l1.alloc _) | exact HKP.out _ t2 l2 | exact HKP.out _ (t2.far (by show B ≠ B + 1 + 1 + 1; omega) _) (l2.far (by show B + 1 ≠ B + 1 + 1 + 1; omega) _))
        clear hK K
        (try simp only [Act.put, List.setIfInBounds_toArray, List.set_cons_zero, List.set_cons_succ])
        apply takeH (i := 9) rfl (by kernel_rfl) (by kernel_rfl) (by kernel_rfl) (fun _ _ _ h => h) (by rfl)
        case hy => (intro w hSw; (try dsimp only at hSw); go_simp; try with_reducible rfl)
        case hS => assumption
        (try simp only [Act.put, List.setIfInBounds_toArray, List.set_cons_zero, List.set_cons_succ])
        refine doH (i := 10) rfl (by kernel_rfl) (by rfl) (fun K hK => ?_)
        go_simp
        refine hK.out _ _ ?_ (fun hH10 => ?_)
        · (first | exact HKP.out _ hTd hLd | exact HKP.out _ t1 l1 | exact HKP.out _ (t1.alloc _) (l1.alloc _) | exact HKP.out _ t2 l2 | exact HKP.out _ (t2.far (by show B ≠ B + 1 + 1 + 1; omega) _) (l2.far (by show B + 1 ≠ B + 1 + 1 + 1; omega) _))
        clear hK K
        (try simp only [Act.put, List.setIfInBounds_toArray, List.set_cons_zero, List.set_cons_succ])
        refine wpAnyH_done (by kernel_rfl) ?_ _
        simp only [onlyN]
        have t3 := t2.far (p := ⟨B + 1 + 1 + 1, 1, none⟩) (by show B ≠ B + 1 + 1 + 1; omega) (.slice (some ⟨g2, 0, none⟩) (F.length + 1) cap2)
        have l3 := l2.far (p := ⟨B + 1 + 1 + 1, 1, none⟩) (by show B + 1 ≠ B + 1 + 1 + 1; omega) (.slice (some ⟨g2, 0, none⟩) (F.length + 1) cap2)
        have o3 := o2'.far (p := ⟨B + 1 + 1 + 1, 1, none⟩) (by show B + 1 + 1 ≠ B + 1 + 1 + 1; omega) (.slice (some ⟨g2, 0, none⟩) (F.length + 1) cap2)
        have r3 := r2.set_ 1 (.slice (some ⟨g2, 0, none⟩) (F.length + 1) cap2)
        have own3 := own_far own2 (p := ⟨B + 1 + 1 + 1, 1, none⟩) (by show B + 1 + 1 + 1 < _; omega) (.slice (some ⟨g2, 0, none⟩) (F.length + 1) cap2)
        have hBW3 := hBW2.setCell (p := ⟨B + 1 + 1 + 1, 1, none⟩) (by show w.heap.size ≤ B + 1 + 1 + 1; omega) (.slice (some ⟨g2, 0, none⟩) (F.length + 1) cap2)
        have hKO : KeepsOthers W (w2'.setCell ⟨B + 1 + 1 + 1, 1, none⟩ (.slice (some ⟨g2, 0, none⟩) (F.length + 1) cap2)) := (((KeepsOthers.of_grownBy (only_of_below (a := W) hb1 none) (fun _ _ h => by cases h))).trans (keeps_own own1 hg2)).trans (KeepsOthers.setCell _ _ _)
        generalize w2'.setCell ⟨B + 1 + 1 + 1, 1, none⟩ (.slice (some ⟨g2, 0, none⟩) (F.length + 1) cap2) = w3 at *
        have q3 := ld_sl (l3.cell 0)
        have c3 : w3.cell? ⟨B + 1, 0, none⟩ = some (.slice o' (n - A) (c - A)) := l3.cell 0
        have f3 := l3.frozen 0
        have HT3 := Lib.hid t3
        have HL3 := Lib.hid l3
        have HO3 := Lib.hid o3
        have HR3 := Lib.hid r3
        have HOW3 := Lib.hid own3
        clear t3 l3 o3 r3 own3 t2 l2 r2 o2' t1 l1 r1 o1 own1 own2 hg2 c2 f2 rW1 rA1 hb1 hTd hLd rD
        gi_wp2
        refine ⟨hKO.trans (KeepsOthers.setCell _ _ _), ⟨o2, .slice (some ⟨g2, 0, none⟩) (F.length + 1) cap2, HT3.out.far (p := ⟨B + 1, 0, none⟩) (by show B ≠ B + 1; omega) _, ?_, HO3.out.far (p := ⟨B + 1, 0, none⟩) (by show B + 1 + 1 ≠ B + 1; omega) _, HR3.out.far (p := ⟨B + 1, 0, none⟩) (by show B + 1 + 1 + 1 ≠ B + 1; omega) _, ?_, ?_, Nat.le_trans hsz (hKO.trans (KeepsOthers.setCell _ _ _)).size⟩, hBW3.setCell (p := ⟨B + 1, 0, none⟩) (by show w.heap.size ≤ B + 1; omega) _⟩
        · rw [HSU.out]
          have := HL3.out.set_ 0 (.slice o2 (n - A - x) (c - A - x))
          rw [show n - (A + x) = n - A - x by omega, show c - (A + x) = c - A - x by omega]
          exact this
        · rw [HST.out]
          exact own_far HOW3.out (p := ⟨B + 1, 0, none⟩) (by show B + 1 < _; omega) _
        · rw [HSU.out]
          exact HO.out
      · go_simp
        refine hK.out _ _ ?_ (fun hH7 => ?_)
        · (first | exact HKP.out _ hTd hLd | exact HKP.out _ t1 l1 | exact HKP.out _ (t1.alloc _) (l1.alloc _) | exact HKP.out _ t2 l2 | exact HKP.out _ (t2.far (by show B ≠ B + 1 + 1 + 1; omega) _) (l2.far (by show B + 1 ≠ B + 1 + 1 + 1; omega) _))
        clear hK K
        (try simp only [Act.put, List.setIfInBounds_toArray, List.set_cons_zero, List.set_cons_succ])
        refine doH (i := 1) rfl (by kernel_rfl) (by rfl) (fun K hK => ?_)
        go_simp
        refine hK.out _ _ ?_ (fun hH1 => ?_)
        · (first | exact HKP.out _ hTd hLd | exact HKP.out _ t1 l1 | exact HKP.out _ (t1.alloc _) (l1.alloc _) | exact HKP.out _ t2 l2 | exact HKP.out _ (t2.far (by show B ≠ B + 1 + 1 + 1; omega) _) (l2.far (by show B + 1 ≠ B + 1 + 1 + 1; omega) _))
        clear hK K
        (try simp only [Act.put, List.setIfInBounds_toArray, List.set_cons_zero, List.set_cons_succ])
        refine doH (i := 8) rfl (by kernel_rfl) (by rfl) (fun K hK => ?_)
        refine wp_append_txt rfl _ _ rfl (B + 1 + 1 + 1 + 1 + 1) (.slice ov lv cv) F rfl own1 R rfl hFL hsz1 ?_
        intro g2 cap2 w2' own2 hg2
        have hne2 : ∀ k, k < B + 1 + 1 + 1 + 1 + 1 → some k ≠ (Value.slice ov lv cv).ownBlock := fun k hk e => by have := (World.ownsRow.lt own1 k e.symm).1; omega
        have t2 := t1.grown hg2 (hne2 _ (by omega))
        have l2 := l1.grown hg2 (hne2 _ (by omega))
        have r2 := r1.grown hg2 (hne2 _ (by omega))
        have o2' := o1.grown hg2 (hne2 _ (by omega))
        have c2 : w2'.cell? ⟨B + 1 + 1 + 1, 1, none⟩ = some (.slice ov lv cv) := r2.cell 1
        have f2 := r2.frozen 1
        have hBW2 := own_below2 hBW1 own1 (by omega) hg2
        refine hK.out _ _ ?_ (fun hH8 => ?_)
        · (first | exact HKP.out _ hTd hLd | exact HKP.out _ t1 l1 | exact HKP.out _ (t1.alloc _) (l1.alloc _) | exact HKP.out _ t2 l2 | exact HKP.out _ (t2.far (by show B ≠ B + 1 + 1 + 1; omega) _) (l2.far (by show B + 1 ≠ B + 1 + 1 + 1; omega) _))
        clear hK K
        (try simp only [Act.put, List.setIfInBounds_toArray, List.set_cons_zero, List.set_cons_succ])
        apply takeH (i := 9) rfl (by kernel_rfl) (by kernel_rfl) (by kernel_rfl) (fun _ _ _ h => h) (by rfl)
        case hy => (intro w hSw; (try dsimp only at hSw); go_simp; try with_reducible rfl)
        case hS => assumption
        (try simp only [Act.put, List.setIfInBounds_toArray, List.set_cons_zero, List.set_cons_succ])
        refine doH (i := 10) rfl (by kernel_rfl) (by rfl) (fun K hK => ?_)
        go_simp
        refine hK.out _ _ ?_ (fun hH10 => ?_)
        · (first | exact HKP.out _ hTd hLd | exact HKP.out _ t1 l1 | exact HKP.out _ (t1.alloc _) (l1.alloc _) | exact HKP.out _ t2 l2 | exact HKP.out _ (t2.far (by show B ≠ B + 1 + 1 + 1; omega) _) (l2.far (by show B + 1 ≠ B + 1 + 1 + 1; omega) _))
        clear hK K
        (try simp only [Act.put, List.setIfInBounds_toArray, List.set_cons_zero, List.set_cons_succ])
        refine wpAnyH_done (by kernel_rfl) ?_ _
        simp only [onlyN]
        have t3 := t2.far (p := ⟨B + 1 + 1 + 1, 1, none⟩) (by show B ≠ B + 1 + 1 + 1; omega) (.slice (some ⟨g2, 0, none⟩) (F.length + 1) cap2)
        have l3 := l2.far (p := ⟨B + 1 + 1 + 1, 1, none⟩) (by show B + 1 ≠ B + 1 + 1 + 1; omega) (.slice (some ⟨g2, 0, none⟩) (F.length + 1) cap2)
        have o3 := o2'.far (p := ⟨B + 1 + 1 + 1, 1, none⟩) (by show B + 1 + 1 ≠ B + 1 + 1 + 1; omega) (.slice (some ⟨g2, 0, none⟩) (F.length + 1) cap2)
        have r3 := r2.set_ 1 (.slice (some ⟨g2, 0, none⟩) (F.length + 1) cap2)
        have own3 := own_far own2 (p := ⟨B + 1 + 1 + 1, 1, none⟩) (by show B + 1 + 1 + 1 < _; omega) (.slice (some ⟨g2, 0, none⟩) (F.length + 1) cap2)
        have hBW3 := hBW2.setCell (p := ⟨B + 1 + 1 + 1, 1, none⟩) (by show w.heap.size ≤ B + 1 + 1 + 1; omega) (.slice (some ⟨g2, 0, none⟩) (F.length + 1) cap2)
        have hKO : KeepsOthers W (w2'.setCell ⟨B + 1 + 1 + 1, 1, none⟩ (.slice (some ⟨g2, 0, none⟩) (F.length + 1) cap2)) := (((KeepsOthers.of_grownBy (only_of_below (a := W) hb1 none) (fun _ _ h => by cases h))).trans (keeps_own own1 hg2)).trans (KeepsOthers.setCell _ _ _)
        generalize w2'.setCell ⟨B + 1 + 1 + 1, 1, none⟩ (.slice (some ⟨g2, 0, none⟩) (F.length + 1) cap2) = w3 at *
        have q3 := ld_sl (l3.cell 0)
        have c3 : w3.cell? ⟨B + 1, 0, none⟩ = some (.slice o' (n - A) (c - A)) := l3.cell 0
        have f3 := l3.frozen 0
        have HT3 := Lib.hid t3
        have HL3 := Lib.hid l3
        have HO3 := Lib.hid o3
        have HR3 := Lib.hid r3
        have HOW3 := Lib.hid own3
        clear t3 l3 o3 r3 own3 t2 l2 r2 o2' t1 l1 r1 o1 own1 own2 hg2 c2 f2 rW1 rA1 hb1 hTd hLd rD
        gi_wp2
        refine ⟨hKO.trans (KeepsOthers.setCell _ _ _), ⟨o2, .slice (some ⟨g2, 0, none⟩) (F.length + 1) cap2, HT3.out.far (p := ⟨B + 1, 0, none⟩) (by show B ≠ B + 1; omega) _, ?_, HO3.out.far (p := ⟨B + 1, 0, none⟩) (by show B + 1 + 1 ≠ B + 1; omega) _, HR3.out.far (p := ⟨B + 1, 0, none⟩) (by show B + 1 + 1 + 1 ≠ B + 1; omega) _, ?_, ?_, Nat.le_trans hsz (hKO.trans (KeepsOthers.setCell _ _ _)).size⟩, hBW3.setCell (p := ⟨B + 1, 0, none⟩) (by show w.heap.size ≤ B + 1; omega) _⟩
        · rw [HSU.out]
          have := HL3.out.set_ 0 (.slice o2 (n - A - x) (c - A - x))
          rw [show n - (A + x) = n - A - x by omega, show c - (A + x) = c - A - x by omega]
          exact this
        · rw [HST.out]
          exact own_far HOW3.out (p := ⟨B + 1, 0, none⟩) (by show B + 1 < _; omega) _
        · rw [HSU.out]
          exact HO.out
  case done =>
    rintro D W hD ⟨⟨o', v, hT, hL, hO, hR, hown, _, _⟩, hBW⟩ hK
    obtain ⟨ov, cv, hv, _⟩ := hown.formd
    obtain ⟨lv, hlv⟩ : ∃ lv, (chk (strL n) ss).length = lv := ⟨_, rfl⟩
    rw [hlv] at hv
    subst hv
    have q0 := ld_rng hR
    have s0 : W.cell? ⟨B + 1 + 1, 0, none⟩ = some (.int .i64 0) := hO.cell 0
    have s1 : W.cell? ⟨B + 1 + 1, 1, none⟩ = some (.slice none 0 0) := hO.cell 1
    have f0 := hO.frozen 0
    have f1 := hO.frozen 1
    have HK2 := Lib.hid (((KeepsOthers.setCell W ⟨B + 1 + 1, 0, none⟩ (.int .i64 n)).trans (KeepsOthers.setCell _ ⟨B + 1 + 1, 1, none⟩ (.slice ov lv cv))).same D _ hK rfl)
    have HRES := Lib.hid ((hO.set_ 0 (.int .i64 n)).set_ 1 (.slice ov lv cv))
    have HOW := Lib.hid (own_far (own_far hown (p := ⟨B + 1 + 1, 0, none⟩) (by show B + 1 + 1 < _; omega) (.int .i64 n)) (p := ⟨B + 1 + 1, 1, none⟩) (by show B + 1 + 1 < _; omega) (.slice ov lv cv))
    have HBW := Lib.hid ((hBW.setCell (p := ⟨B + 1 + 1, 0, none⟩) (by show w.heap.size ≤ B + 1 + 1; omega) (.int .i64 n)).setCell (p := ⟨B + 1 + 1, 1, none⟩) (by show w.heap.size ≤ B + 1 + 1; omega) (.slice ov lv cv))
    clear hT hL hO hR hown hBW hT2 hL2 hO2 hR2 hI2 hB2 HH hlv
    gi_wp2
    refine ⟨by simp, .inl ⟨_, _, rfl, run_takeDeferred HK2.out, ?_⟩⟩
    refine ⟨_, results_cell_row rfl _ _ (B + 1 + 1) 33 #[.int .i64 n, .slice ov lv cv] (0, 0) _ rfl ((World.putObj_heap_other (by omega)).trans HRES.out) Try.underlying33 rfl infoRange, ?_⟩
    rw [HRP.out]
    refine ⟨_, rfl, World.ownsRow.mono (ownsRow_putObj HOW.out _ HK2.out rfl) (by omega), HBW.out.trans (belowK_b (w := w) (Nat.le_refl _) _ D _ _ (by omega) HK2.out rfl rfl)⟩
end
end Go.Proofs.Ytmokkahkfmmnmaa
