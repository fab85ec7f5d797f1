/-
  slices.Clone of requests, and of heads. A state's copy: slices of its own. The first requests of a state; its heads.
-/
import Derived.Test.YtjmjkcgldencoaaGreatYMathYStYPlayYState
namespace Go.Proofs.YtjmjkcgldencoaaGreat
open Go.RowKit

set_option maxRecDepth 100000 in
set_option maxHeartbeats 1000000 in
theorem clone_reqs (oa : Option Addr) (n c : Nat) (ts : List Req) (hn : ts.length = n) (hlen : n ≤ 1048576) (hle : n ≤ c) (hna : oa = none → c = 0) (w : World) (ha : RowG reqK w oa ts) :
    Calls Tryz.prog 47 #[.slice oa n c] w (RG reqK ts w) := by
  have q : ∀ (W : World) (a : Option Addr) (n c n' c' : Nat), (binOp .eql 28 (.slice a n c) (.slice none n' c')).run Tryz.prog W = .ok (.bool a.isNone) W := fun W a n c n' c' => Lib.run_eql_slice_nil W _ _ a n c n' c' Tryz.underlying28
  have HRT := Lib.hid (show ∀ e w', RG reqK ts w e w' = ∃ v, e = .returned v ∧ OwnG reqK w' w.heap.size v ts ∧ Below w.heap.size w w' from fun _ _ => rfl)
  cases oa with
  | none =>
    obtain rfl : c = 0 := hna rfl
    obtain rfl : n = 0 := by omega
    obtain rfl : ts = [] := List.length_eq_zero_iff.1 hn
    generalize RG reqK [] w = PO at *
    go_enter Tryz.func47, Tryz.ntmps47
    go_wp2
    rw [HRT.out]
    exact ⟨_, rfl, ownG_nil _ _, Below.refl _ _⟩
  | some a =>
    have hm0 : OwnG reqK (w.alloc (.cells #[] 24)) w.heap.size (.slice (some ⟨w.heap.size, 0, none⟩) 0 0) [] := ownG_lit reqOk w w.heap.size (Nat.le_refl _)
    have hB0 := (Below.refl _ w).alloc (Nat.le_refl _) (.cells #[] 24)
    obtain ⟨v', w', hr, hown', hg'⟩ := append_g reqOk hm0 (some a) n c hn (ha.below hB0) (fun _ h => by cases h) (by simp; omega) (by simp)
    have hr : (Builtin.append_ #[28, 28] 28 #[.slice (some ⟨w.heap.size, 0, none⟩) 0 0, .slice (some a) n c]).run Tryz.prog (w.alloc (.cells #[] 24)) = .ok v' w' := hr
    have hB' := ownG_below hB0 hm0 (Nat.le_refl _) hg'
    have HO := Lib.hid hown'
    generalize RG reqK ts w = PO at *
    clear hown' hg' hm0
    go_enter Tryz.func47, Tryz.ntmps47
    go_wp2_with (at_builtin; refine Lib.wpList_append_run _ rfl _ _ 28 28 rfl _ _ rfl rfl _ _ hr ?_)
    go_wp2
    rw [HRT.out]
    exact ⟨_, rfl, by simpa using HO.out, hB'⟩
set_option maxRecDepth 100000 in
set_option maxHeartbeats 1000000 in
theorem clone_heads (oa : Option Addr) (n c : Nat) (ts : List Hd) (hn : ts.length = n) (hlen : n ≤ 1048576) (hle : n ≤ c) (hna : oa = none → c = 0) (w : World) (ha : RowG hdK w oa ts) :
    Calls Tryz.prog 48 #[.slice oa n c] w (RG hdK ts w) := by
  have q : ∀ (W : World) (a : Option Addr) (n c n' c' : Nat), (binOp .eql 35 (.slice a n c) (.slice none n' c')).run Tryz.prog W = .ok (.bool a.isNone) W := fun W a n c n' c' => Lib.run_eql_slice_nil W _ _ a n c n' c' Tryz.underlying35
  have HRT := Lib.hid (show ∀ e w', RG hdK ts w e w' = ∃ v, e = .returned v ∧ OwnG hdK w' w.heap.size v ts ∧ Below w.heap.size w w' from fun _ _ => rfl)
  cases oa with
  | none =>
    obtain rfl : c = 0 := hna rfl
    obtain rfl : n = 0 := by omega
    obtain rfl : ts = [] := List.length_eq_zero_iff.1 hn
    generalize RG hdK [] w = PO at *
    go_enter Tryz.func48, Tryz.ntmps48
    go_wp2
    rw [HRT.out]
    exact ⟨_, rfl, ownG_nil _ _, Below.refl _ _⟩
  | some a =>
    have hm0 : OwnG hdK (w.alloc (.cells #[] 67)) w.heap.size (.slice (some ⟨w.heap.size, 0, none⟩) 0 0) [] := ownG_lit hdOk w w.heap.size (Nat.le_refl _)
    have hB0 := (Below.refl _ w).alloc (Nat.le_refl _) (.cells #[] 67)
    obtain ⟨v', w', hr, hown', hg'⟩ := append_g hdOk hm0 (some a) n c hn (ha.below hB0) (fun _ h => by cases h) (by simp; omega) (by simp)
    have hr : (Builtin.append_ #[35, 35] 35 #[.slice (some ⟨w.heap.size, 0, none⟩) 0 0, .slice (some a) n c]).run Tryz.prog (w.alloc (.cells #[] 67)) = .ok v' w' := hr
    have hB' := ownG_below hB0 hm0 (Nat.le_refl _) hg'
    have HO := Lib.hid hown'
    generalize RG hdK ts w = PO at *
    clear hown' hg' hm0
    go_enter Tryz.func48, Tryz.ntmps48
    go_wp2_with (at_builtin; refine Lib.wpList_append_run _ rfl _ _ 35 35 rfl _ _ rfl rfl _ _ hr ?_)
    go_wp2
    rw [HRT.out]
    exact ⟨_, rfl, by simpa using HO.out, hB'⟩
end Go.Proofs.YtjmjkcgldencoaaGreat
namespace Go.Proofs.YtjmjkcgldencoaaGreat
open Go.RowKit

/-- what a copy is: slices that the call made, the heads' behind the requests' -/
def RCopy (x y z u : Lst) (tk : List Req) (hd : List Hd) (w : World) (e : Ending) (w' : World) : Prop := ∃ a b B, e = .returned (.agg (cellsS a x y z u b)) ∧ OwnG reqK w' w.heap.size a tk ∧ OwnG hdK w' B b hd ∧ w.heap.size ≤ B ∧ (∀ g, a.ownBlock = some g → g < B) ∧ B ≤ w'.heap.size ∧ Below w.heap.size w w'
section
attribute [-go_sem] loadVar
set_option maxRecDepth 100000 in
set_option maxHeartbeats 1000000 in
theorem copied_any (B0 : Nat) (va vb : Value) (x y z u : Lst) (tk : List Req) (hd : List Hd) (htk : tk.length ≤ 1000) (hhd : hd.length ≤ 1000) (w : World) (hA : SlB reqK w B0 va tk) (hD : SlB hdK w B0 vb hd) :
    Calls Tryz.prog 29 #[.agg (cellsS va x y z u vb)] w (RCopy x y z u tk hd w) := by
  have HRC := Lib.hid (show ∀ e w', RCopy x y z u tk hd w e w' = ∃ a b B, e = .returned (.agg (cellsS a x y z u b)) ∧ OwnG reqK w' w.heap.size a tk ∧ OwnG hdK w' B b hd ∧ w.heap.size ≤ B ∧ (∀ g, a.ownBlock = some g → g < B) ∧ B ≤ w'.heap.size ∧ Below w.heap.size w w' from fun _ _ => rfl)
  obtain ⟨oa, ca, rfl, hA1, hA2, hA3, _⟩ := hA
  obtain ⟨ob, cb, rfl, hD1, hD2, hD3, _⟩ := hD
  obtain ⟨n, hn⟩ : ∃ n, tk.length = n := ⟨_, rfl⟩
  obtain ⟨m, hm⟩ : ∃ m, hd.length = m := ⟨_, rfl⟩
  rw [hn] at hA2 htk ⊢
  rw [hm] at hD2 hhd ⊢
  have HC1 : Hid (∀ W, Below w.heap.size w W → Calls Tryz.prog 47 #[.slice oa n ca] W fun e w' => ∃ o c, e = .returned (.slice o n c) ∧ OwnG reqK w' W.heap.size (.slice o n c) tk ∧ Below W.heap.size W w') := Lib.hid fun W hW => by
    refine (clone_reqs oa n ca tk hn (by omega) hA2 hA3 W (hA1.below hW)).mono ?_
    rintro e w' ⟨v, rfl, hv, hb⟩
    obtain ⟨o, c, rfl, _⟩ := hv.form reqOk
    rw [hn] at hv ⊢
    exact ⟨o, c, rfl, hv, hb⟩
  have HC2 : Hid (∀ W, Below w.heap.size w W → Calls Tryz.prog 48 #[.slice ob m cb] W fun e w' => ∃ o c, e = .returned (.slice o m c) ∧ OwnG hdK w' W.heap.size (.slice o m c) hd ∧ Below W.heap.size W w') := Lib.hid fun W hW => by
    refine (clone_heads ob m cb hd hm (by omega) hD2 hD3 W (hD1.below hW)).mono ?_
    rintro e w' ⟨v, rfl, hv, hb⟩
    obtain ⟨o, c, rfl, _⟩ := hv.form hdOk
    rw [hm] at hv ⊢
    exact ⟨o, c, rfl, hv, hb⟩
  have hz := zeroS
  obtain ⟨w0, hw0⟩ : ∃ w0, (w.alloc (.cells (cellsS (.slice oa n ca) x y z u (.slice ob m cb)) 37)).alloc (.cells zeroSt 37) = w0 := ⟨_, rfl⟩
  have hb0 : Below w.heap.size w w0 := by rw [← hw0]; exact ((Below.refl _ w).alloc (Nat.le_refl _) _).alloc (by simp) _
  have k0 : Blk w0 w.heap.size 37 (cellsS (.slice oa n ca) x y z u (.slice ob m cb)) := by rw [← hw0]; exact (Blk.new _ _ _).alloc _
  have k1 : Blk w0 (w.heap.size + 1) 37 zeroSt := by rw [← hw0]; exact Blk.new_at (by simp)
  have HW0 := Lib.hid hw0
  clear hw0 hA1 hA2 hA3 hD1 hD2 hD3 hn hm htk hhd
  generalize RCopy x y z u tk hd w = PO at *
  have HC := Lib.hid (fun a b v => (show (cellsS a x y z u b).setIfInBounds 0 v = cellsS v x y z u b from rfl))
  have HD := Lib.hid (fun a b v => (show (cellsS a x y z u b).setIfInBounds 21 v = cellsS a x y z u v from rfl))
  have l0 := sl_req (w := w0) (p := ⟨w.heap.size, 0, none⟩) (k0.cell 0)
  change (loadVar 28 _).run Tryz.prog w0 = .ok (.slice oa n ca) w0 at l0
  have K0 := Lib.hid k0
  have K1 := Lib.hid k1
  have B0' := Lib.hid hb0
  clear k0 k1 hb0
  go_enter Tryz.func29, Tryz.ntmps29
  go_wp2_with (rw [HW0.out])
  refine (HC1.out w0 B0'.out).mono ?_
  rintro e w1 ⟨o1, c1, rfl, hv1, hb1⟩
  have q1 := (K0.out.below hb1 K0.out.lt).cell 0
  change w1.cell? _ = some (.slice oa n ca) at q1
  have f1 := (K0.out.below hb1 K0.out.lt).frozen 0
  obtain ⟨w2, hw2⟩ : ∃ w2, w1.setCell ⟨w.heap.size, 0, none⟩ (.slice o1 n c1) = w2 := ⟨_, rfl⟩
  have k2 : Blk w2 w.heap.size 37 (cellsS (.slice o1 n c1) x y z u (.slice ob m cb)) := by
    rw [← hw2, ← HC.out (.slice oa n ca) (.slice ob m cb)]
    exact (K0.out.below hb1 K0.out.lt).set_ 0 _
  have k3 : Blk w2 (w.heap.size + 1) 37 zeroSt := by
    rw [← hw2]
    exact (K1.out.below hb1 K1.out.lt).far (p := ⟨w.heap.size, 0, none⟩) (by show w.heap.size + 1 ≠ w.heap.size; omega) _
  have hg2 : w1.grownBy w2 (some w.heap.size) := by rw [← hw2]; exact grownG_setCell w1 ⟨w.heap.size, 0, none⟩ _
  have hv2 : OwnG reqK w2 w0.heap.size (.slice o1 n c1) tk := hv1.grown hg2 (by
    cases ho : (Value.slice o1 n c1).ownBlock with
    | none => exact .inl rfl
    | some q => refine .inr (fun e => ?_); have h1 := (World.ownsRow.lt hv1 q ho).1; have h2 := K0.out.lt; injection e with e; omega)
  have hb2 : Below w.heap.size w w2 := by rw [← hw2]; exact (B0'.out.trans (hb1.mono B0'.out.size)).setCell (p := ⟨w.heap.size, 0, none⟩) (Nat.le_refl _) _
  have HW2 := Lib.hid hw2
  have K2 := Lib.hid k2
  have K3 := Lib.hid k3
  have HV2 := Lib.hid hv2
  have HB2 := Lib.hid hb2
  have HB12 : w1.heap.size = w2.heap.size := by rw [← hw2]; simp [World.setCell]
  have l2 := sl_hd (w := w2) (p := ⟨w.heap.size, 21, none⟩) (K2.out.cell 21)
  change (loadVar 35 _).run Tryz.prog w2 = .ok (.slice ob m cb) w2 at l2
  clear hw2 k2 k3 hv1 hv2 hb2 hg2 l0
  go_wp2_with (rw [HW2.out])
  refine (HC2.out w2 HB2.out).mono ?_
  rintro e w3 ⟨o3, c3, rfl, hv3, hb3⟩
  clear q1 f1
  have q3 := (K2.out.below hb3 K2.out.lt).cell 21
  change w3.cell? _ = some (.slice ob m cb) at q3
  have f3 := (K2.out.below hb3 K2.out.lt).frozen 21
  obtain ⟨w4, hw4⟩ : ∃ w4, w3.setCell ⟨w.heap.size, 21, none⟩ (.slice o3 m c3) = w4 := ⟨_, rfl⟩
  have k4 : Blk w4 w.heap.size 37 (cellsS (.slice o1 n c1) x y z u (.slice o3 m c3)) := by
    rw [← hw4, ← HD.out (.slice o1 n c1) (.slice ob m cb)]
    exact (K2.out.below hb3 K2.out.lt).set_ 21 _
  have k5 : Blk w4 (w.heap.size + 1) 37 zeroSt := by
    rw [← hw4]
    exact (K3.out.below hb3 K3.out.lt).far (p := ⟨w.heap.size, 21, none⟩) (by show w.heap.size + 1 ≠ w.heap.size; omega) _
  have hg4 : w3.grownBy w4 (some w.heap.size) := by rw [← hw4]; exact grownG_setCell w3 ⟨w.heap.size, 21, none⟩ _
  have hlt := K0.out.lt
  have hs12 := hb1.size
  have hv4 : OwnG reqK w4 w0.heap.size (.slice o1 n c1) tk := (HV2.out.below hb3).grown hg4 (by
    cases ho : (Value.slice o1 n c1).ownBlock with
    | none => exact .inl rfl
    | some q => refine .inr (fun e => ?_); have h1 := (World.ownsRow.lt HV2.out q ho).1; injection e with e; omega)
  have hv5 : OwnG hdK w4 w2.heap.size (.slice o3 m c3) hd := hv3.grown hg4 (by
    cases ho : (Value.slice o3 m c3).ownBlock with
    | none => exact .inl rfl
    | some q => refine .inr (fun e => ?_); have h1 := (World.ownsRow.lt hv3 q ho).1; injection e with e; omega)
  have hb4 : Below w.heap.size w w4 := by rw [← hw4]; exact (HB2.out.trans (hb3.mono HB2.out.size)).setCell (p := ⟨w.heap.size, 21, none⟩) (Nat.le_refl _) _
  have hs34 : w3.heap.size = w4.heap.size := by rw [← hw4]; simp [World.setCell]
  have hs23 := hb3.size
  have HW4 := Lib.hid hw4
  have l4 := st_load (cellsS_size _ _ _ _ _ _) k4
  have HK4 := Lib.hid k4
  have HK5 := Lib.hid k5
  have HL : Hid (∀ q, (Value.slice o1 n c1).ownBlock = some q → q < w2.heap.size) := Lib.hid fun q ho => (World.ownsRow.lt HV2.out q ho).2
  have HV4 := Lib.hid hv4
  have HV5 := Lib.hid hv5
  have HB4 := Lib.hid hb4
  clear hw4 k4 k5 hv3 hv4 hv5 hg4 hb4 l2
  have HI := Lib.hid (show (Tryz.prog.info? 37).map (·.size) = some (cellsS (.slice o1 n c1) x y z u (.slice o3 m c3)).size from infoS)
  have HZ := Lib.hid (show zeroSt.size = (cellsS (.slice o1 n c1) x y z u (.slice o3 m c3)).size from rfl)
  have HO1 := Lib.hid (cellsS_one o1 o3 n m c1 c3 x y z u)
  have HFIN : Hid (∀ W, OwnG reqK W w0.heap.size (.slice o1 n c1) tk → OwnG hdK W w2.heap.size (.slice o3 m c3) hd → w2.heap.size ≤ W.heap.size → Below w.heap.size w W → PO (.returned (.agg (cellsS (.slice o1 n c1) x y z u (.slice o3 m c3)))) W) := Lib.hid fun W h1 h2 h3 h4 => by
    rw [HRC.out]
    exact ⟨_, _, w2.heap.size, rfl, h1.mono (by omega), h2, by omega, HL.out, h3, h4⟩
  clear HRC
  generalize cellsS (.slice o1 n c1) x y z u (.slice o3 m c3) = C4 at *
  go_wp2_with (first
    | rw [HW4.out]
    | (refine wpList_store_row rfl 37 _ _ rfl (w.heap.size + 1) C4 rfl rfl 37 zeroSt HK5.out HI.out HZ.out HO1.out ?_))
  have k6 : Blk (w4.setRow (w.heap.size + 1) C4) (w.heap.size + 1) 37 C4 := setRow_heap w4 (w.heap.size + 1) zeroSt C4 37 (0, 0) HK5.out
  have hg6 : w4.grownBy (w4.setRow (w.heap.size + 1) C4) (some (w.heap.size + 1)) := only_setRow (grown_refl _ _) _
  refine bodyPost_ret (results_cell_row rfl _ _ (w.heap.size + 1) 37 C4 (0, 0) _ rfl k6 Tryz.underlying37 rfl HI.out) rfl ?_
  have hlt1 := K1.out.lt
  have hs6 : (w4.setRow (w.heap.size + 1) C4).heap.size = w4.heap.size := by simp
  refine HFIN.out _ (HV4.out.grown hg6 ?_) (HV5.out.grown hg6 ?_) (by omega) ((HB4.out.grown hg6 HB4.out.size (fun k hk => by injection hk; omega)))
  · cases ho : (Value.slice o1 n c1).ownBlock with
    | none => exact .inl rfl
    | some q => refine .inr (fun e => ?_); have h1 := (World.ownsRow.lt HV4.out q ho).1; injection e with e; omega
  · cases ho : (Value.slice o3 m c3).ownBlock with
    | none => exact .inl rfl
    | some q => refine .inr (fun e => ?_); have h1 := (World.ownsRow.lt HV5.out q ho).1; injection e with e; omega
end
end Go.Proofs.YtjmjkcgldencoaaGreat
namespace Go.Proofs.YtjmjkcgldencoaaGreat
open Go.RowKit

/-- as many as n, or as are nearest to n -/
def nearN (n : Int) (N : Nat) : Nat := (min (max n 0) (N : Int)).toNat
theorem nearN_le (n : Int) (N : Nat) : nearN n N ≤ N := by unfold nearN; omega
theorem nearN_int (n : Int) (N : Nat) : min (max n 0) (N : Int) = (nearN n N : Int) := by unfold nearN; omega
set_option maxRecDepth 100000 in
theorem slice_req (oa : Option Addr) (n cap k : Nat) (hk : k ≤ cap) (W : World) : (Instr.slice 28 (.slice oa n cap) none (some (.int .i64 (k : Int))) none).run Tryz.prog W = .ok (.slice oa k cap) W := by
  rw [run_slice_h W _ _ n cap Tryz.underlying28 .i64 (k : Int) (by omega) (by omega)]
  have hs : (sizeOf (Tryz.prog.elem 28)).run Tryz.prog W = .ok 5 W := by kernel_rfl
  rw [hs]
  simp only [Result.andThen_ok, sliced, Int.toNat_natCast, Nat.zero_mul, Nat.sub_zero]
  congr 2
  split
  · rfl
  · cases oa with
    | none => rfl
    | some a => simp [Addr.add]
section
attribute [-go_sem] loadVar
set_option maxRecDepth 100000 in
set_option maxHeartbeats 1000000 in
theorem first_any (oa : Option Addr) (N ca : Nat) (x y z u : Lst) (vb : Value) (n : Int) (hle : N ≤ ca) (hN : N ≤ 1000000) (hn : -9223372036854775808 ≤ n ∧ n ≤ 9223372036854775807) (w : World) :
    Calls Tryz.prog 31 #[.agg (cellsS (.slice oa N ca) x y z u vb), .int .i64 n] w fun e w' => e = .returned (.slice oa (nearN n N) ca) ∧ Below w.heap.size w w' := by
  obtain ⟨w0, hw0⟩ : ∃ w0, w.alloc (.cells (cellsS (.slice oa N ca) x y z u vb) 37) = w0 := ⟨_, rfl⟩
  have hb0 : Below w.heap.size w w0 := by rw [← hw0]; exact (Below.refl _ w).alloc (Nat.le_refl _) _
  have k0 : Blk w0 w.heap.size 37 (cellsS (.slice oa N ca) x y z u vb) := by rw [← hw0]; exact Blk.new _ _ _
  have l0 := sl_req (w := w0) (p := ⟨w.heap.size, 0, none⟩) (k0.cell 0)
  change (loadVar 28 _).run Tryz.prog w0 = .ok (.slice oa N ca) w0 at l0
  have HW0 := Lib.hid hw0
  have hk := nearN_le n N
  have hs := slice_req oa N ca (nearN n N) (by omega) w0
  have hm := nearN_int n N
  generalize nearN n N = k at *
  clear hw0 k0
  go_enter Tryz.func31, Tryz.ntmps31
  go_wp2_with (rw [HW0.out])
  go_ret
  exact ⟨rfl, hb0⟩
/-- the head of a number, and whether it is there -/
def headAt (hd : List Hd) (q : Int) : Hd × Bool := if 1 ≤ q ∧ q ≤ hd.length then (hd.getD (q.toNat - 1) default, true) else (default, false)
def zeroHd : Array Value := #[.int .i64 0, .int .i64 0, .int .i64 0, .string ⟨#[]⟩, .string ⟨#[]⟩]
theorem info5 : (Tryz.prog.info? 67).map (·.size) = some 5 := by kernel_rfl
theorem hd_one (a b c : Int) (d e : ByteArray) : ((#[.int .i64 a, .int .i64 b, .int .i64 c, .string d, .string e] : Array Value).all fun x => x.oneCell') = true := by simp [Value.oneCell']
set_option maxRecDepth 100000 in
set_option maxHeartbeats 1000000 in
theorem stHead_any (va : Value) (x y z u : Lst) (ob : Option Addr) (m cb : Nat) (hd : List Hd) (hm : hd.length = m) (hN : m ≤ 1000000) (q : Int) (hq : -9223372036854775808 ≤ q ∧ q ≤ 9223372036854775807) (w : World) (hD : RowG hdK w ob hd) :
    Calls Tryz.prog 20 #[.agg (cellsS va x y z u (.slice ob m cb)), .int .i64 q] w fun e w' => e = .returned (.tuple #[.agg (headAt hd q).1.enc.toArray, .bool (headAt hd q).2]) ∧ Below w.heap.size w w' := by
  obtain ⟨w0, hw0⟩ : ∃ w0, (w.alloc (.cells (cellsS va x y z u (.slice ob m cb)) 37)).alloc (.cells zeroHd 67) = w0 := ⟨_, rfl⟩
  have hb0 : Below w.heap.size w w0 := by rw [← hw0]; exact ((Below.refl _ w).alloc (Nat.le_refl _) _).alloc (by simp) _
  have k0 : Blk w0 w.heap.size 37 (cellsS va x y z u (.slice ob m cb)) := by rw [← hw0]; exact (Blk.new _ _ _).alloc _
  have k1 : Blk w0 (w.heap.size + 1) 67 zeroHd := by rw [← hw0]; exact Blk.new_at (by simp)
  have l0 := sl_hd (w := w0) (p := ⟨w.heap.size, 21, none⟩) (k0.cell 21)
  change (loadVar 35 _).run Tryz.prog w0 = .ok (.slice ob m cb) w0 at l0
  have hz : ∀ W : World, (zeroValue 67).run Tryz.prog W = .ok (.agg zeroHd) W := fun W => by kernel_rfl
  have hno : ¬ (1 ≤ q ∧ q ≤ (m : Int)) → (headAt hd q).1.enc.toArray = zeroHd ∧ (headAt hd q).2 = false := fun h => by
    unfold headAt
    rw [hm, if_neg h]
    exact ⟨rfl, rfl⟩
  have HI := Lib.hid (show (Tryz.prog.info? 67).map (·.size) = some zeroHd.size from info5)
  have HO := Lib.hid (show (zeroHd.all fun x => x.oneCell') = true from hd_one 0 0 0 ⟨#[]⟩ ⟨#[]⟩)
  have HZ := Lib.hid (show zeroHd = #[.int .i64 0, .int .i64 0, .int .i64 0, .string ⟨#[]⟩, .string ⟨#[]⟩] from rfl)
  have HK1 := Lib.hid k1
  have HW0 := Lib.hid hw0
  have HB0 := Lib.hid hb0
  by_cases hin : 1 ≤ q ∧ q ≤ (m : Int)
  · obtain ⟨j, rfl⟩ : ∃ j : Nat, q = (j : Int) + 1 := ⟨(q - 1).toNat, by omega⟩
    have hj : j < hd.length := by omega
    have hyes : (headAt hd ((j : Int) + 1)).1 = hd[j] ∧ (headAt hd ((j : Int) + 1)).2 = true := by
      unfold headAt
      rw [hm, if_pos hin, show ((j : Int) + 1).toNat - 1 = j by omega]
      refine ⟨?_, rfl⟩
      show hd.getD j default = hd[j]
      rw [List.getD_eq_getElem?_getD, List.getElem?_eq_getElem hj]
      rfl
    rw [hyes.1, hyes.2]
    obtain ⟨g, o, rfl, hg, c0, c1, c2, c3, c4⟩ := hd_at hD hj
    have hrow : RowG hdK w0 (some ⟨g, o, none⟩) hd := hD.below hb0
    have lh := RowG.load hdOk hrow (List.getElem?_eq_getElem hj)
    change (loadVar 67 ⟨g, o + j * 5, none⟩).run Tryz.prog w0 = .ok (.agg #[.int .i64 hd[j].q, .int .i64 hd[j].z, .int .i64 hd[j].t, .string hd[j].r, .string hd[j].m]) w0 at lh
    unfold Hd.enc
    obtain ⟨X, hX⟩ : ∃ X, hd[j] = X := ⟨_, rfl⟩
    rw [hX] at lh ⊢
    clear hyes c0 c1 c2 c3 c4
    clear hX
    obtain ⟨h1, h2, h3, h4, h5⟩ := X
    dsimp only at lh ⊢
    have hjm : (j : Int) < (m : Int) := by omega
    have t1 : ¬ ((j : Int) + 1 < 1) := by omega
    have t2 : ¬ ((m : Int) < (j : Int) + 1) := by omega
    have e1 : (j : Int) + 1 - 1 = (j : Int) := by omega
    clear hw0 k0 k1 hb0 hD hno hrow hin hm
    have HIX := Lib.hid (show (Tryz.prog.info? 67).map (·.size) = some (#[.int .i64 h1, .int .i64 h2, .int .i64 h3, .string h4, .string h5] : Array Value).size from info5)
    go_enter Tryz.func20, Tryz.ntmps20
    go_wp2_with (first
      | rw [HW0.out]
      | (refine wpList_store_row rfl 67 _ _ rfl (w.heap.size + 1) #[.int .i64 h1, .int .i64 h2, .int .i64 h3, .string h4, .string h5] rfl rfl 67 zeroHd HK1.out HIX.out rfl (hd_one _ _ _ _ _) ?_))
    have n5 := setRow_heap w0 (w.heap.size + 1) zeroHd #[.int .i64 h1, .int .i64 h2, .int .i64 h3, .string h4, .string h5] 67 (0, 0) HK1.out
    refine bodyPost_ret (results_row_tmp rfl _ _ (w.heap.size + 1) 67 #[.int .i64 h1, .int .i64 h2, .int .i64 h3, .string h4, .string h5] _ rfl n5 Tryz.underlying67 rfl HIX.out) rfl ?_
    exact ⟨rfl, HB0.out.grown (only_setRow (grown_refl _ _) _) HB0.out.size (fun k hk => by injection hk; omega)⟩
  · rw [(hno hin).1, (hno hin).2]
    have n5 := setRow_heap w0 (w.heap.size + 1) zeroHd zeroHd 67 (0, 0) HK1.out
    clear hw0 k0 k1 hb0 hD hno hm
    rcases (by omega : q < 1 ∨ (¬ q < 1 ∧ (m : Int) < q)) with t1 | ⟨t1, t2⟩
    all_goals
      clear hin
      go_enter Tryz.func20, Tryz.ntmps20
      go_wp2_with (first
        | rw [HW0.out]
        | (refine wpList_store_row rfl 67 _ _ rfl (w.heap.size + 1) zeroHd rfl rfl 67 zeroHd HK1.out HI.out rfl HO.out ?_))
      refine bodyPost_ret (results_row_tmp rfl _ _ (w.heap.size + 1) 67 zeroHd _ rfl n5 Tryz.underlying67 rfl HI.out) rfl ?_
      exact ⟨rfl, HB0.out.grown (only_setRow (grown_refl _ _) _) HB0.out.size (fun k hk => by injection hk; omega)⟩
end
end Go.Proofs.YtjmjkcgldencoaaGreat
