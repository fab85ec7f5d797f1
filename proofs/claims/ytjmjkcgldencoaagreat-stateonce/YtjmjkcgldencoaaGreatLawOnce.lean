/-
  The law StateOnce.
-/
import Derived.Test.YtjmjkcgldencoaaGreatYDo
import Derived.Test.YtjmjkcgldencoaaGreatYAwYSame
namespace Go.Proofs.YtjmjkcgldencoaaGreat
open Go.RowKit

/-- asked again: the same answer, and the log stays -/
theorem ask_twice {W : Wd} (h : InvW W) (r : Req) : saysS (askS W r) r = saysS W r ∧ askS (askS W r) r = askS W r := by
  unfold saysS askS
  dsimp only
  rcases ask_again h r W.hd.length with e | ⟨e1, e2, e3⟩
  · rw [e]
    exact ⟨rfl, rfl⟩
  · rw [e1, e2]
    exact ⟨rfl, by rw [e1, e2]⟩
theorem err_load {w : World} {p : Addr} {x : Int} (h : w.cell? p = some (.int .i64 x)) : (loadVar 29 p).run Tryz.prog w = .ok (.int .i64 x) w := by
  go_simp
/-- the clients' cells, whole -/
def cellsC (x y z u : Lst) : Array Value := #[.int .i64 x.q, .int .i64 x.n, .int .i64 x.r.e, .int .i64 x.r.i, .int .i64 x.r.h, .int .i64 y.q, .int .i64 y.n, .int .i64 y.r.e, .int .i64 y.r.i, .int .i64 y.r.h,
    .int .i64 z.q, .int .i64 z.n, .int .i64 z.r.e, .int .i64 z.r.i, .int .i64 z.r.h, .int .i64 u.q, .int .i64 u.n, .int .i64 u.r.e, .int .i64 u.r.i, .int .i64 u.r.h]
theorem clients_load {w : World} {g : Nat} {a b : Value} {x y z u : Lst} (h : Blk w g 37 (cellsS a x y z u b)) : (loadVar 34 ⟨g, 1, none⟩).run Tryz.prog w = .ok (.agg (cellsC x y z u)) w := by
  refine run_loadVar_mid w g 1 34 (cellsC x y z u).toList _ (fun j v hv => ?_) Tryz.underlying34 rfl (by kernel_rfl)
  rw [h.cell, ← hv]
  have hj : j < 20 := (List.getElem?_eq_some_iff.1 hv).1
  match j, hj with
  | 0, _ | 1, _ | 2, _ | 3, _ | 4, _ | 5, _ | 6, _ | 7, _ | 8, _ | 9, _ | 10, _ | 11, _ | 12, _ | 13, _ | 14, _ | 15, _ | 16, _ | 17, _ | 18, _ | 19, _ => rfl
theorem last_eq (a b c d e : Int) (w : World) : (Op.equalIn 9999 33 (.agg #[.int .i64 a, .int .i64 b, .int .i64 c, .int .i64 d, .int .i64 e]) (.agg #[.int .i64 a, .int .i64 b, .int .i64 c, .int .i64 d, .int .i64 e])).run Tryz.prog w = .ok true w := by
  go_simp
theorem clients_part (x y z u : Lst) (w : World) : ∀ i, i < 4 → ∃ a b c d e : Int, (_root_.Go.part 33 (cellsC x y z u) (i * 5)).run Tryz.prog w = .ok (.agg #[.int .i64 a, .int .i64 b, .int .i64 c, .int .i64 d, .int .i64 e]) w
  | 0, _ => ⟨x.q, x.n, x.r.e, x.r.i, x.r.h, by simp [_root_.Go.part, isAgg, run_underlying Tryz.underlying33, Tryz.sizeOf33]; rfl⟩
  | 1, _ => ⟨y.q, y.n, y.r.e, y.r.i, y.r.h, by simp [_root_.Go.part, isAgg, run_underlying Tryz.underlying33, Tryz.sizeOf33]; rfl⟩
  | 2, _ => ⟨z.q, z.n, z.r.e, z.r.i, z.r.h, by simp [_root_.Go.part, isAgg, run_underlying Tryz.underlying33, Tryz.sizeOf33]; rfl⟩
  | 3, _ => ⟨u.q, u.n, u.r.e, u.r.i, u.r.h, by simp [_root_.Go.part, isAgg, run_underlying Tryz.underlying33, Tryz.sizeOf33]; rfl⟩
theorem clients_eqIn (x y z u : Lst) (w : World) : (Op.equalIn 10000 34 (.agg (cellsC x y z u)) (.agg (cellsC x y z u))).run Tryz.prog w = .ok true w := by
  have hp := clients_part x y z u w
  generalize cellsC x y z u = D at *
  rw [show (10000 : Nat) = 9999 + 1 from rfl, Op.equalIn]
  simp only [Sem.run_bind, run_underlying Tryz.underlying34, Result.andThen_ok, Tryz.sizeOf33, Std.Legacy.Range.forIn_eq_forIn_range', Std.Legacy.Range.size, Nat.sub_zero, Nat.add_sub_cancel, Nat.div_one]
  have hl : ∀ i ∈ List.range' 0 4 1, i < 4 := fun i hi => by simpa using (List.mem_range'_1.1 hi).2
  generalize List.range' 0 4 1 = l at hl ⊢
  induction l with
  | nil => simp
  | cons i l ih =>
    obtain ⟨a, b, c, d, e, px⟩ := hp i (hl i (by simp))
    have pe := last_eq a b c d e w
    simp only [List.forIn_cons, Sem.run_bind, px, pe, Result.andThen_ok, Bool.not_true, Bool.false_eq_true, if_false, Sem.run_pure]
    exact ih fun j hj => hl j (by simp [hj])
theorem clients_eq (x y z u : Lst) (w : World) : (binOp .neq 34 (.agg (cellsC x y z u)) (.agg (cellsC x y z u))).run Tryz.prog w = .ok (.bool false) w := by
  have h := clients_eqIn x y z u w
  generalize cellsC x y z u = D at *
  go_simp
section
attribute [-go_sem] loadVar
set_option maxRecDepth 100000 in
set_option maxHeartbeats 4000000 in
theorem law_once (oa : Option Addr) (n cap : Nat) (os : List OpR) (hl : os.length = n) (_ : n ≤ cap) (_ : n ≤ 9223372036854775807) (hb : ∀ x ∈ os, BndO x) (r : Req) (_ : BndQ r) (w : World) (hr : RowG opK w oa os) :
    Calls Tryz.prog 6 #[.slice oa n cap, .agg r.enc.toArray] w fun e w' => e = .returned (.bool true) ∧ Below w.heap.size w w' := by
  obtain ⟨rc, rq, rl, rk, rv⟩ := r
  change Calls Tryz.prog 6 #[.slice oa n cap, .agg #[.int .i64 rc, .int .i64 rq, .string rl, .string rk, .string rv]] w _
  have HAW := Lib.hid (fun W => awake11_any W)
  have HMK := Lib.hid (fun W => make_std W)
  have HFE := Lib.hid (fun W (hW : Below w.heap.size w W) => rfewO_any oa n cap 30 os hl (by decide) W (hr.below hW))
  have HSB : Hid (∀ W, Calls Tryz.prog 10 #[.agg #[.int .i64 rc, .int .i64 rq, .string rl, .string rk, .string rv]] W fun e w' => e = .returned (.bool (smallB (⟨rc, rq, rl, rk, rv⟩ : Req))) ∧ Below W.heap.size W w') := Lib.hid fun W => rsmall_any (⟨rc, rq, rl, rk, rv⟩ : Req) W
  have HDO := Lib.hid (fun W (hW : Below w.heap.size w W) (h1 : n ≤ 30) (h2 : ∀ x ∈ os, smallB x.r = true) => do_any oa n cap os hl (by omega) h2 hb W (hr.below hW))
  have HRF := Lib.hid (show ∀ W e w', RFewO n 30 os W e w' = ((∃ b, e = .returned (.bool b) ∧ (b = true → n ≤ 30 ∧ ∀ x ∈ os, smallB x.r = true)) ∧ Below W.heap.size W w') from fun _ _ _ => rfl)
  have HRD := Lib.hid (show ∀ W e w', RDo os W e w' = ∃ cs ds, e = .returned (.tuple #[.agg cs, .agg ds, .bool true]) ∧ StC w' (geP W.heap.size) cs (playW os) ∧ WdC w' (geP W.heap.size) ds (playW os) ∧ Below W.heap.size W w' from fun _ _ _ => rfl)
  have HINV := Lib.hid (InvW.play os)
  generalize playW os = PW at *
  obtain ⟨w0, hw0⟩ : ∃ w0, w.alloc (.cells #[.int .i64 rc, .int .i64 rq, .string rl, .string rk, .string rv] 24) = w0 := ⟨_, rfl⟩
  have hb0 : Below w.heap.size w w0 := by rw [← hw0]; exact (Below.refl _ w).alloc (Nat.le_refl _) _
  have k0 : Blk w0 w.heap.size 24 #[.int .i64 rc, .int .i64 rq, .string rl, .string rk, .string rv] := by rw [← hw0]; exact Blk.new _ _ _
  have HW0 := Lib.hid hw0
  clear hr hw0
  go_enter Tryz.func6, Tryz.ntmps6
  go_wp2_with (rw [HW0.out])
  refine (HAW.out _).mono ?_
  rintro e w1 ⟨rfl, hb1⟩
  replace k0 := k0.below hb1 k0.lt
  replace hb1 := hb0.trans (hb1.mono hb0.size)
  clear hb0
  go_wp2_with fail
  refine (HFE.out _ hb1).mono ?_
  rintro e w2 he2
  rw [HRF.out] at he2
  obtain ⟨⟨b, rfl, hbt⟩, hbf⟩ := he2
  replace k0 := k0.below hbf k0.lt
  have hb2 := hb1.trans (hbf.mono hb1.size)
  clear hbf
  cases b with
  | false =>
    clear hbt
    go_wp2_with fail
    refine (HAW.out _).mono ?_
    rintro e w3 ⟨rfl, hb3⟩
    have hb4 := hb2.trans (hb3.mono hb2.size)
    go_wp2
    go_ret
    exact ⟨rfl, hb4⟩
  | true =>
    obtain ⟨h60, hsm⟩ := hbt rfl
    have l0 := req_load5 k0
    obtain ⟨sb, hsb⟩ : ∃ sb, smallB (⟨rc, rq, rl, rk, rv⟩ : Req) = sb := ⟨_, rfl⟩
    rw [hsb] at HSB
    go_wp2_with fail
    refine (HSB.out _).mono ?_
    rintro e w3 ⟨rfl, hb3⟩
    replace k0 := k0.below hb3 k0.lt
    have hb4 := hb2.trans (hb3.mono hb2.size)
    clear l0 hb2 hb3 hbt
    cases sb with
    | false =>
      clear hsb hsm
      go_wp2_with fail
      refine (HAW.out _).mono ?_
      rintro e w5 ⟨rfl, hb5⟩
      have hb6 := hb4.trans (hb5.mono hb4.size)
      go_wp2
      go_ret
      exact ⟨rfl, hb6⟩
    | true =>
      have HSM := Lib.hid hsb
      clear hsb
      go_wp2_with fail
      refine (HMK.out _).mono ?_
      rintro e w5 ⟨rfl, hb5⟩
      replace k0 := k0.below hb5 k0.lt
      have hb6 := hb4.trans (hb5.mono hb4.size)
      have HD1 := Lib.hid (HDO.out w5 hb6 h60 hsm)
      clear hsm HDO hb4 hb5
      go_wp2_with fail
      refine HD1.out.mono ?_
      rintro e w6 he6
      rw [HRD.out] at he6
      obtain ⟨cs, ds, rfl, hS, hD, hb7⟩ := he6
      replace k0 := k0.below hb7 k0.lt
      have hb8 := hb6.trans (hb7.mono hb6.size)
      clear hb6 hb7
      have zs7 := zeroS
      have zw7 := zeroW
      obtain ⟨wA7, hwA⟩ : ∃ wA, ((w6.alloc (.cells zeroSt 37)).alloc (.cells zeroWd 40)) = wA := ⟨_, rfl⟩
      have bA : Below w6.heap.size w6 wA7 := by rw [← hwA]; exact ((Below.refl _ w6).alloc (Nat.le_refl _) _).alloc (by simp) _
      have kA : Blk wA7 w6.heap.size 37 zeroSt := by rw [← hwA]; exact (Blk.new _ _ _).alloc _
      have kB : Blk wA7 (w6.heap.size + 1) 40 zeroWd := by rw [← hwA]; exact Blk.new_at (by simp)
      obtain ⟨w7, hw7⟩ : ∃ x, (wA7.setRow w6.heap.size cs).setRow (w6.heap.size + 1) ds = x := ⟨_, rfl⟩
      have ks : Blk w7 w6.heap.size 37 cs := by rw [← hw7]; exact Blk.setRow (setRow_heap wA7 _ zeroSt cs 37 (0, 0) kA) (by omega) _
      have kd : Blk w7 (w6.heap.size + 1) 40 ds := by rw [← hw7]; exact setRow_heap _ _ zeroWd ds 40 (0, 0) (Blk.setRow kB (by omega) _)
      have b7 : Below w6.heap.size w6 w7 := by rw [← hw7]; exact (bA.grown (only_setRow (grown_refl wA7 (some w6.heap.size)) cs) bA.size (fun k hk => by injection hk; omega)).grown (only_setRow (grown_refl _ (some (w6.heap.size + 1))) ds) (by have := bA.size; simp; omega) (fun k hk => by injection hk; omega)
      have HWA7 := Lib.hid hwA
      have HW7 := Lib.hid hw7
      have HKA7 := Lib.hid kA
      have HKB7 := Lib.hid kB
      have HIA7 : Hid ((Tryz.prog.info? 37).map (·.size) = some (cs : Array Value).size) := Lib.hid (by rw [hS.size]; exact infoS)
      have HIB7 : Hid ((Tryz.prog.info? 40).map (·.size) = some (ds : Array Value).size) := Lib.hid (by rw [hD.size]; kernel_rfl)
      have HSA7 : Hid ((zeroSt : Array Value).size = (cs : Array Value).size) := Lib.hid (by rw [hS.size]; rfl)
      have HSB7 : Hid ((zeroWd : Array Value).size = (ds : Array Value).size) := Lib.hid (by rw [hD.size]; rfl)
      have HOA7 : Hid (((cs : Array Value).all fun x => x.oneCell') = true) := Lib.hid hS.one
      have HOB7 : Hid (((ds : Array Value).all fun x => x.oneCell') = true) := Lib.hid hD.one
      clear hwA hw7 kA kB bA
      replace k0 := k0.below b7 k0.lt
      have hb9 := hb8.trans (b7.mono hb8.size)
      have hS7 := hS.below b7
      have hD7 := hD.below b7
      clear hS hD hb8
      have l1 := st_load hS7.size ks
      have l2 := req_load5 k0
      obtain ⟨⟨xe, xi, xh⟩, hsay⟩ : ∃ y, saysS PW (⟨rc, rq, rl, rk, rv⟩ : Req) = y := ⟨_, rfl⟩
      have HA1 : Hid (∀ W, Below w7.heap.size w7 W → Calls Tryz.prog 13 #[.agg cs, .agg #[.int .i64 rc, .int .i64 rq, .string rl, .string rk, .string rv]] W fun e w' => ∃ cs', e = .returned (.tuple #[.agg cs', .agg #[.int .i64 xe, .int .i64 xi, .int .i64 xh]]) ∧ StC w' (geP W.heap.size) cs' (askS PW (⟨rc, rq, rl, rk, rv⟩ : Req)) ∧ Below W.heap.size W w') := Lib.hid fun W hW => by
        have key := applyC _ cs PW (⟨rc, rq, rl, rk, rv⟩ : Req) W HINV.out HSM.out (hS7.below hW)
        rw [hsay] at key
        exact key
      go_wp2_with (first
        | rw [HWA7.out]
        | (refine wpList_store_row rfl 37 _ _ rfl w6.heap.size cs rfl rfl 37 zeroSt HKA7.out HIA7.out HSA7.out HOA7.out ?_)
        | (refine wpList_store_row rfl 40 _ _ rfl (w6.heap.size + 1) ds rfl rfl 40 zeroWd (Blk.setRow HKB7.out (by omega) _) HIB7.out HSB7.out HOB7.out ?_; rw [HW7.out]))
      refine (HA1.out w7 (Below.refl _ _)).mono ?_
      rintro e w8 ⟨ca, rfl, hSa, hb10⟩
      have hS8 := hS7.below hb10
      have hD8 := hD7.below hb10
      replace k0 := k0.below hb10 k0.lt
      replace ks := ks.below hb10 ks.lt
      replace kd := kd.below hb10 kd.lt
      have hb11 := hb9.trans (hb10.mono hb9.size)
      clear l1 l2 HA1 hS7 hD7 hb9 hb10 b7
      have zs9 := zeroS
      have zw9 := zeroW
      obtain ⟨wA9, hwA⟩ : ∃ wA, ((w8.alloc (.cells zeroSt 37)).alloc (.cells #[.int .i64 0, .int .i64 0, .int .i64 0] 31)) = wA := ⟨_, rfl⟩
      have bA : Below w8.heap.size w8 wA9 := by rw [← hwA]; exact ((Below.refl _ w8).alloc (Nat.le_refl _) _).alloc (by simp) _
      have kA : Blk wA9 w8.heap.size 37 zeroSt := by rw [← hwA]; exact (Blk.new _ _ _).alloc _
      have kB : Blk wA9 (w8.heap.size + 1) 31 #[.int .i64 0, .int .i64 0, .int .i64 0] := by rw [← hwA]; exact Blk.new_at (by simp)
      obtain ⟨w9, hw9⟩ : ∃ x, (wA9.setRow w8.heap.size ca).setRow (w8.heap.size + 1) #[.int .i64 xe, .int .i64 xi, .int .i64 xh] = x := ⟨_, rfl⟩
      have ka : Blk w9 w8.heap.size 37 ca := by rw [← hw9]; exact Blk.setRow (setRow_heap wA9 _ zeroSt ca 37 (0, 0) kA) (by omega) _
      have kx : Blk w9 (w8.heap.size + 1) 31 #[.int .i64 xe, .int .i64 xi, .int .i64 xh] := by rw [← hw9]; exact setRow_heap _ _ #[.int .i64 0, .int .i64 0, .int .i64 0] #[.int .i64 xe, .int .i64 xi, .int .i64 xh] 31 (0, 0) (Blk.setRow kB (by omega) _)
      have b9 : Below w8.heap.size w8 w9 := by rw [← hw9]; exact (bA.grown (only_setRow (grown_refl wA9 (some w8.heap.size)) ca) bA.size (fun k hk => by injection hk; omega)).grown (only_setRow (grown_refl _ (some (w8.heap.size + 1))) #[.int .i64 xe, .int .i64 xi, .int .i64 xh]) (by have := bA.size; simp; omega) (fun k hk => by injection hk; omega)
      have HWA9 := Lib.hid hwA
      have HW9 := Lib.hid hw9
      have HKA9 := Lib.hid kA
      have HKB9 := Lib.hid kB
      have HIA9 : Hid ((Tryz.prog.info? 37).map (·.size) = some (ca : Array Value).size) := Lib.hid (by rw [hSa.size]; exact infoS)
      have HIB9 : Hid ((Tryz.prog.info? 31).map (·.size) = some (#[.int .i64 xe, .int .i64 xi, .int .i64 xh] : Array Value).size) := Lib.hid info3
      have HSA9 : Hid ((zeroSt : Array Value).size = (ca : Array Value).size) := Lib.hid (by rw [hSa.size]; rfl)
      have HSB9 : Hid ((#[.int .i64 0, .int .i64 0, .int .i64 0] : Array Value).size = (#[.int .i64 xe, .int .i64 xi, .int .i64 xh] : Array Value).size) := Lib.hid rfl
      have HOA9 : Hid (((ca : Array Value).all fun x => x.oneCell') = true) := Lib.hid hSa.one
      have HOB9 : Hid (((#[.int .i64 xe, .int .i64 xi, .int .i64 xh] : Array Value).all fun x => x.oneCell') = true) := Lib.hid (rep_one _ _ _)
      clear hwA hw9 kA kB bA
      replace k0 := k0.below b9 k0.lt
      replace ks := ks.below b9 ks.lt
      replace kd := kd.below b9 kd.lt
      have hb12 := hb11.trans (b9.mono hb11.size)
      have hS9 := hS8.below b9
      have hD9 := hD8.below b9
      have hA9 := hSa.below b9
      clear hS8 hD8 hSa hb11 b9
      have l1 := st_load hA9.size ka
      have l2 := req_load5 k0
      obtain ⟨htw1, htw2⟩ := ask_twice HINV.out (⟨rc, rq, rl, rk, rv⟩ : Req)
      have HIA : Hid (InvW (askS PW (⟨rc, rq, rl, rk, rv⟩ : Req))) := Lib.hid (HINV.out.ask (⟨rc, rq, rl, rk, rv⟩ : Req))
      have HOK := Lib.hid (fun h => ask_ok HINV.out (⟨rc, rq, rl, rk, rv⟩ : Req) h)
      have HA2 : Hid (Calls Tryz.prog 13 #[.agg ca, .agg #[.int .i64 rc, .int .i64 rq, .string rl, .string rk, .string rv]] w9 fun e w' => ∃ cs', e = .returned (.tuple #[.agg cs', .agg #[.int .i64 xe, .int .i64 xi, .int .i64 xh]]) ∧ StC w' (geP w9.heap.size) cs' (askS PW (⟨rc, rq, rl, rk, rv⟩ : Req)) ∧ Below w9.heap.size w9 w') := Lib.hid (by
        have key := applyC _ ca (askS PW (⟨rc, rq, rl, rk, rv⟩ : Req)) (⟨rc, rq, rl, rk, rv⟩ : Req) w9 HIA.out HSM.out hA9
        rw [htw1, htw2, hsay] at key
        exact key)
      clear htw1 htw2
      go_wp2_with (first
        | rw [HWA9.out]
        | (refine wpList_store_row rfl 37 _ _ rfl w8.heap.size ca rfl rfl 37 zeroSt HKA9.out HIA9.out HSA9.out HOA9.out ?_)
        | (refine wpList_store_row rfl 31 _ _ rfl (w8.heap.size + 1) #[.int .i64 xe, .int .i64 xi, .int .i64 xh] rfl rfl 31 #[.int .i64 0, .int .i64 0, .int .i64 0] (Blk.setRow HKB9.out (by omega) _) HIB9.out HSB9.out HOB9.out ?_; rw [HW9.out]))
      refine HA2.out.mono ?_
      rintro e w10 ⟨cb, rfl, hSb, hb13⟩
      replace k0 := k0.below hb13 k0.lt
      replace ks := ks.below hb13 ks.lt
      replace kd := kd.below hb13 kd.lt
      replace ka := ka.below hb13 ka.lt
      replace kx := kx.below hb13 kx.lt
      have hS10 := hS9.below hb13
      have hD10 := hD9.below hb13
      have hA10 := hA9.below hb13
      have hb14 := hb12.trans (hb13.mono hb12.size)
      clear l1 l2 HA2 hS9 hD9 hA9 hb12 hb13
      have zs11 := zeroS
      have zw11 := zeroW
      obtain ⟨wA11, hwA⟩ : ∃ wA, ((w10.alloc (.cells zeroSt 37)).alloc (.cells #[.int .i64 0, .int .i64 0, .int .i64 0] 31)) = wA := ⟨_, rfl⟩
      have bA : Below w10.heap.size w10 wA11 := by rw [← hwA]; exact ((Below.refl _ w10).alloc (Nat.le_refl _) _).alloc (by simp) _
      have kA : Blk wA11 w10.heap.size 37 zeroSt := by rw [← hwA]; exact (Blk.new _ _ _).alloc _
      have kB : Blk wA11 (w10.heap.size + 1) 31 #[.int .i64 0, .int .i64 0, .int .i64 0] := by rw [← hwA]; exact Blk.new_at (by simp)
      obtain ⟨w11, hw11⟩ : ∃ x, (wA11.setRow w10.heap.size cb).setRow (w10.heap.size + 1) #[.int .i64 xe, .int .i64 xi, .int .i64 xh] = x := ⟨_, rfl⟩
      have kb : Blk w11 w10.heap.size 37 cb := by rw [← hw11]; exact Blk.setRow (setRow_heap wA11 _ zeroSt cb 37 (0, 0) kA) (by omega) _
      have ky : Blk w11 (w10.heap.size + 1) 31 #[.int .i64 xe, .int .i64 xi, .int .i64 xh] := by rw [← hw11]; exact setRow_heap _ _ #[.int .i64 0, .int .i64 0, .int .i64 0] #[.int .i64 xe, .int .i64 xi, .int .i64 xh] 31 (0, 0) (Blk.setRow kB (by omega) _)
      have b11 : Below w10.heap.size w10 w11 := by rw [← hw11]; exact (bA.grown (only_setRow (grown_refl wA11 (some w10.heap.size)) cb) bA.size (fun k hk => by injection hk; omega)).grown (only_setRow (grown_refl _ (some (w10.heap.size + 1))) #[.int .i64 xe, .int .i64 xi, .int .i64 xh]) (by have := bA.size; simp; omega) (fun k hk => by injection hk; omega)
      have HWA11 := Lib.hid hwA
      have HW11 := Lib.hid hw11
      have HKA11 := Lib.hid kA
      have HKB11 := Lib.hid kB
      have HIA11 : Hid ((Tryz.prog.info? 37).map (·.size) = some (cb : Array Value).size) := Lib.hid (by rw [hSb.size]; exact infoS)
      have HIB11 : Hid ((Tryz.prog.info? 31).map (·.size) = some (#[.int .i64 xe, .int .i64 xi, .int .i64 xh] : Array Value).size) := Lib.hid info3
      have HSA11 : Hid ((zeroSt : Array Value).size = (cb : Array Value).size) := Lib.hid (by rw [hSb.size]; rfl)
      have HSB11 : Hid ((#[.int .i64 0, .int .i64 0, .int .i64 0] : Array Value).size = (#[.int .i64 xe, .int .i64 xi, .int .i64 xh] : Array Value).size) := Lib.hid rfl
      have HOA11 : Hid (((cb : Array Value).all fun x => x.oneCell') = true) := Lib.hid hSb.one
      have HOB11 : Hid (((#[.int .i64 xe, .int .i64 xi, .int .i64 xh] : Array Value).all fun x => x.oneCell') = true) := Lib.hid (rep_one _ _ _)
      clear hwA hw11 kA kB bA
      replace k0 := k0.below b11 k0.lt
      replace ks := ks.below b11 ks.lt
      replace kd := kd.below b11 kd.lt
      replace ka := ka.below b11 ka.lt
      replace kx := kx.below b11 kx.lt
      have hb15 := hb14.trans (b11.mono hb14.size)
      have hS11 := hS10.below b11
      have hD11 := hD10.below b11
      have hA11 := hA10.below b11
      have hB11 := hSb.below b11
      clear hS10 hD10 hA10 hSb hb14 b11
      have l1 := st_load hS11.size ks
      have l2 := wd_load hD11.size kd
      have HSM5 := Lib.hid (same11_any _ _ cs ds PW HINV.out w11 hS11 hD11)
      go_wp2_with (first
        | rw [HWA11.out]
        | (refine wpList_store_row rfl 37 _ _ rfl w10.heap.size cb rfl rfl 37 zeroSt HKA11.out HIA11.out HSA11.out HOA11.out ?_)
        | (refine wpList_store_row rfl 31 _ _ rfl (w10.heap.size + 1) #[.int .i64 xe, .int .i64 xi, .int .i64 xh] rfl rfl 31 #[.int .i64 0, .int .i64 0, .int .i64 0] (Blk.setRow HKB11.out (by omega) _) HIB11.out HSB11.out HOB11.out ?_; rw [HW11.out]))
      refine HSM5.out.mono ?_
      rintro e w12 ⟨rfl, hb16⟩
      replace k0 := k0.below hb16 k0.lt
      replace ka := ka.below hb16 ka.lt
      replace kx := kx.below hb16 kx.lt
      replace kb := kb.below hb16 kb.lt
      replace ky := ky.below hb16 ky.lt
      have hA12 := hA11.below hb16
      have hB12 := hB11.below hb16
      have hb17 := hb15.trans (hb16.mono hb15.size)
      clear l1 l2 HSM5 hS11 hD11 hA11 hB11 hb15 hb16 ks kd
      obtain ⟨va, va', rfl, ⟨o1, c1, rfl, _, hc1, _, _⟩, ⟨o1', c1', rfl, _, hc1', _, _⟩⟩ := hA12
      obtain ⟨vb, vb', rfl, ⟨o2, c2, rfl, hR2, hc2, _, _⟩, ⟨o2', c2', rfl, _, hc2', _, _⟩⟩ := hB12
      have i1 := rep_load3 kx
      have i2 := rep_load3 ky
      have i3 := sl_req (ka.cell 0)
      have i4 := sl_req (kb.cell 0)
      have i5 := sl_hd (ka.cell 21)
      have i6 := sl_hd (kb.cell 21)
      have i7 := clients_load ka
      have i8 := clients_load kb
      have i9 := fun W => clients_eq (lastW 0 (askS PW (⟨rc, rq, rl, rk, rv⟩ : Req))) (lastW 1 (askS PW (⟨rc, rq, rl, rk, rv⟩ : Req))) (lastW 2 (askS PW (⟨rc, rq, rl, rk, rv⟩ : Req))) (lastW 3 (askS PW (⟨rc, rq, rl, rk, rv⟩ : Req))) W
      obtain ⟨N, hN⟩ : ∃ N, (askS PW (⟨rc, rq, rl, rk, rv⟩ : Req)).tk.length = N := ⟨_, rfl⟩
      obtain ⟨M, hM⟩ : ∃ M, (askS PW (⟨rc, rq, rl, rk, rv⟩ : Req)).hd.length = M := ⟨_, rfl⟩
      rw [hN] at hc1 hc2
      rw [hM] at hc1' hc2'
      rw [hN] at ka kb
      rw [hM] at ka kb
      change (loadVar 28 ⟨w8.heap.size, 0, none⟩).run Tryz.prog w12 = .ok (.slice o1 (askS PW (⟨rc, rq, rl, rk, rv⟩ : Req)).tk.length c1) w12 at i3
      change (loadVar 28 ⟨w10.heap.size, 0, none⟩).run Tryz.prog w12 = .ok (.slice o2 (askS PW (⟨rc, rq, rl, rk, rv⟩ : Req)).tk.length c2) w12 at i4
      change (loadVar 35 ⟨w8.heap.size, 21, none⟩).run Tryz.prog w12 = .ok (.slice o1' (askS PW (⟨rc, rq, rl, rk, rv⟩ : Req)).hd.length c1') w12 at i5
      change (loadVar 35 ⟨w10.heap.size, 21, none⟩).run Tryz.prog w12 = .ok (.slice o2' (askS PW (⟨rc, rq, rl, rk, rv⟩ : Req)).hd.length c2') w12 at i6
      rw [hN] at i3 i4
      rw [hM] at i5 i6
      generalize cellsC (lastW 0 (askS PW (⟨rc, rq, rl, rk, rv⟩ : Req))) (lastW 1 (askS PW (⟨rc, rq, rl, rk, rv⟩ : Req))) (lastW 2 (askS PW (⟨rc, rq, rl, rk, rv⟩ : Req))) (lastW 3 (askS PW (⟨rc, rq, rl, rk, rv⟩ : Req))) = CC at *
      have j1 := err_load (kx.cell 0)
      change (loadVar 29 ⟨w8.heap.size + 1, 0, none⟩).run Tryz.prog w12 = .ok (.int .i64 xe) w12 at j1
      have HOK2 : Hid (xe = 0 → ∃ i : Nat, xi = i ∧ i < N ∧ ∃ g o, o2 = some ⟨g, o, none⟩ ∧ w12.cell? ⟨g, o + i * 5, none⟩ = some (.int .i64 rc) ∧ w12.cell? ⟨g, o + i * 5 + 1, none⟩ = some (.int .i64 rq)) := Lib.hid fun h => by
        have hy : (saysS PW (⟨rc, rq, rl, rk, rv⟩ : Req)).e = 0 := by rw [hsay]; exact h
        obtain ⟨i, h1, h2, h3, h4⟩ := HOK.out hy
        have h1' : (saysS PW (⟨rc, rq, rl, rk, rv⟩ : Req)).i = i := h1
        rw [hsay] at h1'
        have h2' : i < (askS PW (⟨rc, rq, rl, rk, rv⟩ : Req)).tk.length := h2
        obtain ⟨g, o, e1, _, d0, d1, _⟩ := req_at hR2 h2'
        have hx : (askS PW (⟨rc, rq, rl, rk, rv⟩ : Req)).tk[i] = (askS PW (⟨rc, rq, rl, rk, rv⟩ : Req)).tk.getD i default := by rw [List.getD_eq_getElem?_getD, List.getElem?_eq_getElem h2']; rfl
        rw [hx] at d0 d1
        rw [show ((askS PW (⟨rc, rq, rl, rk, rv⟩ : Req)).tk.getD i default).c = rc from h3] at d0
        rw [show ((askS PW (⟨rc, rq, rl, rk, rv⟩ : Req)).tk.getD i default).q = rq from h4] at d1
        exact ⟨i, h1', by rw [← hN]; exact h2', g, o, e1, d0, d1⟩
      have HKB2 := Lib.hid kb
      have HKX := Lib.hid kx
      have HKO := Lib.hid k0
      have HB17 := Lib.hid hb17
      clear hR2 hsay hN hM ka kb kx ky k0 hb17
      by_cases hxe : xe = 0
      · obtain ⟨i, rfl, hiN, g, o, rfl, d0, d1⟩ := HOK2.out hxe
        subst hxe
        have hiN' : (i : Int) < (N : Int) := by omega
        have HSB9 : Hid ((fun W => ((loadVar 29 ⟨w8.heap.size + 1, 0, none⟩).run Tryz.prog W = .ok (.int .i64 0) W ∧ (loadVar 3 ⟨w8.heap.size + 1, 1, none⟩).run Tryz.prog W = .ok (.int .i64 (i : Int)) W ∧ (loadVar 28 ⟨w10.heap.size, 0, none⟩).run Tryz.prog W = .ok (.slice (some ⟨g, o, none⟩) N c2) W) ∧ ((loadVar 3 ⟨g, o + i * 5, none⟩).run Tryz.prog W = .ok (.int .i64 rc) W ∧ (loadVar 3 ⟨g, o + i * 5 + 1, none⟩).run Tryz.prog W = .ok (.int .i64 rq) W) ∧ (loadVar 3 ⟨w.heap.size, 0, none⟩).run Tryz.prog W = .ok (.int .i64 rc) W ∧ (loadVar 3 ⟨w.heap.size, 1, none⟩).run Tryz.prog W = .ok (.int .i64 rq) W) w12.drew) := Lib.hid ⟨⟨err_load (HKX.out.drew.cell 0), num_load (HKX.out.drew.cell 1), sl_req (HKB2.out.drew.cell 0)⟩, ⟨num_load d0, num_load d1⟩, num_load (HKO.out.drew.cell 0), num_load (HKO.out.drew.cell 1)⟩
        clear d0 d1 HOK2
        go_wp2_with fail
        refine wp_region_held_drew (S := fun W => ((loadVar 29 ⟨w8.heap.size + 1, 0, none⟩).run Tryz.prog W = .ok (.int .i64 0) W ∧ (loadVar 3 ⟨w8.heap.size + 1, 1, none⟩).run Tryz.prog W = .ok (.int .i64 (i : Int)) W ∧ (loadVar 28 ⟨w10.heap.size, 0, none⟩).run Tryz.prog W = .ok (.slice (some ⟨g, o, none⟩) N c2) W) ∧ ((loadVar 3 ⟨g, o + i * 5, none⟩).run Tryz.prog W = .ok (.int .i64 rc) W ∧ (loadVar 3 ⟨g, o + i * 5 + 1, none⟩).run Tryz.prog W = .ok (.int .i64 rq) W) ∧ (loadVar 3 ⟨w.heap.size, 0, none⟩).run Tryz.prog W = .ok (.int .i64 rc) W ∧ (loadVar 3 ⟨w.heap.size, 1, none⟩).run Tryz.prog W = .ok (.int .i64 rq) W) (by kernel_rfl) ?_ (fun hHeld0 => ?_)
        · exact HSB9.out
        apply takeH (i := 0) rfl (by kernel_rfl) (by kernel_rfl) (by kernel_rfl) (fun _ _ _ h => h) (by rfl)
        case hy => (intro w hSw; (try dsimp only at hSw); go_simp; try with_reducible rfl)
        case hS => assumption
        (try simp only [Act.put, List.setIfInBounds_toArray, List.set_cons_zero, List.set_cons_succ])
        apply takeH (i := 1) rfl (by kernel_rfl) (by kernel_rfl) (by kernel_rfl) (fun _ _ _ h => h) (by rfl)
        case hy => (intro w hSw; (try dsimp only at hSw); go_simp; try with_reducible rfl)
        case hS => assumption
        (try simp only [Act.put, List.setIfInBounds_toArray, List.set_cons_zero, List.set_cons_succ])
        apply takeH (i := 2) rfl (by kernel_rfl) (by kernel_rfl) (by kernel_rfl) (fun _ _ _ h => h) (by rfl)
        case hy => (intro w hSw; (try dsimp only at hSw); go_simp; try with_reducible rfl)
        case hS => assumption
        (try simp only [Act.put, List.setIfInBounds_toArray, List.set_cons_zero, List.set_cons_succ])
        apply takeH (i := 3) rfl (by kernel_rfl) (by kernel_rfl) (by kernel_rfl) (fun _ _ _ h => h) (by rfl)
        case hy => (intro w hSw; (try dsimp only at hSw); go_simp; try with_reducible rfl)
        case hS => assumption
        (try simp only [Act.put, List.setIfInBounds_toArray, List.set_cons_zero, List.set_cons_succ])
        apply takeH (i := 4) rfl (by kernel_rfl) (by kernel_rfl) (by kernel_rfl) (fun _ _ _ h => h) (by rfl)
        case hy => (intro w hSw; (try dsimp only at hSw); go_simp; try with_reducible rfl)
        case hS => assumption
        (try simp only [Act.put, List.setIfInBounds_toArray, List.set_cons_zero, List.set_cons_succ])
        apply takeH (i := 5) rfl (by kernel_rfl) (by kernel_rfl) (by kernel_rfl) (fun _ _ _ h => h) (by rfl)
        case hy => (intro w hSw; (try dsimp only at hSw); go_simp; try with_reducible rfl)
        case hS => assumption
        (try simp only [Act.put, List.setIfInBounds_toArray, List.set_cons_zero, List.set_cons_succ])
        apply takeH (i := 6) rfl (by kernel_rfl) (by kernel_rfl) (by kernel_rfl) (fun _ _ _ h => h) (by rfl)
        case hy => (intro w hSw; (try dsimp only at hSw); go_simp; try with_reducible rfl)
        case hS => assumption
        (try simp only [Act.put, List.setIfInBounds_toArray, List.set_cons_zero, List.set_cons_succ])
        apply takeH (i := 7) rfl (by kernel_rfl) (by kernel_rfl) (by kernel_rfl) (fun _ _ _ h => h) (by rfl)
        case hy => (intro w hSw; (try dsimp only at hSw); go_simp; try with_reducible rfl)
        case hS => assumption
        (try simp only [Act.put, List.setIfInBounds_toArray, List.set_cons_zero, List.set_cons_succ])
        apply takeH (i := 8) rfl (by kernel_rfl) (by kernel_rfl) (by kernel_rfl) (fun _ _ _ h => h) (by rfl)
        case hy => (intro w hSw; (try dsimp only at hSw); go_simp; try with_reducible rfl)
        case hS => assumption
        (try simp only [Act.put, List.setIfInBounds_toArray, List.set_cons_zero, List.set_cons_succ])
        apply takeH (i := 9) rfl (by kernel_rfl) (by kernel_rfl) (by kernel_rfl) (fun _ _ _ h => h) (by rfl)
        case hy => (intro w hSw; (try dsimp only at hSw); go_simp; try with_reducible rfl)
        case hS => assumption
        (try simp only [Act.put, List.setIfInBounds_toArray, List.set_cons_zero, List.set_cons_succ])
        apply takeH (i := 10) rfl (by kernel_rfl) (by kernel_rfl) (by kernel_rfl) (fun _ _ _ h => h) (by rfl)
        case hy => (intro w hSw; (try dsimp only at hSw); go_simp; try with_reducible rfl)
        case hS => assumption
        (try simp only [Act.put, List.setIfInBounds_toArray, List.set_cons_zero, List.set_cons_succ])
        apply takeH (i := 11) rfl (by kernel_rfl) (by kernel_rfl) (by kernel_rfl) (fun _ _ _ h => h) (by rfl)
        case hy => (intro w hSw; (try dsimp only at hSw); go_simp; try with_reducible rfl)
        case hS => assumption
        (try simp only [Act.put, List.setIfInBounds_toArray, List.set_cons_zero, List.set_cons_succ])
        apply takeH (i := 12) rfl (by kernel_rfl) (by kernel_rfl) (by kernel_rfl) (fun _ _ _ h => h) (by rfl)
        case hy => (intro w hSw; (try dsimp only at hSw); go_simp; try with_reducible rfl)
        case hS => assumption
        (try simp only [Act.put, List.setIfInBounds_toArray, List.set_cons_zero, List.set_cons_succ])
        apply takeH (i := 13) rfl (by kernel_rfl) (by kernel_rfl) (by kernel_rfl) (fun _ _ _ h => h) (by rfl)
        case hy => (intro w hSw; (try dsimp only at hSw); go_simp; try with_reducible rfl)
        case hS => assumption
        (try simp only [Act.put, List.setIfInBounds_toArray, List.set_cons_zero, List.set_cons_succ])
        apply takeH (i := 14) rfl (by kernel_rfl) (by kernel_rfl) (by kernel_rfl) (fun _ _ _ h => h) (by rfl)
        case hy => (intro w hSw; (try dsimp only at hSw); go_simp; try with_reducible rfl)
        case hS => assumption
        (try simp only [Act.put, List.setIfInBounds_toArray, List.set_cons_zero, List.set_cons_succ])
        apply takeH (i := 15) rfl (by kernel_rfl) (by kernel_rfl) (by kernel_rfl) (fun _ _ _ h => h) (by rfl)
        case hy => (intro w hSw; (try dsimp only at hSw); go_simp; try with_reducible rfl)
        case hS => assumption
        (try simp only [Act.put, List.setIfInBounds_toArray, List.set_cons_zero, List.set_cons_succ])
        apply takeH (i := 16) rfl (by kernel_rfl) (by kernel_rfl) (by kernel_rfl) (fun _ _ _ h => h) (by rfl)
        case hy => (intro w hSw; (try dsimp only at hSw); go_simp; try with_reducible rfl)
        case hS => assumption
        (try simp only [Act.put, List.setIfInBounds_toArray, List.set_cons_zero, List.set_cons_succ])
        apply takeH (i := 17) rfl (by kernel_rfl) (by kernel_rfl) (by kernel_rfl) (fun _ _ _ h => h) (by rfl)
        case hy => (intro w hSw; (try dsimp only at hSw); go_simp; try with_reducible rfl)
        case hS => assumption
        (try simp only [Act.put, List.setIfInBounds_toArray, List.set_cons_zero, List.set_cons_succ])
        apply takeH (i := 18) rfl (by kernel_rfl) (by kernel_rfl) (by kernel_rfl) (fun _ _ _ h => h) (by rfl)
        case hy => (intro w hSw; (try dsimp only at hSw); go_simp; try with_reducible rfl)
        case hS => assumption
        (try simp only [Act.put, List.setIfInBounds_toArray, List.set_cons_zero, List.set_cons_succ])
        apply takeH (i := 19) rfl (by kernel_rfl) (by kernel_rfl) (by kernel_rfl) (fun _ _ _ h => h) (by rfl)
        case hy => (intro w hSw; (try dsimp only at hSw); go_simp; try with_reducible rfl)
        case hS => assumption
        (try simp only [Act.put, List.setIfInBounds_toArray, List.set_cons_zero, List.set_cons_succ])
        apply takeH (i := 20) rfl (by kernel_rfl) (by kernel_rfl) (by kernel_rfl) (fun _ _ _ h => h) (by rfl)
        case hy => (intro w hSw; (try dsimp only at hSw); go_simp; try with_reducible rfl)
        case hS => assumption
        (try simp only [Act.put, List.setIfInBounds_toArray, List.set_cons_zero, List.set_cons_succ])
        apply takeH (i := 21) rfl (by kernel_rfl) (by kernel_rfl) (by kernel_rfl) (fun _ _ _ h => h) (by rfl)
        case hy => (intro w hSw; (try dsimp only at hSw); go_simp; try with_reducible rfl)
        case hS => assumption
        (try simp only [Act.put, List.setIfInBounds_toArray, List.set_cons_zero, List.set_cons_succ])
        apply takeH (i := 22) rfl (by kernel_rfl) (by kernel_rfl) (by kernel_rfl) (fun _ _ _ h => h) (by rfl)
        case hy => (intro w hSw; (try dsimp only at hSw); go_simp; try with_reducible rfl)
        case hS => assumption
        (try simp only [Act.put, List.setIfInBounds_toArray, List.set_cons_zero, List.set_cons_succ])
        apply takeH (i := 23) rfl (by kernel_rfl) (by kernel_rfl) (by kernel_rfl) (fun _ _ _ h => h) (by rfl)
        case hy => (intro w hSw; (try dsimp only at hSw); go_simp; try with_reducible rfl)
        case hS => assumption
        (try simp only [Act.put, List.setIfInBounds_toArray, List.set_cons_zero, List.set_cons_succ])
        apply takeH (i := 24) rfl (by kernel_rfl) (by kernel_rfl) (by kernel_rfl) (fun _ _ _ h => h) (by rfl)
        case hy => (intro w hSw; (try dsimp only at hSw); go_simp; try with_reducible rfl)
        case hS => assumption
        (try simp only [Act.put, List.setIfInBounds_toArray, List.set_cons_zero, List.set_cons_succ])
        apply takeH (i := 25) rfl (by kernel_rfl) (by kernel_rfl) (by kernel_rfl) (fun _ _ _ h => h) (by rfl)
        case hy => (intro w hSw; (try dsimp only at hSw); go_simp; try with_reducible rfl)
        case hS => assumption
        (try simp only [Act.put, List.setIfInBounds_toArray, List.set_cons_zero, List.set_cons_succ])
        apply takeH (i := 26) rfl (by kernel_rfl) (by kernel_rfl) (by kernel_rfl) (fun _ _ _ h => h) (by rfl)
        case hy => (intro w hSw; (try dsimp only at hSw); go_simp; try with_reducible rfl)
        case hS => assumption
        (try simp only [Act.put, List.setIfInBounds_toArray, List.set_cons_zero, List.set_cons_succ])
        apply takeH (i := 27) rfl (by kernel_rfl) (by kernel_rfl) (by kernel_rfl) (fun _ _ _ h => h) (by rfl)
        case hy => (intro w hSw; (try dsimp only at hSw); go_simp; try with_reducible rfl)
        case hS => assumption
        (try simp only [Act.put, List.setIfInBounds_toArray, List.set_cons_zero, List.set_cons_succ])
        apply takeH (i := 28) rfl (by kernel_rfl) (by kernel_rfl) (by kernel_rfl) (fun _ _ _ h => h) (by rfl)
        case hy => (intro w hSw; (try dsimp only at hSw); go_simp; try with_reducible rfl)
        case hS => assumption
        (try simp only [Act.put, List.setIfInBounds_toArray, List.set_cons_zero, List.set_cons_succ])
        apply takeH (i := 29) rfl (by kernel_rfl) (by kernel_rfl) (by kernel_rfl) (fun _ _ _ h => h) (by rfl)
        case hy => (intro w hSw; (try dsimp only at hSw); go_simp; try with_reducible rfl)
        case hS => assumption
        (try simp only [Act.put, List.setIfInBounds_toArray, List.set_cons_zero, List.set_cons_succ])
        apply takeH (i := 30) rfl (by kernel_rfl) (by kernel_rfl) (by kernel_rfl) (fun _ _ _ h => h) (by rfl)
        case hy => (intro w hSw; (try dsimp only at hSw); go_simp; try with_reducible rfl)
        case hS => assumption
        (try simp only [Act.put, List.setIfInBounds_toArray, List.set_cons_zero, List.set_cons_succ])
        apply takeH (i := 31) rfl (by kernel_rfl) (by kernel_rfl) (by kernel_rfl) (fun _ _ _ h => h) (by rfl)
        case hy => (intro w hSw; (try dsimp only at hSw); go_simp; try with_reducible rfl)
        case hS => assumption
        (try simp only [Act.put, List.setIfInBounds_toArray, List.set_cons_zero, List.set_cons_succ])
        apply takeH (i := 32) rfl (by kernel_rfl) (by kernel_rfl) (by kernel_rfl) (fun _ _ _ h => h) (by rfl)
        case hy => (intro w hSw; (try dsimp only at hSw); go_simp; try with_reducible rfl)
        case hS => assumption
        (try simp only [Act.put, List.setIfInBounds_toArray, List.set_cons_zero, List.set_cons_succ])
        apply takeH (i := 33) rfl (by kernel_rfl) (by kernel_rfl) (by kernel_rfl) (fun _ _ _ h => h) (by rfl)
        case hy => (intro w hSw; (try dsimp only at hSw); go_simp; try with_reducible rfl)
        case hS => assumption
        (try simp only [Act.put, List.setIfInBounds_toArray, List.set_cons_zero, List.set_cons_succ])
        apply takeH (i := 34) rfl (by kernel_rfl) (by kernel_rfl) (by kernel_rfl) (fun _ _ _ h => h) (by rfl)
        case hy => (intro w hSw; (try dsimp only at hSw); go_simp; try with_reducible rfl)
        case hS => assumption
        (try simp only [Act.put, List.setIfInBounds_toArray, List.set_cons_zero, List.set_cons_succ])
        apply takeH (i := 35) rfl (by kernel_rfl) (by kernel_rfl) (by kernel_rfl) (fun _ _ _ h => h) (by rfl)
        case hy => (intro w hSw; (try dsimp only at hSw); go_simp; try with_reducible rfl)
        case hS => assumption
        (try simp only [Act.put, List.setIfInBounds_toArray, List.set_cons_zero, List.set_cons_succ])
        refine wpAnyH_done (by kernel_rfl) ?_ _
        go_wp2_with fail
        go_ret
        exact ⟨rfl, HB17.out.drew⟩
      · have hne : (xe != 0) = true := by rw [bne_iff_ne]; exact hxe
        have HSA9 : Hid ((fun W => (loadVar 29 ⟨w8.heap.size + 1, 0, none⟩).run Tryz.prog W = .ok (.int .i64 xe) W) w12.drew) := Lib.hid (err_load (HKX.out.drew.cell 0))
        clear hxe HOK2
        go_wp2_with fail
        refine wp_region_held_drew (S := fun W => (loadVar 29 ⟨w8.heap.size + 1, 0, none⟩).run Tryz.prog W = .ok (.int .i64 xe) W) (by kernel_rfl) ?_ (fun hHeld0 => ?_)
        · exact HSA9.out
        apply takeH (i := 0) rfl (by kernel_rfl) (by kernel_rfl) (by kernel_rfl) (fun _ _ _ h => h) (by rfl)
        case hy => (intro w hSw; (try dsimp only at hSw); go_simp; try with_reducible rfl)
        case hS => assumption
        (try simp only [Act.put, List.setIfInBounds_toArray, List.set_cons_zero, List.set_cons_succ])
        apply takeH (i := 1) rfl (by kernel_rfl) (by kernel_rfl) (by kernel_rfl) (fun _ _ _ h => h) (by rfl)
        case hy => (intro w hSw; (try dsimp only at hSw); go_simp; try with_reducible rfl)
        case hS => assumption
        (try simp only [Act.put, List.setIfInBounds_toArray, List.set_cons_zero, List.set_cons_succ])
        apply takeH (i := 2) rfl (by kernel_rfl) (by kernel_rfl) (by kernel_rfl) (fun _ _ _ h => h) (by rfl)
        case hy => (intro w hSw; (try dsimp only at hSw); go_simp; try with_reducible rfl)
        case hS => assumption
        (try simp only [Act.put, List.setIfInBounds_toArray, List.set_cons_zero, List.set_cons_succ])
        apply takeH (i := 3) rfl (by kernel_rfl) (by kernel_rfl) (by kernel_rfl) (fun _ _ _ h => h) (by rfl)
        case hy => (intro w hSw; (try dsimp only at hSw); go_simp; try with_reducible rfl)
        case hS => assumption
        (try simp only [Act.put, List.setIfInBounds_toArray, List.set_cons_zero, List.set_cons_succ])
        refine skipH (i := 4) rfl (by kernel_rfl) (by kernel_rfl) (by kernel_rfl) (fun _ _ _ h => h) (by rfl) (by assumption) ?_
        (try simp only [Act.put, List.setIfInBounds_toArray, List.set_cons_zero, List.set_cons_succ])
        refine skipH (i := 5) rfl (by kernel_rfl) (by kernel_rfl) (by kernel_rfl) (fun _ _ _ h => h) (by rfl) (by assumption) ?_
        (try simp only [Act.put, List.setIfInBounds_toArray, List.set_cons_zero, List.set_cons_succ])
        refine skipH (i := 6) rfl (by kernel_rfl) (by kernel_rfl) (by kernel_rfl) (fun _ _ _ h => h) (by rfl) (by assumption) ?_
        (try simp only [Act.put, List.setIfInBounds_toArray, List.set_cons_zero, List.set_cons_succ])
        refine skipH (i := 7) rfl (by kernel_rfl) (by kernel_rfl) (by kernel_rfl) (fun _ _ _ h => h) (by rfl) (by assumption) ?_
        (try simp only [Act.put, List.setIfInBounds_toArray, List.set_cons_zero, List.set_cons_succ])
        refine skipH (i := 8) rfl (by kernel_rfl) (by kernel_rfl) (by kernel_rfl) (fun _ _ _ h => h) (by rfl) (by assumption) ?_
        (try simp only [Act.put, List.setIfInBounds_toArray, List.set_cons_zero, List.set_cons_succ])
        refine skipH (i := 9) rfl (by kernel_rfl) (by kernel_rfl) (by kernel_rfl) (fun _ _ _ h => h) (by rfl) (by assumption) ?_
        (try simp only [Act.put, List.setIfInBounds_toArray, List.set_cons_zero, List.set_cons_succ])
        refine skipH (i := 10) rfl (by kernel_rfl) (by kernel_rfl) (by kernel_rfl) (fun _ _ _ h => h) (by rfl) (by assumption) ?_
        (try simp only [Act.put, List.setIfInBounds_toArray, List.set_cons_zero, List.set_cons_succ])
        refine skipH (i := 11) rfl (by kernel_rfl) (by kernel_rfl) (by kernel_rfl) (fun _ _ _ h => h) (by rfl) (by assumption) ?_
        (try simp only [Act.put, List.setIfInBounds_toArray, List.set_cons_zero, List.set_cons_succ])
        refine skipH (i := 12) rfl (by kernel_rfl) (by kernel_rfl) (by kernel_rfl) (fun _ _ _ h => h) (by rfl) (by assumption) ?_
        (try simp only [Act.put, List.setIfInBounds_toArray, List.set_cons_zero, List.set_cons_succ])
        refine skipH (i := 13) rfl (by kernel_rfl) (by kernel_rfl) (by kernel_rfl) (fun _ _ _ h => h) (by rfl) (by assumption) ?_
        (try simp only [Act.put, List.setIfInBounds_toArray, List.set_cons_zero, List.set_cons_succ])
        refine skipH (i := 14) rfl (by kernel_rfl) (by kernel_rfl) (by kernel_rfl) (fun _ _ _ h => h) (by rfl) (by assumption) ?_
        (try simp only [Act.put, List.setIfInBounds_toArray, List.set_cons_zero, List.set_cons_succ])
        refine skipH (i := 15) rfl (by kernel_rfl) (by kernel_rfl) (by kernel_rfl) (fun _ _ _ h => h) (by rfl) (by assumption) ?_
        (try simp only [Act.put, List.setIfInBounds_toArray, List.set_cons_zero, List.set_cons_succ])
        refine skipH (i := 16) rfl (by kernel_rfl) (by kernel_rfl) (by kernel_rfl) (fun _ _ _ h => h) (by rfl) (by assumption) ?_
        (try simp only [Act.put, List.setIfInBounds_toArray, List.set_cons_zero, List.set_cons_succ])
        refine skipH (i := 17) rfl (by kernel_rfl) (by kernel_rfl) (by kernel_rfl) (fun _ _ _ h => h) (by rfl) (by assumption) ?_
        (try simp only [Act.put, List.setIfInBounds_toArray, List.set_cons_zero, List.set_cons_succ])
        refine skipH (i := 18) rfl (by kernel_rfl) (by kernel_rfl) (by kernel_rfl) (fun _ _ _ h => h) (by rfl) (by assumption) ?_
        (try simp only [Act.put, List.setIfInBounds_toArray, List.set_cons_zero, List.set_cons_succ])
        refine skipH (i := 19) rfl (by kernel_rfl) (by kernel_rfl) (by kernel_rfl) (fun _ _ _ h => h) (by rfl) (by assumption) ?_
        (try simp only [Act.put, List.setIfInBounds_toArray, List.set_cons_zero, List.set_cons_succ])
        refine skipH (i := 20) rfl (by kernel_rfl) (by kernel_rfl) (by kernel_rfl) (fun _ _ _ h => h) (by rfl) (by assumption) ?_
        (try simp only [Act.put, List.setIfInBounds_toArray, List.set_cons_zero, List.set_cons_succ])
        refine skipH (i := 21) rfl (by kernel_rfl) (by kernel_rfl) (by kernel_rfl) (fun _ _ _ h => h) (by rfl) (by assumption) ?_
        (try simp only [Act.put, List.setIfInBounds_toArray, List.set_cons_zero, List.set_cons_succ])
        refine skipH (i := 22) rfl (by kernel_rfl) (by kernel_rfl) (by kernel_rfl) (fun _ _ _ h => h) (by rfl) (by assumption) ?_
        (try simp only [Act.put, List.setIfInBounds_toArray, List.set_cons_zero, List.set_cons_succ])
        refine skipH (i := 23) rfl (by kernel_rfl) (by kernel_rfl) (by kernel_rfl) (fun _ _ _ h => h) (by rfl) (by assumption) ?_
        (try simp only [Act.put, List.setIfInBounds_toArray, List.set_cons_zero, List.set_cons_succ])
        refine skipH (i := 24) rfl (by kernel_rfl) (by kernel_rfl) (by kernel_rfl) (fun _ _ _ h => h) (by rfl) (by assumption) ?_
        (try simp only [Act.put, List.setIfInBounds_toArray, List.set_cons_zero, List.set_cons_succ])
        refine skipH (i := 25) rfl (by kernel_rfl) (by kernel_rfl) (by kernel_rfl) (fun _ _ _ h => h) (by rfl) (by assumption) ?_
        (try simp only [Act.put, List.setIfInBounds_toArray, List.set_cons_zero, List.set_cons_succ])
        refine skipH (i := 26) rfl (by kernel_rfl) (by kernel_rfl) (by kernel_rfl) (fun _ _ _ h => h) (by rfl) (by assumption) ?_
        (try simp only [Act.put, List.setIfInBounds_toArray, List.set_cons_zero, List.set_cons_succ])
        refine skipH (i := 27) rfl (by kernel_rfl) (by kernel_rfl) (by kernel_rfl) (fun _ _ _ h => h) (by rfl) (by assumption) ?_
        (try simp only [Act.put, List.setIfInBounds_toArray, List.set_cons_zero, List.set_cons_succ])
        refine skipH (i := 28) rfl (by kernel_rfl) (by kernel_rfl) (by kernel_rfl) (fun _ _ _ h => h) (by rfl) (by assumption) ?_
        (try simp only [Act.put, List.setIfInBounds_toArray, List.set_cons_zero, List.set_cons_succ])
        refine skipH (i := 29) rfl (by kernel_rfl) (by kernel_rfl) (by kernel_rfl) (fun _ _ _ h => h) (by rfl) (by assumption) ?_
        (try simp only [Act.put, List.setIfInBounds_toArray, List.set_cons_zero, List.set_cons_succ])
        refine skipH (i := 30) rfl (by kernel_rfl) (by kernel_rfl) (by kernel_rfl) (fun _ _ _ h => h) (by rfl) (by assumption) ?_
        (try simp only [Act.put, List.setIfInBounds_toArray, List.set_cons_zero, List.set_cons_succ])
        refine skipH (i := 31) rfl (by kernel_rfl) (by kernel_rfl) (by kernel_rfl) (fun _ _ _ h => h) (by rfl) (by assumption) ?_
        (try simp only [Act.put, List.setIfInBounds_toArray, List.set_cons_zero, List.set_cons_succ])
        refine skipH (i := 32) rfl (by kernel_rfl) (by kernel_rfl) (by kernel_rfl) (fun _ _ _ h => h) (by rfl) (by assumption) ?_
        (try simp only [Act.put, List.setIfInBounds_toArray, List.set_cons_zero, List.set_cons_succ])
        refine skipH (i := 33) rfl (by kernel_rfl) (by kernel_rfl) (by kernel_rfl) (fun _ _ _ h => h) (by rfl) (by assumption) ?_
        (try simp only [Act.put, List.setIfInBounds_toArray, List.set_cons_zero, List.set_cons_succ])
        apply takeH (i := 34) rfl (by kernel_rfl) (by kernel_rfl) (by kernel_rfl) (fun _ _ _ h => h) (by rfl)
        case hy => (intro w hSw; (try dsimp only at hSw); go_simp; try with_reducible rfl)
        case hS => assumption
        (try simp only [Act.put, List.setIfInBounds_toArray, List.set_cons_zero, List.set_cons_succ])
        apply takeH (i := 35) rfl (by kernel_rfl) (by kernel_rfl) (by kernel_rfl) (fun _ _ _ h => h) (by rfl)
        case hy => (intro w hSw; (try dsimp only at hSw); go_simp; try with_reducible rfl)
        case hS => assumption
        (try simp only [Act.put, List.setIfInBounds_toArray, List.set_cons_zero, List.set_cons_succ])
        refine wpAnyH_done (by kernel_rfl) ?_ _
        go_wp2_with fail
        go_ret
        exact ⟨rfl, HB17.out.drew⟩
end
end Go.Proofs.YtjmjkcgldencoaaGreat
