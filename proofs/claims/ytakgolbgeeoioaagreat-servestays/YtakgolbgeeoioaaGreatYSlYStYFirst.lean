/-
  Slices of structs that lie in no block below a bound; results in memory; loads as equations. A state's cells. The first requests of a state; its heads.
-/
import Derived.Test.YtakgolbgeeoioaaGreatWNumWReqYKind
namespace Go.Proofs.YtakgolbgeeoioaaGreat
open Go.RowKit

/-- two results, a struct in memory and a value; two structs in memory -/
theorem results_row_tmp {P : Program} {fn : Func} {p t : Tmp} {ty : TypeId} (h : fn.results = #[.cell p ty, .tmp t]) (tmps : Array Value) (w : World) (g : Nat) (tt : TypeId) (cs : Array Value) (d : TypeDesc)
 (hp : tmps.getD p undef = .pointer (some ⟨g, 0, none⟩)) (hg : Blk w g tt cs)
 (hu : P.underlying ty = some d) (hd : (match d with | .struct _ | .array _ _ => true | _ => false) = true) (hi : (P.info? ty).map (·.size) = some cs.size) :
 (results fn tmps).run P w = .ok (.tuple #[.agg cs, tmps.getD t undef]) w := by
 have hl := run_loadVar_row (P := P) w g tt ty cs (0, 0) d hg hu hd hi
 have hp' : tmps[p]?.getD undef = .pointer (some ⟨g, 0, none⟩) := by simpa using hp
 simp [results, h, hp', asAddr, hl]
theorem results_row_row {P : Program} {fn : Func} {p q : Tmp} {ty ty2 : TypeId} (h : fn.results = #[.cell p ty, .cell q ty2]) (tmps : Array Value) (w : World) (g g2 : Nat) (tt tt2 : TypeId) (cs cs2 : Array Value) (d d2 : TypeDesc)
 (hp : tmps.getD p undef = .pointer (some ⟨g, 0, none⟩)) (hg : Blk w g tt cs) (hp2 : tmps.getD q undef = .pointer (some ⟨g2, 0, none⟩)) (hg2 : Blk w g2 tt2 cs2)
 (hu : P.underlying ty = some d) (hd : (match d with | .struct _ | .array _ _ => true | _ => false) = true) (hi : (P.info? ty).map (·.size) = some cs.size)
 (hu2 : P.underlying ty2 = some d2) (hd2 : (match d2 with | .struct _ | .array _ _ => true | _ => false) = true) (hi2 : (P.info? ty2).map (·.size) = some cs2.size) :
 (results fn tmps).run P w = .ok (.tuple #[.agg cs, .agg cs2]) w := by
 have hl := run_loadVar_row (P := P) w g tt ty cs (0, 0) d hg hu hd hi
 have hl2 := run_loadVar_row (P := P) w g2 tt2 ty2 cs2 (0, 0) d2 hg2 hu2 hd2 hi2
 have hp' : tmps[p]?.getD undef = .pointer (some ⟨g, 0, none⟩) := by simpa using hp
 have hp2' : tmps[q]?.getD undef = .pointer (some ⟨g2, 0, none⟩) := by simpa using hp2
 simp [results, h, hp', hp2', asAddr, hl, hl2]
/-- loads of slices and structs, as equations -/
theorem sl_req {w : World} {p : Addr} {v : Value} (h : w.cell? p = some v) : (loadVar 31 p).run Tryz.prog w = .ok v w := by
 go_simp
theorem sl_hd {w : World} {p : Addr} {v : Value} (h : w.cell? p = some v) : (loadVar 38 p).run Tryz.prog w = .ok v w := by
 go_simp
theorem num_load {w : World} {p : Addr} {x : Int} (h : w.cell? p = some (.int .i64 x)) : (loadVar 3 p).run Tryz.prog w = .ok (.int .i64 x) w := by
 go_simp
theorem head_load {w : World} {g : Nat} {h : Hd} (hk : Blk w g 51 h.enc.toArray) : (loadVar 51 ⟨g, 0, none⟩).run Tryz.prog w = .ok (.agg h.enc.toArray) w :=
 run_loadVar_row w g 51 51 h.enc.toArray (0, 0) _ hk Tryz.underlying51 rfl (by kernel_rfl)
theorem head_load5 {w : World} {g : Nat} {a b c : Int} {d e : ByteArray} (hk : Blk w g 51 #[.int .i64 a, .int .i64 b, .int .i64 c, .string d, .string e]) : (loadVar 51 ⟨g, 0, none⟩).run Tryz.prog w = .ok (.agg #[.int .i64 a, .int .i64 b, .int .i64 c, .string d, .string e]) w :=
 run_loadVar_row w g 51 51 _ (0, 0) _ hk Tryz.underlying51 rfl (by kernel_rfl)
theorem req_load5 {w : World} {g : Nat} {a b : Int} {c d e : ByteArray} (hk : Blk w g 61 #[.int .i64 a, .int .i64 b, .string c, .string d, .string e]) : (loadVar 61 ⟨g, 0, none⟩).run Tryz.prog w = .ok (.agg #[.int .i64 a, .int .i64 b, .string c, .string d, .string e]) w :=
 run_loadVar_row w g 61 61 _ (0, 0) _ hk Tryz.underlying61 rfl (by kernel_rfl)
theorem rep_load3 {w : World} {g : Nat} {a b c : Int} (hk : Blk w g 34 #[.int .i64 a, .int .i64 b, .int .i64 c]) : (loadVar 34 ⟨g, 0, none⟩).run Tryz.prog w = .ok (.agg #[.int .i64 a, .int .i64 b, .int .i64 c]) w :=
 run_loadVar_row w g 34 34 _ (0, 0) _ hk Tryz.underlying34 rfl (by kernel_rfl)
theorem OwnG.parts {α : Type} {K : Kind α} (hK : K.Ok) {w : World} {B : Nat} {o : Option Addr} {n c : Nat} {xs : List α} (h : OwnG K w B (.slice o n c) xs) : n = xs.length ∧ RowG K w o xs ∧ xs.length ≤ c ∧ (o = none → c = 0) ∧ (∀ a, o = some a → B ≤ a.block) := by
 obtain ⟨oa, cap, h1, h2, h3, h4, h5⟩ := h.form hK
 injection h1 with e1 e2 e3
 subst e1 e3
 exact ⟨e2, h2, h3, fun e => (h4 e).2, fun a e => (h5 a e).2.1⟩
/-- a slice that reads as xs and is the one at o0, which read as xs0, or lies in a block that isn't below B -/
def SlO {α : Type} (K : Kind α) (w : World) (o0 : Option Addr) (xs0 : List α) (B : Nat) (v : Value) (xs : List α) : Prop := ∃ oa cap, v = .slice oa xs.length cap ∧ RowG K w oa xs ∧ xs.length ≤ cap ∧ (oa = none → cap = 0) ∧ ((oa = o0 ∧ xs = xs0) ∨ ∀ a, oa = some a → B ≤ a.block)
/-- a slice that reads as xs and lies in no block below B -/
def SlB {α : Type} (K : Kind α) (w : World) (B : Nat) (v : Value) (xs : List α) : Prop := ∃ oa cap, v = .slice oa xs.length cap ∧ RowG K w oa xs ∧ xs.length ≤ cap ∧ (oa = none → cap = 0) ∧ (∀ a, oa = some a → B ≤ a.block)
theorem SlB.below {α : Type} {K : Kind α} {w w' : World} {B : Nat} {v : Value} {xs : List α} (h : SlB K w B v xs) (hb : Below w.heap.size w w') : SlB K w' B v xs := by
 obtain ⟨oa, cap, h1, h2, h3, h4, h5⟩ := h
 exact ⟨oa, cap, h1, h2.below hb, h3, h4, h5⟩
theorem SlB.mono {α : Type} {K : Kind α} {w : World} {B B' : Nat} {v : Value} {xs : List α} (h : SlB K w B v xs) (hB : B' ≤ B) : SlB K w B' v xs := by
 obtain ⟨oa, cap, h1, h2, h3, h4, h5⟩ := h
 exact ⟨oa, cap, h1, h2, h3, h4, fun a ha => Nat.le_trans hB (h5 a ha)⟩
theorem SlB.grown {α : Type} {K : Kind α} {w w' : World} {B g : Nat} {v : Value} {xs : List α} (h : SlB K w B v xs) (hg : w.grownBy w' (some g)) (hlt : g < B) : SlB K w' B v xs := by
 obtain ⟨oa, cap, h1, h2, h3, h4, h5⟩ := h
 exact ⟨oa, cap, h1, h2.grown hg (fun a ha e => by have := h5 a ha; injection e; omega), h3, h4, h5⟩
theorem slB_nil {α : Type} {K : Kind α} (w : World) (B : Nat) : SlB K w B (.slice none 0 0) [] := ⟨none, 0, rfl, RowG.nil w none, Nat.le_refl _, fun _ => rfl, fun a e => by cases e⟩
theorem OwnG.slB {α : Type} {K : Kind α} (hK : K.Ok) {w : World} {B : Nat} {v : Value} {xs : List α} (h : OwnG K w B v xs) : SlB K w B v xs := by
 obtain ⟨oa, cap, h1, h2, h3, h4, h5⟩ := h.form hK
 exact ⟨oa, cap, h1, h2, h3, fun e => (h4 e).2, fun a ha => (h5 a ha).2.1⟩
end Go.Proofs.YtakgolbgeeoioaaGreat
namespace Go.Proofs.YtakgolbgeeoioaaGreat
open Go.RowKit

/-- a client's last one: its number, how many were taken, the answer -/
structure Lst where
 q : Int
 n : Int
 r : Rep
instance : Inhabited Lst := ⟨⟨0, 0, ⟨0, 0, 0⟩⟩⟩
def Lst.enc (x : Lst) : List Value := [.int .i64 x.q, .int .i64 x.n, .int .i64 x.r.e, .int .i64 x.r.i, .int .i64 x.r.h]
/-- a state's cells -/
def cellsS (a : Value) (x y z u : Lst) (b : Value) : Array Value :=
 #[a, .int .i64 x.q, .int .i64 x.n, .int .i64 x.r.e, .int .i64 x.r.i, .int .i64 x.r.h, .int .i64 y.q, .int .i64 y.n, .int .i64 y.r.e, .int .i64 y.r.i, .int .i64 y.r.h,
  .int .i64 z.q, .int .i64 z.n, .int .i64 z.r.e, .int .i64 z.r.i, .int .i64 z.r.h, .int .i64 u.q, .int .i64 u.n, .int .i64 u.r.e, .int .i64 u.r.i, .int .i64 u.r.h, b]
theorem cellsS_size (a : Value) (x y z u : Lst) (b : Value) : (cellsS a x y z u b).size = 22 := rfl
theorem cellsS_one (o o' : Option Addr) (n n' c c' : Nat) (x y z u : Lst) : ((cellsS (.slice o n c) x y z u (.slice o' n' c')).all fun x => x.oneCell') = true := by
 unfold cellsS
 simp [Value.oneCell']
theorem infoS : (Tryz.prog.info? 40).map (·.size) = some 22 := by kernel_rfl
theorem st_load {w : World} {g : Nat} {cs : Array Value} (hs : cs.size = 22) (h : Blk w g 40 cs) : (loadVar 40 ⟨g, 0, none⟩).run Tryz.prog w = .ok (.agg cs) w :=
 run_loadVar_row w g 40 40 cs (0, 0) _ h Tryz.underlying40 rfl (by rw [hs]; exact infoS)
def zeroSt : Array Value := cellsS (.slice none 0 0) default default default default (.slice none 0 0)
theorem zeroS (w : World) : (zeroValue 40).run Tryz.prog w = .ok (.agg zeroSt) w := by kernel_rfl
/-- two structs and a plain value -/
theorem results_row_row_tmp {P : Program} {fn : Func} {p q t : Tmp} {ty ty2 : TypeId} (h : fn.results = #[.cell p ty, .cell q ty2, .tmp t]) (tmps : Array Value) (w : World) (g g2 : Nat) (tt tt2 : TypeId) (cs cs2 : Array Value) (d d2 : TypeDesc)
 (hp : tmps.getD p undef = .pointer (some ⟨g, 0, none⟩)) (hg : Blk w g tt cs) (hp2 : tmps.getD q undef = .pointer (some ⟨g2, 0, none⟩)) (hg2 : Blk w g2 tt2 cs2)
 (hu : P.underlying ty = some d) (hd : (match d with | .struct _ | .array _ _ => true | _ => false) = true) (hi : (P.info? ty).map (·.size) = some cs.size)
 (hu2 : P.underlying ty2 = some d2) (hd2 : (match d2 with | .struct _ | .array _ _ => true | _ => false) = true) (hi2 : (P.info? ty2).map (·.size) = some cs2.size) :
 (results fn tmps).run P w = .ok (.tuple #[.agg cs, .agg cs2, tmps.getD t undef]) w := by
 have hl := run_loadVar_row (P := P) w g tt ty cs (0, 0) d hg hu hd hi
 have hl2 := run_loadVar_row (P := P) w g2 tt2 ty2 cs2 (0, 0) d2 hg2 hu2 hd2 hi2
 have hp' : tmps[p]?.getD undef = .pointer (some ⟨g, 0, none⟩) := by simpa using hp
 have hp2' : tmps[q]?.getD undef = .pointer (some ⟨g2, 0, none⟩) := by simpa using hp2
 simp [results, h, hp', hp2', asAddr, hl, hl2]
end Go.Proofs.YtakgolbgeeoioaaGreat
namespace Go.Proofs.YtakgolbgeeoioaaGreat
open Go.RowKit

/-- as many as n, or as are nearest to n -/
def nearN (n : Int) (N : Nat) : Nat := (min (max n 0) (N : Int)).toNat
theorem nearN_le (n : Int) (N : Nat) : nearN n N ≤ N := by unfold nearN; omega
theorem nearN_int (n : Int) (N : Nat) : min (max n 0) (N : Int) = (nearN n N : Int) := by unfold nearN; omega
set_option maxRecDepth 100000 in
theorem slice_req (oa : Option Addr) (n cap k : Nat) (hk : k ≤ cap) (W : World) : (Instr.slice 31 (.slice oa n cap) none (some (.int .i64 (k : Int))) none).run Tryz.prog W = .ok (.slice oa k cap) W := by
 rw [run_slice_h W _ _ n cap Tryz.underlying31 .i64 (k : Int) (by omega) (by omega)]
 have hs : (sizeOf (Tryz.prog.elem 31)).run Tryz.prog W = .ok 5 W := by kernel_rfl
 rw [hs]
 simp only [Result.andThen_ok, sliced, Int.toNat_natCast, Nat.zero_mul, Nat.sub_zero]
 congr 2
 split
 · rfl
 · cases oa with
   | none => rfl
   | some a => simp [Addr.add]
section
attribute [-go_sem] loadVar
set_option maxRecDepth 100000 in
set_option maxHeartbeats 1000000 in
theorem first_any (oa : Option Addr) (N ca : Nat) (x y z u : Lst) (vb : Value) (n : Int) (hle : N ≤ ca) (_ : N ≤ 1000000) (_ : -9223372036854775808 ≤ n ∧ n ≤ 9223372036854775807) (w : World) :
 Calls Tryz.prog 76 #[.agg (cellsS (.slice oa N ca) x y z u vb), .int .i64 n] w fun e w' => e = .returned (.slice oa (nearN n N) ca) ∧ Below w.heap.size w w' := by
 obtain ⟨w0, hw0⟩ : ∃ w0, w.alloc (.cells (cellsS (.slice oa N ca) x y z u vb) 40) = w0 := ⟨_, rfl⟩
 have hb0 : Below w.heap.size w w0 := by rw [← hw0]; exact (Below.refl _ w).alloc (Nat.le_refl _) _
 have k0 : Blk w0 w.heap.size 40 (cellsS (.slice oa N ca) x y z u vb) := by rw [← hw0]; exact Blk.new _ _ _
 have l0 := sl_req (w := w0) (p := ⟨w.heap.size, 0, none⟩) (k0.cell 0)
 change (loadVar 31 _).run Tryz.prog w0 = .ok (.slice oa N ca) w0 at l0
 have HW0 := Lib.hid hw0
 have hk := nearN_le n N
 have hs := slice_req oa N ca (nearN n N) (by omega) w0
 have hm := nearN_int n N
 generalize nearN n N = k at *
 clear hw0 k0
 go_enter Tryz.func76, Tryz.ntmps76
 go_wp2_with (rw [HW0.out])
 go_ret
 exact ⟨rfl, hb0⟩
/-- the head of a number, and whether it is there -/
def headAt (hd : List Hd) (q : Int) : Hd × Bool := if 1 ≤ q ∧ q ≤ hd.length then (hd.getD (q.toNat - 1) default, true) else (default, false)
def zeroHd : Array Value := #[.int .i64 0, .int .i64 0, .int .i64 0, .string ⟨#[]⟩, .string ⟨#[]⟩]
theorem info5 : (Tryz.prog.info? 51).map (·.size) = some 5 := by kernel_rfl
theorem hd_one (a b c : Int) (d e : ByteArray) : ((#[.int .i64 a, .int .i64 b, .int .i64 c, .string d, .string e] : Array Value).all fun x => x.oneCell') = true := by simp [Value.oneCell']
set_option maxRecDepth 100000 in
set_option maxHeartbeats 1000000 in
theorem stHead_any (va : Value) (x y z u : Lst) (ob : Option Addr) (m cb : Nat) (hd : List Hd) (hm : hd.length = m) (hN : m ≤ 1000000) (q : Int) (hq : -9223372036854775808 ≤ q ∧ q ≤ 9223372036854775807) (w : World) (hD : RowG hdK w ob hd) :
 Calls Tryz.prog 46 #[.agg (cellsS va x y z u (.slice ob m cb)), .int .i64 q] w fun e w' => e = .returned (.tuple #[.agg (headAt hd q).1.enc.toArray, .bool (headAt hd q).2]) ∧ Below w.heap.size w w' := by
 obtain ⟨w0, hw0⟩ : ∃ w0, (w.alloc (.cells (cellsS va x y z u (.slice ob m cb)) 40)).alloc (.cells zeroHd 51) = w0 := ⟨_, rfl⟩
 have hb0 : Below w.heap.size w w0 := by rw [← hw0]; exact ((Below.refl _ w).alloc (Nat.le_refl _) _).alloc (by simp) _
 have k0 : Blk w0 w.heap.size 40 (cellsS va x y z u (.slice ob m cb)) := by rw [← hw0]; exact (Blk.new _ _ _).alloc _
 have k1 : Blk w0 (w.heap.size + 1) 51 zeroHd := by rw [← hw0]; exact Blk.new_at (by simp)
 have l0 := sl_hd (w := w0) (p := ⟨w.heap.size, 21, none⟩) (k0.cell 21)
 change (loadVar 38 _).run Tryz.prog w0 = .ok (.slice ob m cb) w0 at l0
 have hz : ∀ W : World, (zeroValue 51).run Tryz.prog W = .ok (.agg zeroHd) W := fun W => by kernel_rfl
 have hno : ¬ (1 ≤ q ∧ q ≤ (m : Int)) → (headAt hd q).1.enc.toArray = zeroHd ∧ (headAt hd q).2 = false := fun h => by
  unfold headAt
  rw [hm, if_neg h]
  exact ⟨rfl, rfl⟩
 have HI := Lib.hid (show (Tryz.prog.info? 51).map (·.size) = some zeroHd.size from info5)
 have HO := Lib.hid (show (zeroHd.all fun x => x.oneCell') = true from hd_one 0 0 0 ⟨#[]⟩ ⟨#[]⟩)
 have HZ := Lib.hid (show zeroHd = #[.int .i64 0, .int .i64 0, .int .i64 0, .string ⟨#[]⟩, .string ⟨#[]⟩] from rfl)
 have HK1 := Lib.hid k1
 have HW0 := Lib.hid hw0
 have HB0 := Lib.hid hb0
 by_cases hin : 1 ≤ q ∧ q ≤ (m : Int)
 · obtain ⟨j, rfl⟩ : ∃ j : Nat, q = (j : Int) + 1 := ⟨(q - 1).toNat, by omega⟩
   have hj : j < hd.length := by omega
   have hyes : (headAt hd ((j : Int) + 1)).1 = hd[j] ∧ (headAt hd ((j : Int) + 1)).2 = true := by
    unfold headAt
    rw [hm, if_pos hin, show ((j : Int) + 1).toNat - 1 = j by omega]
    refine ⟨?_, rfl⟩
    show hd.getD j default = hd[j]
    rw [List.getD_eq_getElem?_getD, List.getElem?_eq_getElem hj]
    rfl
   rw [hyes.1, hyes.2]
   obtain ⟨g, o, rfl, hg, c0, c1, c2, c3, c4⟩ := hd_at hD hj
   have hrow : RowG hdK w0 (some ⟨g, o, none⟩) hd := hD.below hb0
   have lh := RowG.load hdOk hrow (List.getElem?_eq_getElem hj)
   change (loadVar 51 ⟨g, o + j * 5, none⟩).run Tryz.prog w0 = .ok (.agg #[.int .i64 hd[j].q, .int .i64 hd[j].z, .int .i64 hd[j].t, .string hd[j].r, .string hd[j].m]) w0 at lh
   unfold Hd.enc
   obtain ⟨X, hX⟩ : ∃ X, hd[j] = X := ⟨_, rfl⟩
   rw [hX] at lh ⊢
   clear hyes c0 c1 c2 c3 c4
   clear hX
   obtain ⟨h1, h2, h3, h4, h5⟩ := X
   dsimp only at lh ⊢
   have hjm : (j : Int) < (m : Int) := by omega
   have t1 : ¬ ((j : Int) + 1 < 1) := by omega
   have t2 : ¬ ((m : Int) < (j : Int) + 1) := by omega
   have e1 : (j : Int) + 1 - 1 = (j : Int) := by omega
   clear hw0 k0 k1 hb0 hD hno hrow hin hm
   have HIX := Lib.hid (show (Tryz.prog.info? 51).map (·.size) = some (#[.int .i64 h1, .int .i64 h2, .int .i64 h3, .string h4, .string h5] : Array Value).size from info5)
   go_enter Tryz.func46, Tryz.ntmps46
   go_wp2_with (first
    | rw [HW0.out]
    | (refine wpList_store_row rfl 51 _ _ rfl (w.heap.size + 1) #[.int .i64 h1, .int .i64 h2, .int .i64 h3, .string h4, .string h5] rfl rfl 51 zeroHd HK1.out HIX.out rfl (hd_one _ _ _ _ _) ?_))
   have n5 := setRow_heap w0 (w.heap.size + 1) zeroHd #[.int .i64 h1, .int .i64 h2, .int .i64 h3, .string h4, .string h5] 51 (0, 0) HK1.out
   refine bodyPost_ret (results_row_tmp rfl _ _ (w.heap.size + 1) 51 #[.int .i64 h1, .int .i64 h2, .int .i64 h3, .string h4, .string h5] _ rfl n5 Tryz.underlying51 rfl HIX.out) rfl ?_
   exact ⟨rfl, HB0.out.grown (only_setRow (grown_refl _ _) _) HB0.out.size (fun k hk => by injection hk; omega)⟩
 · rw [(hno hin).1, (hno hin).2]
   have n5 := setRow_heap w0 (w.heap.size + 1) zeroHd zeroHd 51 (0, 0) HK1.out
   clear hw0 k0 k1 hb0 hD hno hm
   rcases (by omega : q < 1 ∨ (¬ q < 1 ∧ (m : Int) < q)) with t1 | ⟨t1, t2⟩
   all_goals
    clear hin
    go_enter Tryz.func46, Tryz.ntmps46
    go_wp2_with (first
     | rw [HW0.out]
     | (refine wpList_store_row rfl 51 _ _ rfl (w.heap.size + 1) zeroHd rfl rfl 51 zeroHd HK1.out HI.out rfl HO.out ?_))
    refine bodyPost_ret (results_row_tmp rfl _ _ (w.heap.size + 1) 51 zeroHd _ rfl n5 Tryz.underlying51 rfl HI.out) rfl ?_
    exact ⟨rfl, HB0.out.grown (only_setRow (grown_refl _ _) _) HB0.out.size (fun k hk => by injection hk; omega)⟩
end
end Go.Proofs.YtakgolbgeeoioaaGreat
