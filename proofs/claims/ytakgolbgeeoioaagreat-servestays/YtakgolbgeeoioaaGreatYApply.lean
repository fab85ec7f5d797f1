/-
 Apply: the program's.
-/
import Derived.Test.YtakgolbgeeoioaaGreatSvMathYStateMLeaf
import Derived.Test.YtakgolbgeeoioaaGreatYDoRYCloneYCopiedSRootE
import Derived.Test.YtakgolbgeeoioaaGreatMRefLSRefAHSBitMSPairSRefAMHStep
namespace Go.Proofs.YtakgolbgeeoioaaGreat
open Go.RowKit

/-- the clients' cells -/
def updF (f : Nat → Lst) (k : Nat) (L : Lst) : Nat → Lst := fun j => if j = k then L else f j
theorem cells_at (a b : Value) (f : Nat → Lst) : ∀ k, k < 4 → ∀ j, j < 5 → (cellsS a (f 0) (f 1) (f 2) (f 3) b)[1 + k * 5 + j]? = (f k).enc[j]?
 | 0, _, 0, _ | 0, _, 1, _ | 0, _, 2, _ | 0, _, 3, _ | 0, _, 4, _
 | 1, _, 0, _ | 1, _, 1, _ | 1, _, 2, _ | 1, _, 3, _ | 1, _, 4, _
 | 2, _, 0, _ | 2, _, 1, _ | 2, _, 2, _ | 2, _, 3, _ | 2, _, 4, _
 | 3, _, 0, _ | 3, _, 1, _ | 3, _, 2, _ | 3, _, 3, _ | 3, _, 4, _ => rfl
theorem last_load {w : World} {g k : Nat} {a b : Value} {f : Nat → Lst} (hk : k < 4) (h : Blk w g 40 (cellsS a (f 0) (f 1) (f 2) (f 3) b)) :
 (loadVar 36 ⟨g, 1 + k * 5, none⟩).run Tryz.prog w = .ok (.agg (f k).enc.toArray) w := by
 refine run_loadVar_mid w g (1 + k * 5) 36 (f k).enc _ (fun j v hv => ?_) Tryz.underlying36 rfl (by kernel_rfl)
 have hj : j < 5 := (List.getElem?_eq_some_iff.1 hv).1
 rw [← hv, ← cells_at a b f k hk j hj]
 exact h.cell _
theorem cells_upd (a b : Value) (f : Nat → Lst) (L : Lst) : ∀ k, k < 4 → (((((cellsS a (f 0) (f 1) (f 2) (f 3) b).setIfInBounds (1 + k * 5) (.int .i64 L.q)).setIfInBounds (1 + k * 5 + 1) (.int .i64 L.n)).setIfInBounds (1 + k * 5 + 1 + 1) (.int .i64 L.r.e)).setIfInBounds (1 + k * 5 + 1 + 1 + 1) (.int .i64 L.r.i)).setIfInBounds (1 + k * 5 + 1 + 1 + 1 + 1) (.int .i64 L.r.h) = cellsS a (updF f k L 0) (updF f k L 1) (updF f k L 2) (updF f k L 3) b
 | 0, _ | 1, _ | 2, _ | 3, _ => rfl
theorem Blk.setLast {w : World} {g k : Nat} {a b : Value} {f : Nat → Lst} {t : TypeId} (hk : k < 4) (h : Blk w g t (cellsS a (f 0) (f 1) (f 2) (f 3) b)) (L : Lst) :
 Blk (w.setCells g (1 + k * 5) L.enc) g t (cellsS a (updF f k L 0) (updF f k L 1) (updF f k L 2) (updF f k L 3) b) := by
 rw [← cells_upd a b f L k hk]
 exact ((((h.set_ (1 + k * 5) _).set_ (1 + k * 5 + 1) _).set_ (1 + k * 5 + 1 + 1) _).set_ (1 + k * 5 + 1 + 1 + 1) _).set_ (1 + k * 5 + 1 + 1 + 1 + 1) _
theorem Blk.thereLast {w : World} {g k : Nat} {a b : Value} {f : Nat → Lst} {t : TypeId} (hk : k < 4) (h : Blk w g t (cellsS a (f 0) (f 1) (f 2) (f 3) b)) : w.there g (1 + k * 5) 5 := fun j hj => by
 refine ⟨?_, h.frozen _⟩
 rw [h.cell, cells_at a b f k hk j hj]
 simp [Lst.enc, hj]
theorem rep_one (a b c : Int) : ((#[.int .i64 a, .int .i64 b, .int .i64 c] : Array Value).all fun x => x.oneCell') = true := by simp [Value.oneCell']
theorem last_one (a b c d e : Int) : ((#[.int .i64 a, .int .i64 b, .int .i64 c, .int .i64 d, .int .i64 e] : Array Value).all fun x => x.oneCell') = true := by simp [Value.oneCell']
theorem rep_mid {w : World} {g : Nat} {q n e i h : Int} (k : Blk w g 36 #[.int .i64 q, .int .i64 n, .int .i64 e, .int .i64 i, .int .i64 h]) : (loadVar 34 ⟨g, 2, none⟩).run Tryz.prog w = .ok (.agg #[.int .i64 e, .int .i64 i, .int .i64 h]) w := by
 refine run_loadVar_mid w g 2 34 [.int .i64 e, .int .i64 i, .int .i64 h] _ (fun j v hv => ?_) Tryz.underlying34 rfl (by kernel_rfl)
 rw [k.cell, ← hv]
 have hj : j < 3 := (List.getElem?_eq_some_iff.1 hv).1
 rcases (by omega : j = 0 ∨ j = 1 ∨ j = 2) with rfl | rfl | rfl <;> rfl
theorem info3 : (Tryz.prog.info? 34).map (·.size) = some 3 := by kernel_rfl
/-- what the call made lies in another block than an old one -/
theorem apart {α : Type} {K : Kind α} {w : World} {B g : Nat} {v : Value} {xs : List α} (h : OwnG K w B v xs) (hg : g < B) : v.ownBlock = none ∨ v.ownBlock ≠ some g := by
 cases ho : v.ownBlock with
 | none => exact .inl rfl
 | some q => refine .inr (fun e => ?_); have h1 := (World.ownsRow.lt h q ho).1; injection e with e; omega
theorem apartT {α : Type} {K : Kind α} {w : World} {B g : Nat} {v : Value} {xs : List α} {t : TypeId} {cs : Array Value} (h : OwnG K w B v xs) (hk : Blk w g t cs) (ht : t ≠ K.t) : v.ownBlock = none ∨ v.ownBlock ≠ some g := by
 rcases h.2 with ⟨rfl, _⟩ | ⟨q, cap, cur, rfl, _, hq, _⟩
 · exact .inl rfl
 · refine .inr (fun e => ht ?_)
   have e2 : q = g := by injection e
   subst e2
   have h3 : w.heap[q]? = some (.cells cur K.t (0, 0)) := hq
   have h4 : w.heap[q]? = some (.cells cs t (0, 0)) := hk
   rw [h3] at h4
   injection h4 with h4
   injection h4 with _ h5 _
   exact h5.symm
theorem ne_row {o : Option Nat} {g : Nat} (h : o = none ∨ o ≠ some g) : some g ≠ o := by
 rcases h with rfl | h
 · exact fun e => by cases e
 · exact fun e => h e.symm

section
attribute [-go_sem] loadVar
set_option maxRecDepth 100000 in
set_option maxHeartbeats 4000000 in
theorem applyC : ApplyC := by
 intro _ cs W r w hi hs h
 obtain ⟨va, vb, rfl, hA', hD'⟩ := h
 have hA := hA'.zero
 have hD := hD'.zero
 clear hA' hD'
 obtain ⟨tk, rp, hd⟩ := W
 obtain ⟨rc, rq, rl, rk, rv⟩ := r
 have hm := hi.most
 have hh := hi.heads
 have hlen := hi.len
 dsimp only at hm hh hlen hA hD
 have HSZ := of_decide_eq_true hs
 have HRI : Hid (∀ W, Calls Tryz.prog 54 #[.agg #[.int .i64 rc, .int .i64 rq, .string rl, .string rk, .string rv]] W fun e w' => e = .returned (.bool (rightQ ⟨rc, rq, rl, rk, rv⟩)) ∧ Below W.heap.size W w') := Lib.hid fun W => right_any rc rq rl rk rv (by have h : rl.size ≤ 250 := HSZ.1; omega) (by have h : rk.size ≤ 100 := HSZ.2.1; omega) (by have h : rv.size ≤ 150 := HSZ.2.2; omega) W
 obtain ⟨f, hf⟩ : ∃ f : Nat → Lst, f = fun j : Nat => lstL (j : Int) tk rp tk.length := ⟨_, rfl⟩
 have e0 : lastW 0 ⟨tk, rp, hd⟩ = f 0 := by rw [hf]; rfl
 have e1 : lastW 1 ⟨tk, rp, hd⟩ = f 1 := by rw [hf]; rfl
 have e2 : lastW 2 ⟨tk, rp, hd⟩ = f 2 := by rw [hf]; rfl
 have e3 : lastW 3 ⟨tk, rp, hd⟩ = f 3 := by rw [hf]; rfl
 rw [e0, e1, e2, e3]
 have HCP : Hid (∀ W, Below w.heap.size w W → Calls Tryz.prog 45 #[.agg (cellsS va (f 0) (f 1) (f 2) (f 3) vb)] W (RCopy (f 0) (f 1) (f 2) (f 3) tk hd W)) := Lib.hid fun W hW => copied_any 0 va vb (f 0) (f 1) (f 2) (f 3) tk hd (by omega) (by omega) W (hA.below hW) (hD.below hW)
 obtain ⟨oa, ca, rfl, hA1, hA2, hA3, _⟩ := hA
 obtain ⟨ob, cb, rfl, hD1, hD2, hD3, _⟩ := hD
 obtain ⟨n, hn⟩ : ∃ n, tk.length = n := ⟨_, rfl⟩
 obtain ⟨m, hM⟩ : ∃ m, hd.length = m := ⟨_, rfl⟩
 rw [hn] at hm hh hA2
 rw [hM] at hh hD2
 rw [hn, hM] at HCP
 -- what is answered where nothing is taken, and where the request is
 have HNO : Hid (∀ (y : Rep), askW tk rp hd.length ⟨rc, rq, rl, rk, rv⟩ = (tk, rp, y) → ∀ (a b : Value) (B2 : Nat) (w' : World), OwnG reqK w' w.heap.size a tk → OwnG hdK w' B2 b hd → w.heap.size ≤ B2 → Below w.heap.size w w' →
  ∃ cs', Ending.returned (.tuple #[.agg (cellsS a (f 0) (f 1) (f 2) (f 3) b), .agg #[.int .i64 y.e, .int .i64 y.i, .int .i64 y.h]]) = .returned (.tuple #[.agg cs', .agg (saysS ⟨tk, rp, hd⟩ ⟨rc, rq, rl, rk, rv⟩).enc.toArray]) ∧ StC w' (geP w.heap.size) cs' (askS ⟨tk, rp, hd⟩ ⟨rc, rq, rl, rk, rv⟩) ∧ Below w.heap.size w w') := Lib.hid fun y hy a b B2 w' h1 h2 h3 h4 => by
  have es : askS ⟨tk, rp, hd⟩ ⟨rc, rq, rl, rk, rv⟩ = ⟨tk, rp, hd⟩ := by unfold askS; rw [hy]
  have ey : saysS ⟨tk, rp, hd⟩ ⟨rc, rq, rl, rk, rv⟩ = y := by unfold saysS; rw [hy]
  rw [es, ey]
  exact ⟨_, rfl, ⟨a, b, by rw [e0, e1, e2, e3], (h1.slB reqOk).slP, ((h2.slB hdOk).mono h3).slP⟩, h4⟩
 have HYES : Hid (∀ (k : Nat), rc = k → k < 4 → askW tk rp hd.length ⟨rc, rq, rl, rk, rv⟩ = (tk ++ [⟨rc, rq, rl, rk, rv⟩], rp ++ [⟨0, tk.length, (hd.length : Int) + 1⟩], ⟨0, tk.length, (hd.length : Int) + 1⟩) → ∀ (a b : Value) (B2 : Nat) (w' : World), OwnG reqK w' w.heap.size a (tk ++ [⟨rc, rq, rl, rk, rv⟩]) → OwnG hdK w' B2 b hd → w.heap.size ≤ B2 → Below w.heap.size w w' →
  ∃ cs', Ending.returned (.tuple #[.agg (cellsS a (updF f k ⟨rq, (f k).n + 1, ⟨0, n, (m : Int) + 1⟩⟩ 0) (updF f k ⟨rq, (f k).n + 1, ⟨0, n, (m : Int) + 1⟩⟩ 1) (updF f k ⟨rq, (f k).n + 1, ⟨0, n, (m : Int) + 1⟩⟩ 2) (updF f k ⟨rq, (f k).n + 1, ⟨0, n, (m : Int) + 1⟩⟩ 3) b), .agg #[.int .i64 0, .int .i64 n, .int .i64 ((m : Int) + 1)]]) = .returned (.tuple #[.agg cs', .agg (saysS ⟨tk, rp, hd⟩ ⟨rc, rq, rl, rk, rv⟩).enc.toArray]) ∧ StC w' (geP w.heap.size) cs' (askS ⟨tk, rp, hd⟩ ⟨rc, rq, rl, rk, rv⟩) ∧ Below w.heap.size w w') := Lib.hid fun k hk hk4 hy a b B2 w' h1 h2 h3 h4 => by
  have es : askS ⟨tk, rp, hd⟩ ⟨rc, rq, rl, rk, rv⟩ = ⟨tk ++ [⟨rc, rq, rl, rk, rv⟩], rp ++ [⟨0, tk.length, (hd.length : Int) + 1⟩], hd⟩ := by unfold askS; rw [hy]
  have ey : saysS ⟨tk, rp, hd⟩ ⟨rc, rq, rl, rk, rv⟩ = ⟨0, tk.length, (hd.length : Int) + 1⟩ := by unfold saysS; rw [hy]
  have ef : ∀ j : Nat, lastW (j : Int) ⟨tk ++ [⟨rc, rq, rl, rk, rv⟩], rp ++ [⟨0, tk.length, (hd.length : Int) + 1⟩], hd⟩ = updF f k ⟨rq, (f k).n + 1, ⟨0, n, (m : Int) + 1⟩⟩ j := fun j => by
   unfold lastW updF
   rw [lstL_snoc _ tk rp hlen, hf, hn, hM]
   by_cases hj : j = k
   · subst hj
     rw [if_pos hk, if_pos rfl]
   · rw [if_neg (fun e => hj (by have e : rc = (j : Int) := e; omega)), if_neg hj]
  rw [es, ey, hn, hM]
  rw [hn, hM] at ef
  exact ⟨_, rfl, ⟨a, b, by rw [show lastW 0 _ = _ from ef 0, show lastW 1 _ = _ from ef 1, show lastW 2 _ = _ from ef 2, show lastW 3 _ = _ from ef 3], (h1.slB reqOk).slP, ((h2.slB hdOk).mono h3).slP⟩, h4⟩
 have HASK : Hid (askW tk rp hd.length ⟨rc, rq, rl, rk, rv⟩ = if rightQ ⟨rc, rq, rl, rk, rv⟩ = false then (tk, rp, ⟨1, 0, 0⟩)
  else if (lstL rc tk rp tk.length).q = rq then (tk, rp, (lstL rc tk rp tk.length).r)
  else if rq < (lstL rc tk rp tk.length).q then (tk, rp, ⟨7, 0, 0⟩)
  else if (lstL rc tk rp tk.length).n = 20 then (tk, rp, ⟨6, 0, 0⟩)
  else if tk.length = 64 then (tk, rp, ⟨10, 0, 0⟩)
  else (tk ++ [⟨rc, rq, rl, rk, rv⟩], rp ++ [⟨0, tk.length, (hd.length : Int) + 1⟩], ⟨0, tk.length, (hd.length : Int) + 1⟩)) := Lib.hid (askW_last tk rp hd.length ⟨rc, rq, rl, rk, rv⟩)
 have HCNT : Hid ((lstL rc tk rp tk.length).n ≤ 20) := Lib.hid (by rw [lstL_n]; exact hi.cnt rc)
 have HLN0 : Hid (0 ≤ (lstL rc tk rp tk.length).n) := Lib.hid (by rw [lstL_n]; exact (cntN_le rc tk tk.length).1)
 have HRQ : Hid (rightQ ⟨rc, rq, rl, rk, rv⟩ = true → ∃ k : Nat, rc = k ∧ k < 4) := Lib.hid fun h => by
  have := (rightQ_q h).2.2
  exact ⟨rc.toNat, by dsimp only at this; omega, by dsimp only at this; omega⟩
 have HFK : Hid (∀ k : Nat, rc = k → lstL rc tk rp tk.length = f k) := Lib.hid fun k hk => by rw [hf, hk]
 generalize saysS ⟨tk, rp, hd⟩ ⟨rc, rq, rl, rk, rv⟩ = SY at *
 generalize askS ⟨tk, rp, hd⟩ ⟨rc, rq, rl, rk, rv⟩ = AS at *
 obtain ⟨PO, hPO⟩ : ∃ PO : Ending → World → Prop, PO = fun e w' => ∃ cs', e = .returned (.tuple #[.agg cs', .agg SY.enc.toArray]) ∧ StC w' (geP w.heap.size) cs' AS ∧ Below w.heap.size w w' := ⟨_, rfl⟩
 rw [← hPO, hn, hM]
 change Calls Tryz.prog 22 #[.agg (cellsS (.slice oa n ca) (f 0) (f 1) (f 2) (f 3) (.slice ob m cb)), .agg #[.int .i64 rc, .int .i64 rq, .string rl, .string rk, .string rv]] w PO
 have HNO2 : Hid (∀ (y : Rep), askW tk rp hd.length ⟨rc, rq, rl, rk, rv⟩ = (tk, rp, y) → ∀ (a b : Value) (B2 : Nat) (w' : World), OwnG reqK w' w.heap.size a tk → OwnG hdK w' B2 b hd → w.heap.size ≤ B2 → Below w.heap.size w w' → PO (.returned (.tuple #[.agg (cellsS a (f 0) (f 1) (f 2) (f 3) b), .agg #[.int .i64 y.e, .int .i64 y.i, .int .i64 y.h]])) w') := Lib.hid (by rw [hPO]; exact HNO.out)
 have HYES2 : Hid (∀ (k : Nat), rc = k → k < 4 → askW tk rp hd.length ⟨rc, rq, rl, rk, rv⟩ = (tk ++ [⟨rc, rq, rl, rk, rv⟩], rp ++ [⟨0, tk.length, (hd.length : Int) + 1⟩], ⟨0, tk.length, (hd.length : Int) + 1⟩) → ∀ (a b : Value) (B2 : Nat) (w' : World), OwnG reqK w' w.heap.size a (tk ++ [⟨rc, rq, rl, rk, rv⟩]) → OwnG hdK w' B2 b hd → w.heap.size ≤ B2 → Below w.heap.size w w' →
  PO (.returned (.tuple #[.agg (cellsS a (updF f k ⟨rq, (f k).n + 1, ⟨0, n, (m : Int) + 1⟩⟩ 0) (updF f k ⟨rq, (f k).n + 1, ⟨0, n, (m : Int) + 1⟩⟩ 1) (updF f k ⟨rq, (f k).n + 1, ⟨0, n, (m : Int) + 1⟩⟩ 2) (updF f k ⟨rq, (f k).n + 1, ⟨0, n, (m : Int) + 1⟩⟩ 3) b), .agg #[.int .i64 0, .int .i64 n, .int .i64 ((m : Int) + 1)]])) w') := Lib.hid (by rw [hPO]; exact HYES.out)
 clear hPO HNO HYES
 have HN := Lib.hid hn
 have HM := Lib.hid hM
 generalize askW tk rp hd.length ⟨rc, rq, rl, rk, rv⟩ = AW at *
 generalize lstL rc tk rp tk.length = LL at *
 generalize rightQ ⟨rc, rq, rl, rk, rv⟩ = RQ at *
 have hb0 : Below w.heap.size w ((((w.alloc (.cells (cellsS (.slice oa n ca) (f 0) (f 1) (f 2) (f 3) (.slice ob m cb)) 40)).alloc (.cells #[.int .i64 rc, .int .i64 rq, .string rl, .string rk, .string rv] 61)).alloc (.cells zeroSt 40)).alloc (.cells #[.int .i64 0, .int .i64 0, .int .i64 0] 34)) := ((((Below.refl _ w).alloc (Nat.le_refl _) _).alloc (by simp) _).alloc (by simp; omega) _).alloc (by simp; omega) _
 have k0 : Blk ((((w.alloc (.cells (cellsS (.slice oa n ca) (f 0) (f 1) (f 2) (f 3) (.slice ob m cb)) 40)).alloc (.cells #[.int .i64 rc, .int .i64 rq, .string rl, .string rk, .string rv] 61)).alloc (.cells zeroSt 40)).alloc (.cells #[.int .i64 0, .int .i64 0, .int .i64 0] 34)) w.heap.size 40 (cellsS (.slice oa n ca) (f 0) (f 1) (f 2) (f 3) (.slice ob m cb)) := (((Blk.new _ _ _).alloc _).alloc _).alloc _
 have k1 : Blk ((((w.alloc (.cells (cellsS (.slice oa n ca) (f 0) (f 1) (f 2) (f 3) (.slice ob m cb)) 40)).alloc (.cells #[.int .i64 rc, .int .i64 rq, .string rl, .string rk, .string rv] 61)).alloc (.cells zeroSt 40)).alloc (.cells #[.int .i64 0, .int .i64 0, .int .i64 0] 34)) (w.heap.size + 1) 61 #[.int .i64 rc, .int .i64 rq, .string rl, .string rk, .string rv] := ((Blk.new_at (by simp)).alloc _).alloc _
 have k2 : Blk ((((w.alloc (.cells (cellsS (.slice oa n ca) (f 0) (f 1) (f 2) (f 3) (.slice ob m cb)) 40)).alloc (.cells #[.int .i64 rc, .int .i64 rq, .string rl, .string rk, .string rv] 61)).alloc (.cells zeroSt 40)).alloc (.cells #[.int .i64 0, .int .i64 0, .int .i64 0] 34)) (w.heap.size + 2) 40 zeroSt := (Blk.new_at (by simp)).alloc _
 have k3 : Blk ((((w.alloc (.cells (cellsS (.slice oa n ca) (f 0) (f 1) (f 2) (f 3) (.slice ob m cb)) 40)).alloc (.cells #[.int .i64 rc, .int .i64 rq, .string rl, .string rk, .string rv] 61)).alloc (.cells zeroSt 40)).alloc (.cells #[.int .i64 0, .int .i64 0, .int .i64 0] 34)) (w.heap.size + 3) 34 #[.int .i64 0, .int .i64 0, .int .i64 0] := Blk.new_at (by simp)
 obtain ⟨w0, hw0⟩ : ∃ w0, ((((w.alloc (.cells (cellsS (.slice oa n ca) (f 0) (f 1) (f 2) (f 3) (.slice ob m cb)) 40)).alloc (.cells #[.int .i64 rc, .int .i64 rq, .string rl, .string rk, .string rv] 61)).alloc (.cells zeroSt 40)).alloc (.cells #[.int .i64 0, .int .i64 0, .int .i64 0] 34)) = w0 := ⟨_, rfl⟩
 rw [hw0] at hb0 k0 k1 k2 k3
 have HW0 := Lib.hid hw0
 have HK0 := Lib.hid k0
 have HK1 := Lib.hid k1
 have HK2 := Lib.hid k2
 have HK3 := Lib.hid k3
 have HB0 := Lib.hid hb0
 have l0 := st_load (cellsS_size _ _ _ _ _ _) k0
 have hz := zeroS
 clear hw0 k0 k1 k2 k3 hb0 hn hM e0 e1 e2 e3 hf hA1 hD1 hs HSZ hi
 go_enter Tryz.func22, Tryz.ntmps22
 go_wp2_with (rw [HW0.out])
 refine (HCP.out w0 HB0.out).mono ?_
 rintro e w1 ⟨a1, b1, B2, rfl, hO1, hO2, hB2, hlt1, hB21, hb1⟩
 obtain ⟨o1, c1, rfl, _⟩ := hO1.form reqOk
 obtain ⟨o3, c3, rfl, _⟩ := hO2.form hdOk
 rw [HN.out] at hO1 hlt1 ⊢
 rw [HM.out] at hO2 ⊢
 have hlt0 := HK3.out.lt
 have hs01 := hb1.size
 obtain ⟨C1, hC1⟩ : ∃ C1, (cellsS (.slice o1 n c1) (f 0) (f 1) (f 2) (f 3) (.slice o3 m c3)) = C1 := ⟨_, rfl⟩
 have I1 : (Tryz.prog.info? 40).map (·.size) = some C1.size := by rw [← hC1]; exact infoS
 have Z1 : zeroSt.size = C1.size := by rw [← hC1]; rfl
 have O1 : (C1.all fun x => x.oneCell') = true := by rw [← hC1]; exact cellsS_one o1 o3 n m c1 c3 _ _ _ _
 have S1 : C1.size = 22 := by rw [← hC1]; rfl
 obtain ⟨w2, hw2⟩ : ∃ w2, w1.alloc (.cells C1 40) = w2 := ⟨_, rfl⟩
 have hb2 : Below w0.heap.size w0 w2 := by rw [← hw2]; exact hb1.alloc (by omega) _
 have hb12 : Below w1.heap.size w1 w2 := by rw [← hw2]; exact (Below.refl _ w1).alloc (Nat.le_refl _) _
 have hk6 : Blk w2 w1.heap.size 40 C1 := by rw [← hw2]; exact Blk.new _ _ _
 have hs2 : w2.heap.size = w1.heap.size + 1 := by rw [← hw2]; simp
 have hO1w := hO1.below hb12
 have hO2w := hO2.below hb12
 rw [hC1]
 have HI1 := Lib.hid I1
 have HZ1 := Lib.hid Z1
 have HO1 := Lib.hid O1
 have HS1 := Lib.hid S1
 have HW2 := Lib.hid hw2
 have HC1 := Lib.hid hC1
 have HALL : Hid (∀ W, Below w2.heap.size w2 W → Blk W w.heap.size 40 (cellsS (.slice oa n ca) (f 0) (f 1) (f 2) (f 3) (.slice ob m cb)) ∧ Blk W (w.heap.size + 1) 61 #[.int .i64 rc, .int .i64 rq, .string rl, .string rk, .string rv] ∧ Blk W (w.heap.size + 1 + 1) 40 zeroSt ∧ Blk W (w.heap.size + 1 + 1 + 1) 34 #[.int .i64 0, .int .i64 0, .int .i64 0] ∧ Blk W w1.heap.size 40 C1 ∧
  OwnG reqK W w0.heap.size (.slice o1 n c1) tk ∧ OwnG hdK W B2 (.slice o3 m c3) hd ∧ Below w.heap.size w W) := Lib.hid fun W hW =>
  ⟨(HK0.out.below hb2 HK0.out.lt).below hW (by omega), (HK1.out.below hb2 HK1.out.lt).below hW (by omega), (HK2.out.below hb2 HK2.out.lt).below hW (by omega), (HK3.out.below hb2 HK3.out.lt).below hW (by omega), hk6.below hW (by omega), hO1w.below hW, hO2w.below hW, HB0.out.trans ((hb2.trans (hW.mono (by omega))).mono HB0.out.size)⟩
 have HNO : Hid (∀ (y : Rep), AW = (tk, rp, y) → ∀ (w' : World), OwnG reqK w' w0.heap.size (.slice o1 n c1) tk → OwnG hdK w' B2 (.slice o3 m c3) hd → Below w.heap.size w w' → PO (.returned (.tuple #[.agg C1, .agg #[.int .i64 y.e, .int .i64 y.i, .int .i64 y.h]])) w') := Lib.hid fun y hy w' h1 h2 h3 => by
  rw [← HC1.out]
  exact HNO2.out y hy _ _ B2 w' (h1.mono HB0.out.size) h2 (by have := HB0.out.size; omega) h3
 have l1 := req_load5 (HALL.out w2 (Below.refl _ _)).2.1
 clear hw2 hC1 HNO2 I1 Z1 O1 S1 hk6 HK0 HK1 HK2 HK3 hO1 hO2 hO1w hO2w hb12 HW0 l0 HCP
 generalize hg6 : w1.heap.size = g6 at *
 go_wp2_with (first
  | (refine wpList_store_row rfl 40 _ _ rfl w1.heap.size C1 rfl rfl 40 zeroSt (Blk.new _ _ _) HI1.out HZ1.out HO1.out ?_; rw [World.setRow_alloc_new, HW2.out])
  | (refine wpList_store_row rfl 40 _ _ rfl g6 C1 rfl rfl 40 zeroSt (Blk.new_at hg6.symm) HI1.out HZ1.out HO1.out ?_; rw [← hg6, World.setRow_alloc_new, HW2.out]))
 have HASK0 : Hid (RQ = false → AW = (tk, rp, ⟨1, 0, 0⟩)) := Lib.hid fun h => by rw [HASK.out, if_pos h]
 have HASK1 : Hid (RQ = true → AW = if LL.q = rq then (tk, rp, LL.r)
  else if rq < LL.q then (tk, rp, ⟨7, 0, 0⟩)
  else if LL.n = 20 then (tk, rp, ⟨6, 0, 0⟩)
  else if (n : Int) = 64 then (tk, rp, ⟨10, 0, 0⟩)
  else (tk ++ [⟨rc, rq, rl, rk, rv⟩], rp ++ [⟨0, tk.length, (hd.length : Int) + 1⟩], ⟨0, tk.length, (hd.length : Int) + 1⟩)) := Lib.hid fun h => by
  rw [HASK.out, if_neg (by rw [h]; decide)]
  simp only [HN.out, show ((n : Int) = 64) = (n = 64) from propext ⟨fun h => by omega, fun h => by omega⟩]
 clear HASK
 refine (HRI.out w2).mono ?_
 rintro e w3 ⟨rfl, hb3⟩
 clear l1 HRI
 cases RQ with
 | false =>
  obtain ⟨q0, q1, q2, q3, q6, qa, qb, qB⟩ := HALL.out w3 hb3
  have l6 := st_load HS1.out q6
  have HQ2 := Lib.hid q2
  have HQ3 := Lib.hid q3
  have HQa := Lib.hid qa
  have HQb := Lib.hid qb
  have HQB := Lib.hid qB
  have hg0 : w.heap.size + 1 + 1 + 1 < w3.heap.size := q3.lt
  clear q0 q1 q2 q3 q6 qa qb qB
  go_wp2_with (first
   | (refine wpList_store_row rfl 40 _ _ rfl (w.heap.size + 1 + 1) C1 rfl rfl 40 zeroSt HQ2.out HI1.out HZ1.out HO1.out ?_)
   | (refine wpList_store_row rfl 34 _ _ rfl (w.heap.size + 1 + 1 + 1) #[.int .i64 1, .int .i64 0, .int .i64 0] rfl rfl 34 #[.int .i64 0, .int .i64 0, .int .i64 0] (HQ3.out.setRow (by omega) C1) info3 rfl (rep_one _ _ _) ?_))
  have n4 : Blk ((w3.setRow (w.heap.size + 1 + 1) C1).setRow (w.heap.size + 1 + 1 + 1) #[.int .i64 1, .int .i64 0, .int .i64 0]) (w.heap.size + 1 + 1) 40 C1 := Blk.setRow (setRow_heap w3 _ zeroSt C1 40 (0, 0) HQ2.out) (by omega) _
  have n5 : Blk ((w3.setRow (w.heap.size + 1 + 1) C1).setRow (w.heap.size + 1 + 1 + 1) #[.int .i64 1, .int .i64 0, .int .i64 0]) (w.heap.size + 1 + 1 + 1) 34 #[.int .i64 1, .int .i64 0, .int .i64 0] := setRow_heap _ _ #[.int .i64 0, .int .i64 0, .int .i64 0] #[.int .i64 1, .int .i64 0, .int .i64 0] 34 (0, 0) (HQ3.out.setRow (by omega) C1)
  have g4 : w3.grownBy (w3.setRow (w.heap.size + 1 + 1) C1) (some (w.heap.size + 1 + 1)) := only_setRow (grown_refl _ _) _
  have g5 : (w3.setRow (w.heap.size + 1 + 1) C1).grownBy ((w3.setRow (w.heap.size + 1 + 1) C1).setRow (w.heap.size + 1 + 1 + 1) #[.int .i64 1, .int .i64 0, .int .i64 0]) (some (w.heap.size + 1 + 1 + 1)) := only_setRow (grown_refl _ _) _
  refine bodyPost_ret (results_row_row rfl _ _ (w.heap.size + 1 + 1) (w.heap.size + 1 + 1 + 1) 40 34 C1 #[.int .i64 1, .int .i64 0, .int .i64 0] _ _ rfl n4 rfl n5 Tryz.underlying40 rfl HI1.out Tryz.underlying34 rfl (by kernel_rfl)) rfl ?_
  refine HNO.out ⟨1, 0, 0⟩ (HASK0.out (by first | trivial | rfl)) _ ((HQa.out.grown g4 (apart HQa.out (by omega))).grown g5 (apart (HQa.out.grown g4 (apart HQa.out (by omega))) (by omega))) ((HQb.out.grown g4 (apart HQb.out (by omega))).grown g5 (apart (HQb.out.grown g4 (apart HQb.out (by omega))) (by omega))) ?_
  exact (HQB.out.grown g4 HQB.out.size (fun k hk => by injection hk; omega)).grown g5 (by have := HQB.out.size; simp; omega) (fun k hk => by injection hk; omega)
 | true =>
  have HASK := Lib.hid (HASK1.out (by first | trivial | rfl))
  obtain ⟨k, rfl, hk4⟩ := HRQ.out (by first | trivial | rfl)
  have hL := HFK.out k rfl
  subst hL
  have hk4' : (k : Int) < 4 := by omega
  obtain ⟨q0, q1, q2, q3, q6, qa, qb, qB⟩ := HALL.out w3 hb3
  have d1 := num_load (q1.cell 0)
  change (loadVar 3 ⟨w.heap.size + 1, 0, none⟩).run Tryz.prog w3 = .ok (.int .i64 (k : Int)) w3 at d1
  have d2 := last_load hk4 q0
  obtain ⟨Lq, hLq⟩ : ∃ x, (f k).q = x := ⟨_, rfl⟩
  obtain ⟨Ln, hLn⟩ : ∃ x, (f k).n = x := ⟨_, rfl⟩
  obtain ⟨⟨Le, Li, Lh⟩, hLr⟩ : ∃ x : Rep, (f k).r = x := ⟨_, rfl⟩
  have hL5 : (f k).enc.toArray = #[.int .i64 Lq, .int .i64 Ln, .int .i64 Le, .int .i64 Li, .int .i64 Lh] := by unfold Lst.enc; rw [hLq, hLn, hLr]
  rw [hL5] at d2
  rw [hLq, hLn, hLr] at HASK
  rw [hLn] at HCNT HLN0
  have HLN := Lib.hid hLn
  clear q0 q1 q2 q3 q6 qa qb qB HASK0 HASK1 HRQ HFK hL5 hLq hLn hLr
  obtain ⟨w4, hw4⟩ : ∃ w4, w3.alloc (.cells #[.int .i64 Lq, .int .i64 Ln, .int .i64 Le, .int .i64 Li, .int .i64 Lh] 36) = w4 := ⟨_, rfl⟩
  have hb34 : Below w3.heap.size w3 w4 := by rw [← hw4]; exact (Below.refl _ w3).alloc (Nat.le_refl _) _
  have hb4 : Below w2.heap.size w2 w4 := hb3.trans (hb34.mono hb3.size)
  have k7 : Blk w4 w3.heap.size 36 #[.int .i64 Lq, .int .i64 Ln, .int .i64 Le, .int .i64 Li, .int .i64 Lh] := by rw [← hw4]; exact Blk.new _ _ _
  have HW4 := Lib.hid hw4
  have hzl : ∀ W : World, (zeroValue 36).run Tryz.prog W = .ok (.agg #[.int .i64 0, .int .i64 0, .int .i64 0, .int .i64 0, .int .i64 0]) W := fun W => by kernel_rfl
  obtain ⟨g7, hg7⟩ : ∃ g7, w3.heap.size = g7 := ⟨_, rfl⟩
  rw [hg7] at k7
  have hs37 : w2.heap.size ≤ g7 := by rw [← hg7]; exact hb3.size
  have HG7 := Lib.hid hg7
  have HB4 := Lib.hid hb4
  have HK7 := Lib.hid k7
  have f1 := num_load (k7.cell 0)
  change (loadVar 3 ⟨g7, 0, none⟩).run Tryz.prog w4 = .ok (.int .i64 Lq) w4 at f1
  have f2 := num_load ((HALL.out w4 hb4).2.1.cell 1)
  change (loadVar 3 ⟨w.heap.size + 1, 1, none⟩).run Tryz.prog w4 = .ok (.int .i64 rq) w4 at f2
  clear hw4 hb34 hb4 k7
  by_cases hq : Lq = rq
  · have hq' : (rq == Lq) = true := by rw [beq_iff_eq]; exact hq.symm
    rw [if_pos hq] at HASK
    clear hq hg7
    go_wp2_with (rw [HW4.out, HG7.out])
    have hlt6 := (HALL.out w4 HB4.out).2.2.2.2.1.lt
    have HKS : Hid (∀ W, Blk W g6 40 C1 → Blk W g7 36 #[.int .i64 Lq, .int .i64 Ln, .int .i64 Le, .int .i64 Li, .int .i64 Lh] → (loadVar 40 ⟨g6, 0, none⟩).run Tryz.prog W = .ok (.agg C1) W ∧ (loadVar 34 ⟨g7, 2, none⟩).run Tryz.prog W = .ok (.agg #[.int .i64 Le, .int .i64 Li, .int .i64 Lh]) W) := Lib.hid fun W h1 h2 => ⟨st_load HS1.out h1, rep_mid h2⟩
    have hbe : Below w2.heap.size w2 w4.drew := HB4.out.drew
    have HQX := Lib.hid (HK7.out.drew)
    obtain ⟨q0, q1, q2, q3, q6, qa, qb, qB⟩ := HALL.out w4.drew hbe
    generalize hwe : w4.drew = we at *
    have HQ2 := Lib.hid q2
    have HQ3 := Lib.hid q3
    have HQa := Lib.hid qa
    have HQb := Lib.hid qb
    have HQB := Lib.hid qB
    have HQ6 := Lib.hid q6
    have hg0 : w.heap.size + 1 + 1 + 1 < we.heap.size := q3.lt
    clear q0 q1 q2 q3 q6 qa qb qB
    refine wp_region_held_drew (S := fun W => (loadVar 40 ⟨g6, 0, none⟩).run Tryz.prog W = .ok (.agg C1) W ∧ (loadVar 34 ⟨g7, 2, none⟩).run Tryz.prog W = .ok (.agg #[.int .i64 Le, .int .i64 Li, .int .i64 Lh]) W) (by kernel_rfl) ?_ (fun hHeld0 => ?_)
    · rw [hwe]; exact HKS.out _ HQ6.out HQX.out
    rw [hwe] at hHeld0 ⊢
    clear hwe
    iterate 3 (apply tkF [0, 1, 2] rfl rfl (by kernel_rfl) (fun _ _ _ h => h) (by rfl); (case hy => (intro w hSw; (try dsimp only at hSw); go_simp; try with_reducible rfl)); (case hS => assumption); (try simp only [Act.put, List.setIfInBounds_toArray, List.set_cons_zero, List.set_cons_succ]))
    refine doH (i := 3) rfl (by kernel_rfl) (by rfl) (fun K hK => ?_)
    refine wp_store_row 40 _ _ rfl (w.heap.size + 1 + 1) C1 rfl rfl 40 zeroSt HQ2.out HI1.out HZ1.out HO1.out ?_
    refine hK.out _ _ (HKS.out _ (HQ6.out.setRow (by omega) _) (HQX.out.setRow (by omega) _)) (fun hHeld1 => ?_)
    clear hK K hHeld0
    (try simp only [Act.put])
    refine doH (i := 4) rfl (by kernel_rfl) (by rfl) (fun K hK => ?_)
    refine wp_store_row 34 _ _ rfl (w.heap.size + 1 + 1 + 1) #[.int .i64 Le, .int .i64 Li, .int .i64 Lh] rfl rfl 34 #[.int .i64 0, .int .i64 0, .int .i64 0] (HQ3.out.setRow (by omega) C1) info3 rfl (rep_one _ _ _) ?_
    refine hK.out _ _ (HKS.out _ ((HQ6.out.setRow (by omega) _).setRow (by omega) _) ((HQX.out.setRow (by omega) _).setRow (by omega) _)) (fun hHeld2 => ?_)
    clear hK K hHeld1
    (try simp only [Act.put])
    refine wpAnyH_done (by kernel_rfl) ?_ _
    go_wp2_with fail
    have n4 : Blk ((we.setRow (w.heap.size + 1 + 1) C1).setRow (w.heap.size + 1 + 1 + 1) #[.int .i64 Le, .int .i64 Li, .int .i64 Lh]) (w.heap.size + 1 + 1) 40 C1 := Blk.setRow (setRow_heap we _ zeroSt C1 40 (0, 0) HQ2.out) (by omega) _
    have n5 : Blk ((we.setRow (w.heap.size + 1 + 1) C1).setRow (w.heap.size + 1 + 1 + 1) #[.int .i64 Le, .int .i64 Li, .int .i64 Lh]) (w.heap.size + 1 + 1 + 1) 34 #[.int .i64 Le, .int .i64 Li, .int .i64 Lh] := setRow_heap _ _ #[.int .i64 0, .int .i64 0, .int .i64 0] #[.int .i64 Le, .int .i64 Li, .int .i64 Lh] 34 (0, 0) (HQ3.out.setRow (by omega) C1)
    have g4 : we.grownBy (we.setRow (w.heap.size + 1 + 1) C1) (some (w.heap.size + 1 + 1)) := only_setRow (grown_refl _ _) _
    have g5 : (we.setRow (w.heap.size + 1 + 1) C1).grownBy ((we.setRow (w.heap.size + 1 + 1) C1).setRow (w.heap.size + 1 + 1 + 1) #[.int .i64 Le, .int .i64 Li, .int .i64 Lh]) (some (w.heap.size + 1 + 1 + 1)) := only_setRow (grown_refl _ _) _
    refine bodyPost_ret (results_row_row rfl _ _ (w.heap.size + 1 + 1) (w.heap.size + 1 + 1 + 1) 40 34 C1 #[.int .i64 Le, .int .i64 Li, .int .i64 Lh] _ _ rfl n4 rfl n5 Tryz.underlying40 rfl HI1.out Tryz.underlying34 rfl (by kernel_rfl)) rfl ?_
    refine HNO.out ⟨Le, Li, Lh⟩ HASK.out _ ((HQa.out.grown g4 (apart HQa.out (by omega))).grown g5 (apart (HQa.out.grown g4 (apart HQa.out (by omega))) (by omega))) ((HQb.out.grown g4 (apart HQb.out (by omega))).grown g5 (apart (HQb.out.grown g4 (apart HQb.out (by omega))) (by omega))) ?_
    exact (HQB.out.grown g4 HQB.out.size (fun k hk => by injection hk; omega)).grown g5 (by have := HQB.out.size; simp; omega) (fun k hk => by injection hk; omega)
  · have hq' : (rq == Lq) = false := by rw [beq_eq_false_iff_ne]; exact fun e => hq e.symm
    rw [if_neg hq] at HASK
    clear hq hg7
    have f3 := num_load (HK7.out.cell 1)
    change (loadVar 3 ⟨g7, 1, none⟩).run Tryz.prog w4 = .ok (.int .i64 Ln) w4 at f3
    have f4 := sl_req ((HALL.out w4 HB4.out).1.cell 0)
    change (loadVar 31 ⟨w.heap.size, 0, none⟩).run Tryz.prog w4 = .ok (.slice oa n ca) w4 at f4
    have f5 := sl_hd ((HALL.out w4 HB4.out).1.cell 21)
    change (loadVar 38 ⟨w.heap.size, 21, none⟩).run Tryz.prog w4 = .ok (.slice ob m cb) w4 at f5
    have f6 := st_load HS1.out (HALL.out w4 HB4.out).2.2.2.2.1
    have hcnt := HCNT.out
    by_cases hl : rq < Lq
    · rw [if_pos hl] at HASK
      obtain ⟨q0, q1, q2, q3, q6, qa, qb, qB⟩ := HALL.out w4 HB4.out
      have HQ2 := Lib.hid q2
      have HQ3 := Lib.hid q3
      have HQa := Lib.hid qa
      have HQb := Lib.hid qb
      have HQB := Lib.hid qB
      have hg0 : w.heap.size + 1 + 1 + 1 < w4.heap.size := q3.lt
      clear q0 q1 q2 q3 q6 qa qb qB
      go_wp2_with (first
       | rw [HW4.out, HG7.out]
       | (refine wpList_store_row rfl 40 _ _ rfl (w.heap.size + 1 + 1) C1 rfl rfl 40 zeroSt HQ2.out HI1.out HZ1.out HO1.out ?_)
       | (refine wpList_store_row rfl 34 _ _ rfl (w.heap.size + 1 + 1 + 1) #[.int .i64 7, .int .i64 0, .int .i64 0] rfl rfl 34 #[.int .i64 0, .int .i64 0, .int .i64 0] (HQ3.out.setRow (by omega) C1) info3 rfl (rep_one _ _ _) ?_))
      have n4 : Blk ((w4.setRow (w.heap.size + 1 + 1) C1).setRow (w.heap.size + 1 + 1 + 1) #[.int .i64 7, .int .i64 0, .int .i64 0]) (w.heap.size + 1 + 1) 40 C1 := Blk.setRow (setRow_heap w4 _ zeroSt C1 40 (0, 0) HQ2.out) (by omega) _
      have n5 : Blk ((w4.setRow (w.heap.size + 1 + 1) C1).setRow (w.heap.size + 1 + 1 + 1) #[.int .i64 7, .int .i64 0, .int .i64 0]) (w.heap.size + 1 + 1 + 1) 34 #[.int .i64 7, .int .i64 0, .int .i64 0] := setRow_heap _ _ #[.int .i64 0, .int .i64 0, .int .i64 0] #[.int .i64 7, .int .i64 0, .int .i64 0] 34 (0, 0) (HQ3.out.setRow (by omega) C1)
      have g4 : w4.grownBy (w4.setRow (w.heap.size + 1 + 1) C1) (some (w.heap.size + 1 + 1)) := only_setRow (grown_refl _ _) _
      have g5 : (w4.setRow (w.heap.size + 1 + 1) C1).grownBy ((w4.setRow (w.heap.size + 1 + 1) C1).setRow (w.heap.size + 1 + 1 + 1) #[.int .i64 7, .int .i64 0, .int .i64 0]) (some (w.heap.size + 1 + 1 + 1)) := only_setRow (grown_refl _ _) _
      refine bodyPost_ret (results_row_row rfl _ _ (w.heap.size + 1 + 1) (w.heap.size + 1 + 1 + 1) 40 34 C1 #[.int .i64 7, .int .i64 0, .int .i64 0] _ _ rfl n4 rfl n5 Tryz.underlying40 rfl HI1.out Tryz.underlying34 rfl (by kernel_rfl)) rfl ?_
      refine HNO.out ⟨7, 0, 0⟩ HASK.out _ ((HQa.out.grown g4 (apart HQa.out (by omega))).grown g5 (apart (HQa.out.grown g4 (apart HQa.out (by omega))) (by omega))) ((HQb.out.grown g4 (apart HQb.out (by omega))).grown g5 (apart (HQb.out.grown g4 (apart HQb.out (by omega))) (by omega))) ?_
      exact (HQB.out.grown g4 HQB.out.size (fun k hk => by injection hk; omega)).grown g5 (by have := HQB.out.size; simp; omega) (fun k hk => by injection hk; omega)
    · rw [if_neg hl] at HASK
      by_cases h20 : Ln = 20
      · rw [if_pos h20] at HASK
        have h20' : (20 : Int) ≤ Ln := by omega
        clear h20
        obtain ⟨q0, q1, q2, q3, q6, qa, qb, qB⟩ := HALL.out w4 HB4.out
        have HQ2 := Lib.hid q2
        have HQ3 := Lib.hid q3
        have HQa := Lib.hid qa
        have HQb := Lib.hid qb
        have HQB := Lib.hid qB
        have hg0 : w.heap.size + 1 + 1 + 1 < w4.heap.size := q3.lt
        clear q0 q1 q2 q3 q6 qa qb qB
        go_wp2_with (first
         | rw [HW4.out, HG7.out]
         | (refine wpList_store_row rfl 40 _ _ rfl (w.heap.size + 1 + 1) C1 rfl rfl 40 zeroSt HQ2.out HI1.out HZ1.out HO1.out ?_)
         | (refine wpList_store_row rfl 34 _ _ rfl (w.heap.size + 1 + 1 + 1) #[.int .i64 6, .int .i64 0, .int .i64 0] rfl rfl 34 #[.int .i64 0, .int .i64 0, .int .i64 0] (HQ3.out.setRow (by omega) C1) info3 rfl (rep_one _ _ _) ?_))
        have n4 : Blk ((w4.setRow (w.heap.size + 1 + 1) C1).setRow (w.heap.size + 1 + 1 + 1) #[.int .i64 6, .int .i64 0, .int .i64 0]) (w.heap.size + 1 + 1) 40 C1 := Blk.setRow (setRow_heap w4 _ zeroSt C1 40 (0, 0) HQ2.out) (by omega) _
        have n5 : Blk ((w4.setRow (w.heap.size + 1 + 1) C1).setRow (w.heap.size + 1 + 1 + 1) #[.int .i64 6, .int .i64 0, .int .i64 0]) (w.heap.size + 1 + 1 + 1) 34 #[.int .i64 6, .int .i64 0, .int .i64 0] := setRow_heap _ _ #[.int .i64 0, .int .i64 0, .int .i64 0] #[.int .i64 6, .int .i64 0, .int .i64 0] 34 (0, 0) (HQ3.out.setRow (by omega) C1)
        have g4 : w4.grownBy (w4.setRow (w.heap.size + 1 + 1) C1) (some (w.heap.size + 1 + 1)) := only_setRow (grown_refl _ _) _
        have g5 : (w4.setRow (w.heap.size + 1 + 1) C1).grownBy ((w4.setRow (w.heap.size + 1 + 1) C1).setRow (w.heap.size + 1 + 1 + 1) #[.int .i64 6, .int .i64 0, .int .i64 0]) (some (w.heap.size + 1 + 1 + 1)) := only_setRow (grown_refl _ _) _
        refine bodyPost_ret (results_row_row rfl _ _ (w.heap.size + 1 + 1) (w.heap.size + 1 + 1 + 1) 40 34 C1 #[.int .i64 6, .int .i64 0, .int .i64 0] _ _ rfl n4 rfl n5 Tryz.underlying40 rfl HI1.out Tryz.underlying34 rfl (by kernel_rfl)) rfl ?_
        refine HNO.out ⟨6, 0, 0⟩ HASK.out _ ((HQa.out.grown g4 (apart HQa.out (by omega))).grown g5 (apart (HQa.out.grown g4 (apart HQa.out (by omega))) (by omega))) ((HQb.out.grown g4 (apart HQb.out (by omega))).grown g5 (apart (HQb.out.grown g4 (apart HQb.out (by omega))) (by omega))) ?_
        exact (HQB.out.grown g4 HQB.out.size (fun k hk => by injection hk; omega)).grown g5 (by have := HQB.out.size; simp; omega) (fun k hk => by injection hk; omega)
      · rw [if_neg h20] at HASK
        have h20' : ¬ (20 : Int) ≤ Ln := by omega
        clear h20
        by_cases h64 : (n : Int) = 64
        · rw [if_pos h64] at HASK
          have h64' : (64 : Int) ≤ (n : Int) := by omega
          clear h64
          obtain ⟨q0, q1, q2, q3, q6, qa, qb, qB⟩ := HALL.out w4 HB4.out
          have HQ2 := Lib.hid q2
          have HQ3 := Lib.hid q3
          have HQa := Lib.hid qa
          have HQb := Lib.hid qb
          have HQB := Lib.hid qB
          have hg0 : w.heap.size + 1 + 1 + 1 < w4.heap.size := q3.lt
          clear q0 q1 q2 q3 q6 qa qb qB
          go_wp2_with (first
           | rw [HW4.out, HG7.out]
           | (refine wpList_store_row rfl 40 _ _ rfl (w.heap.size + 1 + 1) C1 rfl rfl 40 zeroSt HQ2.out HI1.out HZ1.out HO1.out ?_)
           | (refine wpList_store_row rfl 34 _ _ rfl (w.heap.size + 1 + 1 + 1) #[.int .i64 10, .int .i64 0, .int .i64 0] rfl rfl 34 #[.int .i64 0, .int .i64 0, .int .i64 0] (HQ3.out.setRow (by omega) C1) info3 rfl (rep_one _ _ _) ?_))
          have n4 : Blk ((w4.setRow (w.heap.size + 1 + 1) C1).setRow (w.heap.size + 1 + 1 + 1) #[.int .i64 10, .int .i64 0, .int .i64 0]) (w.heap.size + 1 + 1) 40 C1 := Blk.setRow (setRow_heap w4 _ zeroSt C1 40 (0, 0) HQ2.out) (by omega) _
          have n5 : Blk ((w4.setRow (w.heap.size + 1 + 1) C1).setRow (w.heap.size + 1 + 1 + 1) #[.int .i64 10, .int .i64 0, .int .i64 0]) (w.heap.size + 1 + 1 + 1) 34 #[.int .i64 10, .int .i64 0, .int .i64 0] := setRow_heap _ _ #[.int .i64 0, .int .i64 0, .int .i64 0] #[.int .i64 10, .int .i64 0, .int .i64 0] 34 (0, 0) (HQ3.out.setRow (by omega) C1)
          have g4 : w4.grownBy (w4.setRow (w.heap.size + 1 + 1) C1) (some (w.heap.size + 1 + 1)) := only_setRow (grown_refl _ _) _
          have g5 : (w4.setRow (w.heap.size + 1 + 1) C1).grownBy ((w4.setRow (w.heap.size + 1 + 1) C1).setRow (w.heap.size + 1 + 1 + 1) #[.int .i64 10, .int .i64 0, .int .i64 0]) (some (w.heap.size + 1 + 1 + 1)) := only_setRow (grown_refl _ _) _
          refine bodyPost_ret (results_row_row rfl _ _ (w.heap.size + 1 + 1) (w.heap.size + 1 + 1 + 1) 40 34 C1 #[.int .i64 10, .int .i64 0, .int .i64 0] _ _ rfl n4 rfl n5 Tryz.underlying40 rfl HI1.out Tryz.underlying34 rfl (by kernel_rfl)) rfl ?_
          refine HNO.out ⟨10, 0, 0⟩ HASK.out _ ((HQa.out.grown g4 (apart HQa.out (by omega))).grown g5 (apart (HQa.out.grown g4 (apart HQa.out (by omega))) (by omega))) ((HQb.out.grown g4 (apart HQb.out (by omega))).grown g5 (apart (HQb.out.grown g4 (apart HQb.out (by omega))) (by omega))) ?_
          exact (HQB.out.grown g4 HQB.out.size (fun k hk => by injection hk; omega)).grown g5 (by have := HQB.out.size; simp; omega) (fun k hk => by injection hk; omega)
        · rw [if_neg h64] at HASK
          have h64' : ¬ (64 : Int) ≤ (n : Int) := by omega
          clear h64
          have e5 : IntKind.i64.wrap ((m : Int) + 1) = (m : Int) + 1 := by rw [IntKind.wrap_i64]; omega
          have e6 : IntKind.i64.wrap (Ln + 1) = Ln + 1 := by rw [IntKind.wrap_i64]; have := HLN0.out; omega
          obtain ⟨w5, hw5⟩ : ∃ w5, w4.alloc (.cells #[.int .i64 0, .int .i64 n, .int .i64 ((m : Int) + 1)] 34) = w5 := ⟨_, rfl⟩
          have hb45 : Below w4.heap.size w4 w5 := by rw [← hw5]; exact (Below.refl _ w4).alloc (Nat.le_refl _) _
          have hb5 : Below w2.heap.size w2 w5 := HB4.out.trans (hb45.mono HB4.out.size)
          have k8 : Blk w5 w4.heap.size 34 #[.int .i64 0, .int .i64 n, .int .i64 ((m : Int) + 1)] := by rw [← hw5]; exact Blk.new _ _ _
          have k75 := HK7.out.below hb45 HK7.out.lt
          have hg78 := HK7.out.lt
          obtain ⟨g8, hg8⟩ : ∃ g8, w4.heap.size = g8 := ⟨_, rfl⟩
          rw [hg8] at k8 hg78
          have HW5 := Lib.hid hw5
          have HG8 := Lib.hid hg8
          obtain ⟨q0, q1, q2, q3, q6, qa, qb, qB⟩ := HALL.out w5 hb5
          have l6 := sl_req (w := w5) (p := ⟨g6, 0, none⟩) (by rw [← HC1.out] at q6; exact q6.cell 0)
          change (loadVar 31 ⟨g6, 0, none⟩).run Tryz.prog w5 = .ok (.slice o1 n c1) w5 at l6
          have l7 := req_load5 q1
          have hg68 : g6 < w2.heap.size := by omega
          have hg3 : w.heap.size + 1 + 1 + 1 < g6 := by omega
          have HQ1 := Lib.hid q1
          have HQ2 := Lib.hid q2
          have HQ3 := Lib.hid q3
          have HQ6 := Lib.hid q6
          have HQa := Lib.hid qa
          have HQb := Lib.hid qb
          have HQB := Lib.hid qB
          have HK8 := Lib.hid k8
          have HK75 := Lib.hid k75
          have hbA : Below w5.heap.size w5 (w5.alloc (.cells #[.int .i64 (k : Int), .int .i64 rq, .string rl, .string rk, .string rv] 61)) := (Below.refl _ w5).alloc (Nat.le_refl _) _
          have hRN := rowG_new reqOk w5 (⟨(k : Int), rq, rl, rk, rv⟩ : Req)
          change RowG _ (w5.alloc (.cells #[.int .i64 (k : Int), .int .i64 rq, .string rl, .string rk, .string rv] 61)) _ _ at hRN
          obtain ⟨w6, hw6⟩ : ∃ w6, w5.alloc (.cells #[.int .i64 (k : Int), .int .i64 rq, .string rl, .string rk, .string rv] 61) = w6 := ⟨_, rfl⟩
          rw [hw6] at hbA hRN
          have hqa6 := qa.below hbA
          have hle6 : w0.heap.size ≤ w6.heap.size := by have := hbA.size; have := q3.lt; have := hb5.size; have := hb1.size; omega
          obtain ⟨v7, w7, hr7, hO7, hg7'⟩ := append_g reqOk hqa6 (some ⟨w5.heap.size, 0, none⟩) 1 1 rfl hRN (fun h => absurd h (by decide)) (by rw [HN.out]; omega) hle6
          change (Builtin.append_ #[31, 31] 31 #[.slice o1 n c1, .slice (some ⟨w5.heap.size, 0, none⟩) 1 1]).run Tryz.prog w6 = .ok v7 w7 at hr7
          obtain ⟨o7, c7, rfl, _⟩ := hO7.form reqOk
          have hn7 : (tk ++ [(⟨(k : Int), rq, rl, rk, rv⟩ : Req)]).length = n + 1 := by rw [List.length_append, HN.out]; rfl
          rw [hn7] at hr7 hO7
          have HW6 := Lib.hid hw6
          have q1a := (q1.below hbA q1.lt).grown hg7' (ne_row (apart hqa6 (by have := HB4.out; omega)))
          have q2a := (q2.below hbA q2.lt).grown hg7' (ne_row (apart hqa6 (by omega)))
          have q3a := (q3.below hbA q3.lt).grown hg7' (ne_row (apart hqa6 (by omega)))
          have q6a := (q6.below hbA q6.lt).grown hg7' (ne_row (apartT hqa6 (q6.below hbA q6.lt) (by decide)))
          have k7a := (k75.below hbA k75.lt).grown hg7' (ne_row (apartT hqa6 (k75.below hbA k75.lt) (by decide)))
          have k8a := (k8.below hbA k8.lt).grown hg7' (ne_row (apartT hqa6 (k8.below hbA k8.lt) (by decide)))
          have qba := (qb.below hbA).grown hg7' (by
           cases h3 : (Value.slice o3 m c3).ownBlock with
           | none => exact .inl rfl
           | some r => exact .inr (fun e => by have h4 := (World.ownsRow.lt qb r h3).1; have h5 := hlt1 r e.symm; omega))
          have qBa := (qB.trans (hbA.mono qB.size)).grown hg7' (qB.trans (hbA.mono qB.size)).size (fun k hk => by have h4 := (World.ownsRow.lt hqa6 k hk).1; omega)
          have c8 : w7.cell? ⟨g6, 0, none⟩ = some (.slice o1 n c1) := by rw [← HC1.out] at q6a; exact q6a.cell 0
          have f8 := q6a.frozen 0
          obtain ⟨w8, hw8⟩ : ∃ w8, w7.setCell ⟨g6, 0, none⟩ (.slice o7 (n + 1) c7) = w8 := ⟨_, rfl⟩
          have hg8' : w7.grownBy w8 (some g6) := by rw [← hw8]; exact grownG_setCell w7 ⟨g6, 0, none⟩ _
          have q6b : Blk w8 g6 40 (cellsS (.slice o7 (n + 1) c7) (f 0) (f 1) (f 2) (f 3) (.slice o3 m c3)) := by
           rw [← hw8]
           rw [← HC1.out] at q6a
           exact q6a.set_ 0 (.slice o7 (n + 1) c7)
          have q1b := q1a.grown hg8' (by intro e; injection e; omega)
          have q2b := q2a.grown hg8' (by intro e; injection e; omega)
          have q3b := q3a.grown hg8' (by intro e; injection e; omega)
          have k7b := k7a.grown hg8' (by intro e; injection e; omega)
          have k8b := k8a.grown hg8' (by intro e; injection e; omega)
          have hO8 := hO7.grown hg8' (apartT hO7 q6a (by decide))
          have qbb := qba.grown hg8' (apartT qba q6a (by decide))
          have qBb := qBa.grown hg8' qBa.size (fun k hk => by injection hk; omega)
          clear q1a q2a q3a q6a k7a k8a qba qBa hO7 hqa6 hRN hg7' hg8' hbA
          have e1 := num_load (q1b.cell 0)
          have e2 := num_load (q1b.cell 1)
          have e3 := num_load (k7b.cell 1)
          change (loadVar 3 ⟨w.heap.size + 1, 0, none⟩).run Tryz.prog w8 = .ok (.int .i64 (k : Int)) w8 at e1
          change (loadVar 3 ⟨w.heap.size + 1, 1, none⟩).run Tryz.prog w8 = .ok (.int .i64 rq) w8 at e2
          change (loadVar 3 ⟨g7, 1, none⟩).run Tryz.prog w8 = .ok (.int .i64 Ln) w8 at e3
          have e4 := rep_load3 k8b
          have ht8 := Blk.thereLast hk4 q6b
          have q6c := Blk.setLast hk4 q6b ⟨rq, Ln + 1, ⟨0, n, (m : Int) + 1⟩⟩
          obtain ⟨w9, hw9⟩ : ∃ w9, w8.setCells g6 (1 + k * 5) (⟨rq, Ln + 1, ⟨0, n, (m : Int) + 1⟩⟩ : Lst).enc = w9 := ⟨_, rfl⟩
          have hg9' : w8.grownBy w9 (some g6) := by rw [← hw9]; exact grown_setCells _ _ _ _
          rw [hw9] at q6c
          have q1c := q1b.grown hg9' (by intro e; injection e; omega)
          have q2c := q2b.grown hg9' (by intro e; injection e; omega)
          have q3c := q3b.grown hg9' (by intro e; injection e; omega)
          have k7c := k7b.grown hg9' (by intro e; injection e; omega)
          have k8c := k8b.grown hg9' (by intro e; injection e; omega)
          have hO9 := hO8.grown hg9' (apartT hO8 q6b (by decide))
          have qbc := qbb.grown hg9' (apartT qbb q6b (by decide))
          have qBc := qBb.grown hg9' qBb.size (fun k hk => by injection hk; omega)
          obtain ⟨C2, hC2⟩ : ∃ C2, cellsS (.slice o7 (n + 1) c7) (updF f k ⟨rq, Ln + 1, ⟨0, n, (m : Int) + 1⟩⟩ 0) (updF f k ⟨rq, Ln + 1, ⟨0, n, (m : Int) + 1⟩⟩ 1) (updF f k ⟨rq, Ln + 1, ⟨0, n, (m : Int) + 1⟩⟩ 2) (updF f k ⟨rq, Ln + 1, ⟨0, n, (m : Int) + 1⟩⟩ 3) (.slice o3 m c3) = C2 := ⟨_, rfl⟩
          have HYS : Hid (∀ (y : Rep), y = ⟨0, n, (m : Int) + 1⟩ → ∀ (w' : World), OwnG reqK w' w0.heap.size (.slice o7 (n + 1) c7) (tk ++ [(⟨(k : Int), rq, rl, rk, rv⟩ : Req)]) → OwnG hdK w' B2 (.slice o3 m c3) hd → Below w.heap.size w w' → PO (.returned (.tuple #[.agg C2, .agg #[.int .i64 y.e, .int .i64 y.i, .int .i64 y.h]])) w') := Lib.hid fun y hy w' h1 h2 h3 => by
           rw [← hC2, hy]
           have key := HYES2.out k rfl hk4 HASK.out (.slice o7 (n + 1) c7) (.slice o3 m c3) B2 w' (h1.mono HB0.out.size) h2 (by have := HB0.out.size; omega) h3
           rw [HLN.out] at key
           exact key
          have HI2 : Hid ((Tryz.prog.info? 40).map (·.size) = some C2.size) := Lib.hid (by rw [← hC2]; exact infoS)
          have HZ2 : Hid (zeroSt.size = C2.size) := Lib.hid (by rw [← hC2]; rfl)
          have HO2 : Hid ((C2.all fun x => x.oneCell') = true) := Lib.hid (by rw [← hC2]; exact cellsS_one o7 o3 (n + 1) m c7 c3 _ _ _ _)
          have HS2 : Hid (C2.size = 22) := Lib.hid (by rw [← hC2]; rfl)
          have HKS : Hid (∀ W, Blk W g6 40 C2 → Blk W g8 34 #[.int .i64 0, .int .i64 n, .int .i64 ((m : Int) + 1)] → (loadVar 40 ⟨g6, 0, none⟩).run Tryz.prog W = .ok (.agg C2) W ∧ (loadVar 34 ⟨g8, 0, none⟩).run Tryz.prog W = .ok (.agg #[.int .i64 0, .int .i64 n, .int .i64 ((m : Int) + 1)]) W) := Lib.hid fun W h1 h2 => ⟨st_load HS2.out h1, rep_load3 h2⟩
          have HW8 := Lib.hid hw8
          have HW9 := Lib.hid hw9
          have HT8 := Lib.hid ht8
          have HALL2 : Hid (Blk w9 (w.heap.size + 1 + 1) 40 zeroSt ∧ Blk w9 (w.heap.size + 1 + 1 + 1) 34 #[.int .i64 0, .int .i64 0, .int .i64 0] ∧ Blk w9 g6 40 C2 ∧ OwnG reqK w9 w0.heap.size (.slice o7 (n + 1) c7) (tk ++ [(⟨(k : Int), rq, rl, rk, rv⟩ : Req)]) ∧ OwnG hdK w9 B2 (.slice o3 m c3) hd ∧ Below w.heap.size w w9) := Lib.hid ⟨q2c, q3c, hC2 ▸ q6c, hO9, qbc, qBc⟩
          have HK8c := Lib.hid k8c
          clear hC2 q1b q2b q3b q6b k7b k8b hO8 qbb qBb q1c q2c q3c q6c k7c k8c hO9 qbc qBc hw8 hw9 hg9' ht8
          clear q0 q1 q2 q3 q6 qa qb qB hw5 hb45 k8 k75 hg8 hw6
          go_wp2_with (first
           | rw [HW4.out, HG7.out]
           | rw [HW5.out, HG8.out]
           | (at_builtin; rw [HW6.out]; refine Lib.wpList_append_run _ rfl _ _ 31 31 rfl _ _ rfl rfl _ _ hr7 ?_)
           | rw [HW8.out]
           | (refine wpList_store_mid rfl 36 _ _ rfl g6 (1 + k * 5) #[.int .i64 rq, .int .i64 (Ln + 1), .int .i64 0, .int .i64 n, .int .i64 ((m : Int) + 1)] rfl rfl HT8.out (by kernel_rfl) (last_one _ _ _ _ _) ?_; rw [show w8.setCells g6 (1 + k * 5) (#[.int .i64 rq, .int .i64 (Ln + 1), .int .i64 0, .int .i64 n, .int .i64 ((m : Int) + 1)] : Array Value).toList = w9 from HW9.out]))
          go_wp2_with fail
          obtain ⟨q2, q3, q6, qa, qb, qB⟩ := HALL2.out
          obtain ⟨we, hwe⟩ : ∃ we, w9.drew = we := ⟨_, rfl⟩
          have hde : Below w9.heap.size w9 we := by rw [← hwe]; exact (Below.refl _ _).drew
          have HQ2e := Lib.hid (q2.below hde q2.lt)
          have HQ3e := Lib.hid (q3.below hde q3.lt)
          have HQ6e := Lib.hid (q6.below hde q6.lt)
          have HQae := Lib.hid (qa.below hde)
          have HQbe := Lib.hid (qb.below hde)
          have HQBe := Lib.hid (qB.trans (hde.mono qB.size))
          have HQXe := Lib.hid (HK8c.out.below hde HK8c.out.lt)
          have hg0 : w.heap.size + 1 + 1 + 1 < we.heap.size := HQ3e.out.lt
          clear HQ2 HQ3 HQ6 HQa HQb HQB q2 q3 q6 qa qb qB hde
          have HQ2 := HQ2e
          have HQ3 := HQ3e
          have HQ6 := HQ6e
          have HQa := HQae
          have HQb := HQbe
          have HQB := HQBe
          have HQX := HQXe
          refine wp_region_held_drew (S := fun W => (loadVar 40 ⟨g6, 0, none⟩).run Tryz.prog W = .ok (.agg C2) W ∧ (loadVar 34 ⟨g8, 0, none⟩).run Tryz.prog W = .ok (.agg #[.int .i64 0, .int .i64 n, .int .i64 ((m : Int) + 1)]) W) (by kernel_rfl) ?_ (fun hHeld0 => ?_)
          · rw [hwe]; exact HKS.out _ HQ6.out HQX.out
          rw [hwe] at hHeld0 ⊢
          clear hwe
          iterate 2 (apply tkF [0, 1] rfl rfl (by kernel_rfl) (fun _ _ _ h => h) (by rfl); (case hy => (intro w hSw; (try dsimp only at hSw); go_simp; try with_reducible rfl)); (case hS => assumption); (try simp only [Act.put, List.setIfInBounds_toArray, List.set_cons_zero, List.set_cons_succ]))
          refine doH (i := 2) rfl (by kernel_rfl) (by rfl) (fun K hK => ?_)
          refine wp_store_row 40 _ _ rfl (w.heap.size + 1 + 1) C2 rfl rfl 40 zeroSt HQ2.out HI2.out HZ2.out HO2.out ?_
          refine hK.out _ _ (HKS.out _ (HQ6.out.setRow (by omega) _) (HQX.out.setRow (by omega) _)) (fun hHeld1 => ?_)
          clear hK K hHeld0
          (try simp only [Act.put])
          refine doH (i := 3) rfl (by kernel_rfl) (by rfl) (fun K hK => ?_)
          refine wp_store_row 34 _ _ rfl (w.heap.size + 1 + 1 + 1) #[.int .i64 0, .int .i64 n, .int .i64 ((m : Int) + 1)] rfl rfl 34 #[.int .i64 0, .int .i64 0, .int .i64 0] (HQ3.out.setRow (by omega) C2) info3 rfl (rep_one _ _ _) ?_
          refine hK.out _ _ (HKS.out _ ((HQ6.out.setRow (by omega) _).setRow (by omega) _) ((HQX.out.setRow (by omega) _).setRow (by omega) _)) (fun hHeld2 => ?_)
          clear hK K hHeld1
          (try simp only [Act.put])
          refine wpAnyH_done (by kernel_rfl) ?_ _
          go_wp2_with fail
          have n4 : Blk ((we.setRow (w.heap.size + 1 + 1) C2).setRow (w.heap.size + 1 + 1 + 1) #[.int .i64 0, .int .i64 n, .int .i64 ((m : Int) + 1)]) (w.heap.size + 1 + 1) 40 C2 := Blk.setRow (setRow_heap we _ zeroSt C2 40 (0, 0) HQ2.out) (by omega) _
          have n5 : Blk ((we.setRow (w.heap.size + 1 + 1) C2).setRow (w.heap.size + 1 + 1 + 1) #[.int .i64 0, .int .i64 n, .int .i64 ((m : Int) + 1)]) (w.heap.size + 1 + 1 + 1) 34 #[.int .i64 0, .int .i64 n, .int .i64 ((m : Int) + 1)] := setRow_heap _ _ #[.int .i64 0, .int .i64 0, .int .i64 0] #[.int .i64 0, .int .i64 n, .int .i64 ((m : Int) + 1)] 34 (0, 0) (HQ3.out.setRow (by omega) C2)
          have g4 : we.grownBy (we.setRow (w.heap.size + 1 + 1) C2) (some (w.heap.size + 1 + 1)) := only_setRow (grown_refl _ _) _
          have g5 : (we.setRow (w.heap.size + 1 + 1) C2).grownBy ((we.setRow (w.heap.size + 1 + 1) C2).setRow (w.heap.size + 1 + 1 + 1) #[.int .i64 0, .int .i64 n, .int .i64 ((m : Int) + 1)]) (some (w.heap.size + 1 + 1 + 1)) := only_setRow (grown_refl _ _) _
          refine bodyPost_ret (results_row_row rfl _ _ (w.heap.size + 1 + 1) (w.heap.size + 1 + 1 + 1) 40 34 C2 #[.int .i64 0, .int .i64 n, .int .i64 ((m : Int) + 1)] _ _ rfl n4 rfl n5 Tryz.underlying40 rfl HI2.out Tryz.underlying34 rfl (by kernel_rfl)) rfl ?_
          refine HYS.out ⟨0, n, (m : Int) + 1⟩ rfl _ ((HQa.out.grown g4 (apart HQa.out (by omega))).grown g5 (apart (HQa.out.grown g4 (apart HQa.out (by omega))) (by omega))) ((HQb.out.grown g4 (apart HQb.out (by omega))).grown g5 (apart (HQb.out.grown g4 (apart HQb.out (by omega))) (by omega))) ?_
          exact (HQB.out.grown g4 HQB.out.size (fun k hk => by injection hk; omega)).grown g5 (by have := HQB.out.size; simp; omega) (fun k hk => by injection hk; omega)
end
end Go.Proofs.YtakgolbgeeoioaaGreat
