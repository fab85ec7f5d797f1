/-
 Reading on: what all readers of bytes have.
-/
import Derived.Test.YtakgolbgeeoioaaGreatWCut
namespace Go.Proofs.YtakgolbgeeoioaaGreat
open Go.RowKit

/-- a reader on its way: block g holds what is not read yet, block rb what was read, block R the result -/
structure RS (w wr : World) (t : TypeId) (g rb R : Nat) (s : ByteArray) (cs zs : Array Value) : Prop where
 cut : Cut wr g s
 blk : Blk wr rb t cs
 res : Blk wr R t zs
 below : Below w.heap.size w wr
 hg : w.heap.size ≤ g
 hb : w.heap.size ≤ rb
 hR : w.heap.size ≤ R
 n1 : rb ≠ g
 n2 : R ≠ g
 n3 : R ≠ rb
section
variable {w wr w' : World} {t : TypeId} {g rb R : Nat} {s s' : ByteArray} {cs zs : Array Value}
theorem RS.call (h : RS w wr t g rb R s cs zs) (hc : Cut w' g s') (hg : wr.grownBy w' (some g)) : RS w w' t g rb R s' cs zs :=
 ⟨hc, h.blk.grown hg (by intro e; injection e with e; exact h.n1 e), h.res.grown hg (by intro e; injection e with e; exact h.n2 e),
  h.below.grown hg h.below.size (fun k hk => by injection hk with hk; have := h.hg; omega), h.hg, h.hb, h.hR, h.n1, h.n2, h.n3⟩
theorem RS.store (h : RS w wr t g rb R s cs zs) (i : Nat) (u : Value) : RS w (wr.setCell ⟨rb, i, none⟩ u) t g rb R s (cs.setIfInBounds i u) zs :=
 ⟨Blk.far h.cut (fun e => h.n1 e.symm) u, h.blk.set_ i u, h.res.far (fun e => h.n3 e) u, h.below.setCell (p := ⟨rb, i, none⟩) h.hb u, h.hg, h.hb, h.hR, h.n1, h.n2, h.n3⟩
theorem RS.under (h : RS w wr t g rb R s cs zs) (hb : Below wr.heap.size wr w') : RS w w' t g rb R s cs zs :=
 ⟨h.cut.below hb, h.blk.below hb h.blk.lt, h.res.below hb h.res.lt, h.below.trans (hb.mono h.below.size), h.hg, h.hb, h.hR, h.n1, h.n2, h.n3⟩
end

def nF (s : ByteArray) : Nat := numV (cutF 4 s)
theorem cutNumber_any' (g : Nat) (s : ByteArray) (hs : s.size ≤ 9223372036854775807) (w : World) (h : Cut w g s) :
 Calls Tryz.prog 29 #[.func (.func 62) #[] #[.pointer (some ⟨g, 0, none⟩)]] w fun e w' => e = .returned (.int .i64 (nF s : Nat)) ∧ Cut w' g (cutR 4 s) ∧ w.grownBy w' (some g) := cutNumber_any g s hs w h

theorem results_cell_tmp {P : Program} {fn : Func} {p t : Tmp} {ty : TypeId} (h : fn.results = #[.cell p ty, .tmp t]) (tmps : Array Value) (w : World) (g : Nat) (tt : TypeId) (cs : Array Value) (d : TypeDesc)
 (hp : tmps.getD p undef = .pointer (some ⟨g, 0, none⟩)) (hg : Blk w g tt cs)
 (hu : P.underlying ty = some d) (hd : (match d with | .struct _ | .array _ _ => true | _ => false) = true) (hi : (P.info? ty).map (·.size) = some cs.size) :
 (results fn tmps).run P w = .ok (.tuple #[.agg cs, tmps.getD t undef]) w := by
 have hl := run_loadVar_row (P := P) w g tt ty cs (0, 0) d hg hu hd hi
 have hp' : tmps[p]?.getD undef = .pointer (some ⟨g, 0, none⟩) := by simpa using hp
 simp [results, h, hp', asAddr, hl]

end Go.Proofs.YtakgolbgeeoioaaGreat
