/-
 Slices of structs that lie in no block below a bound; results in memory; loads as equations.
-/
import Derived.Test.YtnbboabaihddbaaGreatWNumWReqYKind
namespace Go.Proofs.YtnbboabaihddbaaGreat
open Go.RowKit

/-- two results, a struct in memory and a value; two structs in memory -/
theorem results_row_tmp {P : Program} {fn : Func} {p t : Tmp} {ty : TypeId} (h : fn.results = #[.cell p ty, .tmp t]) (tmps : Array Value) (w : World) (g : Nat) (tt : TypeId) (cs : Array Value) (d : TypeDesc)
 (hp : tmps.getD p undef = .pointer (some ⟨g, 0, none⟩)) (hg : Blk w g tt cs)
 (hu : P.underlying ty = some d) (hd : (match d with | .struct _ | .array _ _ => true | _ => false) = true) (hi : (P.info? ty).map (·.size) = some cs.size) :
 (results fn tmps).run P w = .ok (.tuple #[.agg cs, tmps.getD t undef]) w := by
 have hl := run_loadVar_row (P := P) w g tt ty cs (0, 0) d hg hu hd hi
 have hp' : tmps[p]?.getD undef = .pointer (some ⟨g, 0, none⟩) := by simpa using hp
 simp [results, h, hp', asAddr, hl]
theorem results_row_row {P : Program} {fn : Func} {p q : Tmp} {ty ty2 : TypeId} (h : fn.results = #[.cell p ty, .cell q ty2]) (tmps : Array Value) (w : World) (g g2 : Nat) (tt tt2 : TypeId) (cs cs2 : Array Value) (d d2 : TypeDesc)
 (hp : tmps.getD p undef = .pointer (some ⟨g, 0, none⟩)) (hg : Blk w g tt cs) (hp2 : tmps.getD q undef = .pointer (some ⟨g2, 0, none⟩)) (hg2 : Blk w g2 tt2 cs2)
 (hu : P.underlying ty = some d) (hd : (match d with | .struct _ | .array _ _ => true | _ => false) = true) (hi : (P.info? ty).map (·.size) = some cs.size)
 (hu2 : P.underlying ty2 = some d2) (hd2 : (match d2 with | .struct _ | .array _ _ => true | _ => false) = true) (hi2 : (P.info? ty2).map (·.size) = some cs2.size) :
 (results fn tmps).run P w = .ok (.tuple #[.agg cs, .agg cs2]) w := by
 have hl := run_loadVar_row (P := P) w g tt ty cs (0, 0) d hg hu hd hi
 have hl2 := run_loadVar_row (P := P) w g2 tt2 ty2 cs2 (0, 0) d2 hg2 hu2 hd2 hi2
 have hp' : tmps[p]?.getD undef = .pointer (some ⟨g, 0, none⟩) := by simpa using hp
 have hp2' : tmps[q]?.getD undef = .pointer (some ⟨g2, 0, none⟩) := by simpa using hp2
 simp [results, h, hp', hp2', asAddr, hl, hl2]
/-- loads of slices and structs, as equations -/
theorem sl_req {w : World} {p : Addr} {v : Value} (h : w.cell? p = some v) : (loadVar 32 p).run Tryz.prog w = .ok v w := by
 go_simp
theorem sl_hd {w : World} {p : Addr} {v : Value} (h : w.cell? p = some v) : (loadVar 39 p).run Tryz.prog w = .ok v w := by
 go_simp
theorem num_load {w : World} {p : Addr} {x : Int} (h : w.cell? p = some (.int .i64 x)) : (loadVar 3 p).run Tryz.prog w = .ok (.int .i64 x) w := by
 go_simp
theorem head_load {w : World} {g : Nat} {h : Hd} (hk : Blk w g 48 h.enc.toArray) : (loadVar 48 ⟨g, 0, none⟩).run Tryz.prog w = .ok (.agg h.enc.toArray) w :=
 run_loadVar_row w g 48 48 h.enc.toArray (0, 0) _ hk Tryz.underlying48 rfl (by kernel_rfl)
theorem head_load5 {w : World} {g : Nat} {a b c : Int} {d e : ByteArray} (hk : Blk w g 48 #[.int .i64 a, .int .i64 b, .int .i64 c, .string d, .string e]) : (loadVar 48 ⟨g, 0, none⟩).run Tryz.prog w = .ok (.agg #[.int .i64 a, .int .i64 b, .int .i64 c, .string d, .string e]) w :=
 run_loadVar_row w g 48 48 _ (0, 0) _ hk Tryz.underlying48 rfl (by kernel_rfl)
theorem req_load5 {w : World} {g : Nat} {a b : Int} {c d e : ByteArray} (hk : Blk w g 58 #[.int .i64 a, .int .i64 b, .string c, .string d, .string e]) : (loadVar 58 ⟨g, 0, none⟩).run Tryz.prog w = .ok (.agg #[.int .i64 a, .int .i64 b, .string c, .string d, .string e]) w :=
 run_loadVar_row w g 58 58 _ (0, 0) _ hk Tryz.underlying58 rfl (by kernel_rfl)
theorem rep_load3 {w : World} {g : Nat} {a b c : Int} (hk : Blk w g 35 #[.int .i64 a, .int .i64 b, .int .i64 c]) : (loadVar 35 ⟨g, 0, none⟩).run Tryz.prog w = .ok (.agg #[.int .i64 a, .int .i64 b, .int .i64 c]) w :=
 run_loadVar_row w g 35 35 _ (0, 0) _ hk Tryz.underlying35 rfl (by kernel_rfl)
theorem OwnG.parts {α : Type} {K : Kind α} (hK : K.Ok) {w : World} {B : Nat} {o : Option Addr} {n c : Nat} {xs : List α} (h : OwnG K w B (.slice o n c) xs) : n = xs.length ∧ RowG K w o xs ∧ xs.length ≤ c ∧ (o = none → c = 0) ∧ (∀ a, o = some a → B ≤ a.block) := by
 obtain ⟨oa, cap, h1, h2, h3, h4, h5⟩ := h.form hK
 injection h1 with e1 e2 e3
 subst e1 e3
 exact ⟨e2, h2, h3, fun e => (h4 e).2, fun a e => (h5 a e).2.1⟩
/-- a slice that reads as xs and is the one at o0, which read as xs0, or lies in a block that isn't below B -/
def SlO {α : Type} (K : Kind α) (w : World) (o0 : Option Addr) (xs0 : List α) (B : Nat) (v : Value) (xs : List α) : Prop := ∃ oa cap, v = .slice oa xs.length cap ∧ RowG K w oa xs ∧ xs.length ≤ cap ∧ (oa = none → cap = 0) ∧ ((oa = o0 ∧ xs = xs0) ∨ ∀ a, oa = some a → B ≤ a.block)
/-- a slice that reads as xs and lies in no block below B -/
def SlB {α : Type} (K : Kind α) (w : World) (B : Nat) (v : Value) (xs : List α) : Prop := ∃ oa cap, v = .slice oa xs.length cap ∧ RowG K w oa xs ∧ xs.length ≤ cap ∧ (oa = none → cap = 0) ∧ (∀ a, oa = some a → B ≤ a.block)
theorem SlB.below {α : Type} {K : Kind α} {w w' : World} {B : Nat} {v : Value} {xs : List α} (h : SlB K w B v xs) (hb : Below w.heap.size w w') : SlB K w' B v xs := by
 obtain ⟨oa, cap, h1, h2, h3, h4, h5⟩ := h
 exact ⟨oa, cap, h1, h2.below hb, h3, h4, h5⟩
theorem SlB.mono {α : Type} {K : Kind α} {w : World} {B B' : Nat} {v : Value} {xs : List α} (h : SlB K w B v xs) (hB : B' ≤ B) : SlB K w B' v xs := by
 obtain ⟨oa, cap, h1, h2, h3, h4, h5⟩ := h
 exact ⟨oa, cap, h1, h2, h3, h4, fun a ha => Nat.le_trans hB (h5 a ha)⟩
theorem SlB.grown {α : Type} {K : Kind α} {w w' : World} {B g : Nat} {v : Value} {xs : List α} (h : SlB K w B v xs) (hg : w.grownBy w' (some g)) (hlt : g < B) : SlB K w' B v xs := by
 obtain ⟨oa, cap, h1, h2, h3, h4, h5⟩ := h
 exact ⟨oa, cap, h1, h2.grown hg (fun a ha e => by have := h5 a ha; injection e; omega), h3, h4, h5⟩
theorem slB_nil {α : Type} {K : Kind α} (w : World) (B : Nat) : SlB K w B (.slice none 0 0) [] := ⟨none, 0, rfl, RowG.nil w none, Nat.le_refl _, fun _ => rfl, fun a e => by cases e⟩
theorem OwnG.slB {α : Type} {K : Kind α} (hK : K.Ok) {w : World} {B : Nat} {v : Value} {xs : List α} (h : OwnG K w B v xs) : SlB K w B v xs := by
 obtain ⟨oa, cap, h1, h2, h3, h4, h5⟩ := h.form hK
 exact ⟨oa, cap, h1, h2, h3, fun e => (h4 e).2, fun a ha => (h5 a ha).2.1⟩
end Go.Proofs.YtnbboabaihddbaaGreat
