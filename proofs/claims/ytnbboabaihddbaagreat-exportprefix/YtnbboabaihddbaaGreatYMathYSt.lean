/-
  Layer 11's reference in plain words: heads, cuts, requests that are asked. A state's cells.
-/
import Derived.Test.YtnbboabaihddbaaGreatYSl
import Derived.Test.YtnbboabaihddbaaGreatYRef3SRefD
import Derived.Test.YtnbboabaihddbaaGreatSRefV
namespace Go.Proofs.YtnbboabaihddbaaGreat
open Go.RowKit

/-- the size and the time of the j-th head; of none 0 -/
def zN (hd : List Hd) : Nat → Int
 | 0 => 0
 | j + 1 => (hd.getD j default).z
def tN (hd : List Hd) : Nat → Int
 | 0 => 0
 | j + 1 => (hd.getD j default).t
/-- the root of pairs, whole -/
def rtL (ps : List (ByteArray × ByteArray)) : ByteArray := rootL 256 (ps.map entP)
theorem rtL_eq (ps : List (ByteArray × ByteArray)) : rtL ps = rootL 256 (ps.map entP) := by unfold rtL; exact Eq.refl _
/-- the root of the map behind requests -/
def mapR (tk : List Req) : ByteArray := rtL (lastK (prsQ tk) (prsQ tk).length)
theorem mapR_eq (tk : List Req) : mapR tk = rtL (lastK (prsQ tk) (prsQ tk).length) := by unfold mapR; exact Eq.refl _
theorem mapR_size (tk : List Req) : (mapR tk).size = 32 := by rw [mapR_eq, rtL_eq]; exact rootL_size _ _
/-- the head of all that was taken, at a time -/
def headW (tk : List Req) (hd : List Hd) (now : Int) : Hd := ⟨(hd.length : Int) + 1, tk.length, max (tN hd hd.length) now, rootM (tk.map leafQ), mapR tk⟩
def cutW (tk : List Req) (hd : List Hd) (now : Int) : List Hd × Bool := if (tk.length : Int) = zN hd hd.length then (hd, false) else (hd ++ [headW tk hd now], true)
theorem Own.formY {w : World} {B : Nat} {v : Value} {ss : List ByteArray} (h : Own w B v ss) : ∃ oa cap, v = .slice oa ss.length cap ∧ Strs w oa ss ∧ ss.length ≤ cap := by
 obtain ⟨oa, cap, hv, hs⟩ := h.form
 refine ⟨oa, cap, hv, hs, ?_⟩
 rcases h.2 with ⟨h1, hn⟩ | ⟨g, cap', cur, h1, hg, hk, hc1, _⟩
 · rw [h1] at hv; injection hv with _ h2 h3; omega
 · rw [h1] at hv; injection hv with _ h2 h3; omega
theorem pthL_fst (ps : List (ByteArray × ByteArray)) : fstN (fun i => pathS (keyP ps i)) ps.length = pthL ps := by
 apply List.ext_getElem
 · rw [fstN_length]; unfold pthL; rw [List.length_map]
 · intro i h1 h2
   rw [fstN_length] at h1
   have e1 := fstN_get (fun i => pathS (keyP ps i)) h1
   rw [List.getD_eq_getElem?_getD, List.getElem?_eq_getElem (by rw [fstN_length]; exact h1)] at e1
   have e2 := pthL_at h1
   rw [List.getD_eq_getElem?_getD, List.getElem?_eq_getElem h2] at e2
   simp only [Option.getD_some] at e1 e2
   rw [e1, e2]
   unfold keyP
   rw [getD_pair h1]
theorem root0_any (oa ob : Option Addr) (n cap capb : Nat) (ps : List (ByteArray × ByteArray)) (hn : ps.length = n) (hsz : n ≤ 1000) (hF : FitP ps) (w : World) (hP : Prs w oa ps) (hT : Strs w ob (pthL ps)) :
 Calls Tryz.prog 51 #[.agg (emC emp), .slice oa n cap, .slice ob n capb, .int .i64 0] w fun e w' => e = .returned (.string (rtL ps)) ∧ Below w.heap.size w w' := by
 have h := vroot_any 256 0 (Nat.zero_add _) oa ob n cap capb ps (pthL ps) hn (by unfold pthL; rw [List.length_map]; exact hn) hsz hF (fun s hs => by unfold pthL at hs; obtain ⟨p, _, rfl⟩ := List.mem_map.1 hs; exact pathS_size _) (Eq.refl _) w hP hT
 rw [← rtL_eq] at h
 unfold RVs at h
 generalize rtL ps = R at *
 generalize emC emp = E at *
 exact h
theorem pthL_len (ps : List (ByteArray × ByteArray)) : (pthL ps).length = ps.length := by unfold pthL; rw [List.length_map]
theorem paths0_any (oa : Option Addr) (cap n : Nat) (ps : List (ByteArray × ByteArray)) (hn : ps.length = n) (hsz : n ≤ 1000) (hF : FitP ps) (w : World) (hP : Prs w oa ps) :
 Calls Tryz.prog 52 #[.slice oa n cap] w fun e w' => ∃ oq cq, e = .returned (.slice oq n cq) ∧ Strs w' oq (pthL ps) ∧ Below w.heap.size w w' := by
 subst hn
 have h := paths_any oa ps.length cap ps (Eq.refl _) hsz hF w hP
 rw [pthL_fst ps] at h
 have hl := pthL_len ps
 unfold RT at h
 generalize pthL ps = L at *
 refine h.mono ?_
 rintro e w' ⟨v, rfl, hv, hb⟩
 obtain ⟨oq, cq, rfl, hs⟩ := hv.form
 exact ⟨oq, cq, by rw [hl], hs, hb⟩
theorem sl_rep {w : World} {p : Addr} {v : Value} (h : w.cell? p = some v) : (loadVar 42 p).run Tryz.prog w = .ok v w := by
 go_simp
theorem wld_load {w : World} {g : Nat} {a b c : Value} (h : Blk w g 44 #[a, b, c]) : (loadVar 44 ⟨g, 0, none⟩).run Tryz.prog w = .ok (.agg #[a, b, c]) w :=
 run_loadVar_row w g 44 44 #[a, b, c] (0, 0) _ h Tryz.underlying44 rfl (by kernel_rfl)
/-- the last of the first j requests that is the client's, and how many are -/
def lstN (c : Int) (tk : List Req) : Nat → Int
 | 0 => -1
 | j + 1 => if (tk.getD j default).c = c then (j : Int) else lstN c tk j
def cntN (c : Int) (tk : List Req) : Nat → Int
 | 0 => 0
 | j + 1 => if (tk.getD j default).c = c then cntN c tk j + 1 else cntN c tk j
theorem lstN_lt (c : Int) (tk : List Req) : ∀ j, -1 ≤ lstN c tk j ∧ lstN c tk j < j
 | 0 => ⟨by show (-1 : Int) ≤ -1; omega, by show (-1 : Int) < 0; omega⟩
 | j + 1 => by
  have := lstN_lt c tk j
  unfold lstN
  split <;> omega
theorem cntN_le (c : Int) (tk : List Req) : ∀ j, 0 ≤ cntN c tk j ∧ cntN c tk j ≤ j
 | 0 => ⟨by show (0 : Int) ≤ 0; omega, by show (0 : Int) ≤ 0; omega⟩
 | j + 1 => by
  have := cntN_le c tk j
  unfold cntN
  split <;> omega
def rightQ (r : Req) : Bool := rightB r.c r.q r.l r.k r.v
/-- what a request is answered, and what was taken then -/
def askW (tk : List Req) (rp : List Rep) (h : Nat) (r : Req) : List Req × List Rep × Rep :=
 if rightQ r = false then (tk, rp, ⟨1, 0, 0⟩)
 else if 0 ≤ lstN r.c tk tk.length ∧ (tk.getD (lstN r.c tk tk.length).toNat default).q = r.q then (tk, rp, rp.getD (lstN r.c tk tk.length).toNat default)
 else if 0 ≤ lstN r.c tk tk.length ∧ r.q < (tk.getD (lstN r.c tk tk.length).toNat default).q then (tk, rp, ⟨7, 0, 0⟩)
 else if cntN r.c tk tk.length = 20 then (tk, rp, ⟨6, 0, 0⟩)
 else if tk.length = 64 then (tk, rp, ⟨10, 0, 0⟩)
 else (tk ++ [r], rp ++ [⟨0, tk.length, (h : Int) + 1⟩], ⟨0, tk.length, (h : Int) + 1⟩)
/-- three cells of a block are stored -/
abbrev set3 (w : World) (b : Nat) (x y z : Value) : World := ((w.setCell ⟨b, 0, none⟩ x).setCell ⟨b, 1, none⟩ y).setCell ⟨b, 2, none⟩ z
theorem Blk.set3 {w : World} {b : Nat} {t : TypeId} {p q r : Value} (h : Blk w b t #[p, q, r]) (x y z : Value) : Blk (set3 w b x y z) b t #[x, y, z] := ((h.set_ 0 x).set_ 1 y).set_ 2 z
theorem Blk.far3 {w : World} {g b : Nat} {t : TypeId} {cs : Array Value} (h : Blk w g t cs) (hn : g ≠ b) (x y z : Value) : Blk (Go.Proofs.YtnbboabaihddbaaGreat.set3 w b x y z) g t cs := ((h.far (p := ⟨b, 0, none⟩) hn x).far (p := ⟨b, 1, none⟩) hn y).far (p := ⟨b, 2, none⟩) hn z
theorem Below.set3 {B : Nat} {a w : World} {b : Nat} (h : Below B a w) (hb : B ≤ b) (x y z : Value) : Below B a (Go.Proofs.YtnbboabaihddbaaGreat.set3 w b x y z) := ((h.setCell (p := ⟨b, 0, none⟩) hb x).setCell (p := ⟨b, 1, none⟩) hb y).setCell (p := ⟨b, 2, none⟩) hb z
theorem RowG.set3 {α : Type} {K : Kind α} {w : World} {oa : Option Addr} {xs : List α} {b : Nat} (h : RowG K w oa xs) (hn : ∀ a, oa = some a → a.block ≠ b) (x y z : Value) : RowG K (Go.Proofs.YtnbboabaihddbaaGreat.set3 w b x y z) oa xs :=
 ((h.grown (grownG_setCell _ ⟨b, 0, none⟩ x) (fun a ha e => hn a ha (by injection e with e; exact e.symm))).grown (grownG_setCell _ ⟨b, 1, none⟩ y) (fun a ha e => hn a ha (by injection e with e; exact e.symm))).grown (grownG_setCell _ ⟨b, 2, none⟩ z) (fun a ha e => hn a ha (by injection e with e; exact e.symm))
end Go.Proofs.YtnbboabaihddbaaGreat
namespace Go.Proofs.YtnbboabaihddbaaGreat
open Go.RowKit

/-- a client's last one: its number, how many were taken, the answer -/
structure Lst where
 q : Int
 n : Int
 r : Rep
instance : Inhabited Lst := ⟨⟨0, 0, ⟨0, 0, 0⟩⟩⟩
def Lst.enc (x : Lst) : List Value := [.int .i64 x.q, .int .i64 x.n, .int .i64 x.r.e, .int .i64 x.r.i, .int .i64 x.r.h]
/-- a state's cells -/
def cellsS (a : Value) (x y z u : Lst) (b : Value) : Array Value :=
 #[a, .int .i64 x.q, .int .i64 x.n, .int .i64 x.r.e, .int .i64 x.r.i, .int .i64 x.r.h, .int .i64 y.q, .int .i64 y.n, .int .i64 y.r.e, .int .i64 y.r.i, .int .i64 y.r.h,
  .int .i64 z.q, .int .i64 z.n, .int .i64 z.r.e, .int .i64 z.r.i, .int .i64 z.r.h, .int .i64 u.q, .int .i64 u.n, .int .i64 u.r.e, .int .i64 u.r.i, .int .i64 u.r.h, b]
theorem cellsS_size (a : Value) (x y z u : Lst) (b : Value) : (cellsS a x y z u b).size = 22 := rfl
theorem cellsS_one (o o' : Option Addr) (n n' c c' : Nat) (x y z u : Lst) : ((cellsS (.slice o n c) x y z u (.slice o' n' c')).all fun x => x.oneCell') = true := by
 unfold cellsS
 simp [Value.oneCell']
theorem infoS : (Tryz.prog.info? 41).map (·.size) = some 22 := by kernel_rfl
theorem st_load {w : World} {g : Nat} {cs : Array Value} (hs : cs.size = 22) (h : Blk w g 41 cs) : (loadVar 41 ⟨g, 0, none⟩).run Tryz.prog w = .ok (.agg cs) w :=
 run_loadVar_row w g 41 41 cs (0, 0) _ h Tryz.underlying41 rfl (by rw [hs]; exact infoS)
def zeroSt : Array Value := cellsS (.slice none 0 0) default default default default (.slice none 0 0)
theorem zeroS (w : World) : (zeroValue 41).run Tryz.prog w = .ok (.agg zeroSt) w := by kernel_rfl
/-- two structs and a plain value -/
theorem results_row_row_tmp {P : Program} {fn : Func} {p q t : Tmp} {ty ty2 : TypeId} (h : fn.results = #[.cell p ty, .cell q ty2, .tmp t]) (tmps : Array Value) (w : World) (g g2 : Nat) (tt tt2 : TypeId) (cs cs2 : Array Value) (d d2 : TypeDesc)
 (hp : tmps.getD p undef = .pointer (some ⟨g, 0, none⟩)) (hg : Blk w g tt cs) (hp2 : tmps.getD q undef = .pointer (some ⟨g2, 0, none⟩)) (hg2 : Blk w g2 tt2 cs2)
 (hu : P.underlying ty = some d) (hd : (match d with | .struct _ | .array _ _ => true | _ => false) = true) (hi : (P.info? ty).map (·.size) = some cs.size)
 (hu2 : P.underlying ty2 = some d2) (hd2 : (match d2 with | .struct _ | .array _ _ => true | _ => false) = true) (hi2 : (P.info? ty2).map (·.size) = some cs2.size) :
 (results fn tmps).run P w = .ok (.tuple #[.agg cs, .agg cs2, tmps.getD t undef]) w := by
 have hl := run_loadVar_row (P := P) w g tt ty cs (0, 0) d hg hu hd hi
 have hl2 := run_loadVar_row (P := P) w g2 tt2 ty2 cs2 (0, 0) d2 hg2 hu2 hd2 hi2
 have hp' : tmps[p]?.getD undef = .pointer (some ⟨g, 0, none⟩) := by simpa using hp
 have hp2' : tmps[q]?.getD undef = .pointer (some ⟨g2, 0, none⟩) := by simpa using hp2
 simp [results, h, hp', hp2', asAddr, hl, hl2]
end Go.Proofs.YtnbboabaihddbaaGreat
