/-
  A state's cells.
-/
import Derived.Test.YtjmjkcgldencoaaYSl
namespace Go.Proofs.Ytjmjkcgldencoaa
open Go.RowKit

/-- a client's last one: its number, how many were taken, the answer -/
structure Lst where
  q : Int
  n : Int
  r : Rep
instance : Inhabited Lst := ⟨⟨0, 0, ⟨0, 0, 0⟩⟩⟩
def Lst.enc (x : Lst) : List Value := [.int .i64 x.q, .int .i64 x.n, .int .i64 x.r.e, .int .i64 x.r.i, .int .i64 x.r.h]
/-- a state's cells -/
def cellsS (a : Value) (x y z u : Lst) (b : Value) : Array Value :=
  #[a, .int .i64 x.q, .int .i64 x.n, .int .i64 x.r.e, .int .i64 x.r.i, .int .i64 x.r.h, .int .i64 y.q, .int .i64 y.n, .int .i64 y.r.e, .int .i64 y.r.i, .int .i64 y.r.h,
    .int .i64 z.q, .int .i64 z.n, .int .i64 z.r.e, .int .i64 z.r.i, .int .i64 z.r.h, .int .i64 u.q, .int .i64 u.n, .int .i64 u.r.e, .int .i64 u.r.i, .int .i64 u.r.h, b]
theorem cellsS_size (a : Value) (x y z u : Lst) (b : Value) : (cellsS a x y z u b).size = 22 := rfl
theorem cellsS_one (o o' : Option Addr) (n n' c c' : Nat) (x y z u : Lst) : ((cellsS (.slice o n c) x y z u (.slice o' n' c')).all fun x => x.oneCell') = true := by
  unfold cellsS
  simp [Value.oneCell']
theorem infoS : (Try.prog.info? 37).map (·.size) = some 22 := by kernel_rfl
theorem st_load {w : World} {g : Nat} {cs : Array Value} (hs : cs.size = 22) (h : Blk w g 37 cs) : (loadVar 37 ⟨g, 0, none⟩).run Try.prog w = .ok (.agg cs) w :=
  run_loadVar_row w g 37 37 cs (0, 0) _ h Try.underlying37 rfl (by rw [hs]; exact infoS)
def zeroSt : Array Value := cellsS (.slice none 0 0) default default default default (.slice none 0 0)
theorem zeroS (w : World) : (zeroValue 37).run Try.prog w = .ok (.agg zeroSt) w := by kernel_rfl
/-- two structs and a plain value -/
theorem results_row_row_tmp {P : Program} {fn : Func} {p q t : Tmp} {ty ty2 : TypeId} (h : fn.results = #[.cell p ty, .cell q ty2, .tmp t]) (tmps : Array Value) (w : World) (g g2 : Nat) (tt tt2 : TypeId) (cs cs2 : Array Value) (d d2 : TypeDesc)
    (hp : tmps.getD p undef = .pointer (some ⟨g, 0, none⟩)) (hg : Blk w g tt cs) (hp2 : tmps.getD q undef = .pointer (some ⟨g2, 0, none⟩)) (hg2 : Blk w g2 tt2 cs2)
    (hu : P.underlying ty = some d) (hd : (match d with | .struct _ | .array _ _ => true | _ => false) = true) (hi : (P.info? ty).map (·.size) = some cs.size)
    (hu2 : P.underlying ty2 = some d2) (hd2 : (match d2 with | .struct _ | .array _ _ => true | _ => false) = true) (hi2 : (P.info? ty2).map (·.size) = some cs2.size) :
    (results fn tmps).run P w = .ok (.tuple #[.agg cs, .agg cs2, tmps.getD t undef]) w := by
  have hl := run_loadVar_row (P := P) w g tt ty cs (0, 0) d hg hu hd hi
  have hl2 := run_loadVar_row (P := P) w g2 tt2 ty2 cs2 (0, 0) d2 hg2 hu2 hd2 hi2
  have hp' : tmps[p]?.getD undef = .pointer (some ⟨g, 0, none⟩) := by simpa using hp
  have hp2' : tmps[q]?.getD undef = .pointer (some ⟨g2, 0, none⟩) := by simpa using hp2
  simp [results, h, hp', hp2', asAddr, hl, hl2]
end Go.Proofs.Ytjmjkcgldencoaa
