/-
  One range behind the other: the program's.
-/
import Derived.Test.YtmokkahkfmmnmaaROf
import Derived.Test.YtmokkahkfmmnmaaRShort
import Derived.Test.YtmokkahkfmmnmaaMFew
namespace Go.Proofs.Ytmokkahkfmmnmaa
open Go.RowKit Go.Shelf
attribute [local go_sem] Oper.semAt_some

theorem results_rng {P : Program} {fn : Func} {p t : Tmp} {ty : TypeId} (h : fn.results = #[.cell p ty, .tmp t]) (tmps : Array Value) (w : World) (g : Nat) (tt : TypeId) (cs : Array Value) (d : TypeDesc)
    (hp : tmps.getD p undef = .pointer (some ⟨g, 0, none⟩)) (hg : w.heap[g]? = some (.cells cs tt (0, 0)))
    (hu : P.underlying ty = some d) (hd : (match d with | .struct _ | .array _ _ => true | _ => false) = true) (hi : (P.info? ty).map (·.size) = some cs.size) :
    (results fn tmps).run P w = .ok (.tuple #[.agg cs, tmps.getD t undef]) w := by
  have hl := run_loadVar_row (P := P) w g tt ty cs (0, 0) d hg hu hd hi
  have hp' : tmps[p]?.getD undef = .pointer (some ⟨g, 0, none⟩) := by simpa using hp
  simp [results, h, hp', asAddr, hl]
theorem own_facts {w : World} {B : Nat} {oa : Option Addr} {n c : Nat} {ss : List ByteArray} (h : Own w B (.slice oa n c) ss) : ss.length = n ∧ Strs w oa ss ∧ n ≤ c ∧ (oa = none → n = 0 ∧ c = 0) := by
  obtain ⟨oa', c', hv, hs, hc, hn⟩ := h.formd
  injection hv with h1 h2 h3
  subst h1 h3
  exact ⟨h2.symm, hs, by omega, fun h => by have := hn h; omega⟩
theorem of_getD {y : List ByteArray} {pre rest : List Nat} {s : Nat} (h : strL y.length = pre ++ s :: rest) : (ofM y).getD pre.length ByteArray.empty = rootM ((y.drop pre.sum).take s) ∧ pre.length < (ofM y).length := by
  unfold ofM
  rw [h, chk_append]
  constructor
  · rw [List.getD_eq_getElem?_getD, List.getElem?_append_right (by rw [chk_length]; exact Nat.le_refl _), chk_length, Nat.sub_self]
    rfl
  · rw [List.length_append, chk_length]
    simp [chk]
theorem region_wide {n id : Nat} {ops : Array Oper} {Q : Exit → Act → World → Prop} {S : World → Prop} {a : Act} {w : World} (hm : Try.prog.follows .mixedOrders = true) (hS : S w.drew)
    (h : S w.drew → wpAnyH Try.prog .any ops (onlyN Q) S ops.size (Array.replicate ops.size false) a w.drew) : (Code.region id ops true).wpIn Fence.wide n Try.prog Q a w :=
  wpIn_wide.2 (Code.wp_mono (fun e a w hh => by
    cases e with
    | normal => exact hh
    | _ => exact False.elim hh) (wp_region_held_drew hm hS h))
/-- what Join answers -/
def RJ (n q : Nat) (x y : List ByteArray) (w : World) (e : Ending) (w' : World) : Prop :=
  (if 0 < n ∧ lastN (strL n) < q then e = .returned (.tuple #[.agg #[.int .i64 0, .slice none 0 0], .int .i64 5])
    else ∃ v, e = .returned (.tuple #[.agg #[.int .i64 ((n + q : Nat) : Int), v], .int .i64 0]) ∧ Own w' w.heap.size v (ofM (x ++ y))) ∧ Below w.heap.size w w'
section
attribute [-go_sem] loadVar
set_option maxRecDepth 100000 in
set_option maxHeartbeats 8000000 in
theorem join_err (n q : Nat) (ova : Option Addr) (ka ca : Nat) (ob : Option Addr) (k c : Nat) (x y : List ByteArray) (hx : x.length = n) (_hy : y.length = q) (hn : n ≤ 64) (_hq : q ≤ 64) (_hka : (ofM x).length = ka) (_hkc : ka ≤ ca) (_hna : ova = none → ka = 0 ∧ ca = 0) (_hk : (ofM y).length = k) (_hkb : k ≤ c) (_hzx : Sz x) (_hzy : Sz y) (hlt : 0 < n ∧ lastN (strL n) < q) (w : World) (hA : Strs w ova (ofM x)) (hBs : Strs w ob (ofM y)) :
    Calls Try.prog 20 #[.agg tabV, .agg #[.int .i64 n, .slice ova ka ca], .agg #[.int .i64 q, .slice ob k c]] w (RJ n q x y w) := by
  obtain ⟨B, hB⟩ : ∃ B, w.heap.size = B := ⟨_, rfl⟩
  obtain ⟨w0, hw0⟩ : ∃ w0, (((w.alloc (.cells tabV 29)).alloc (.cells #[.int .i64 n, .slice ova ka ca] 33)).alloc (.cells #[.int .i64 q, .slice ob k c] 33)).alloc (.cells #[.int .i64 0, .slice none 0 0] 33) = w0 := ⟨_, rfl⟩
  have hT : Blk w0 B 29 tabV := by rw [← hw0, ← hB]; exact (((Blk.new _ _ _).alloc _).alloc _).alloc _
  have hRA : Blk w0 (B + 1) 33 #[.int .i64 n, .slice ova ka ca] := by rw [← hw0]; exact ((Blk.new_at (by simp [hB])).alloc _).alloc _
  have hRB : Blk w0 (B + 1 + 1) 33 #[.int .i64 q, .slice ob k c] := by rw [← hw0]; exact (Blk.new_at (by simp [hB])).alloc _
  have hO : Blk w0 (B + 1 + 1 + 1) 33 #[.int .i64 0, .slice none 0 0] := by rw [← hw0]; exact Blk.new_at (by simp [hB])
  have hB0 : Below w.heap.size w w0 := by rw [← hw0]; exact ((((Below.refl _ w).alloc (Nat.le_refl _) _).alloc (by simp) _).alloc (by simp; omega) _).alloc (by simp; omega) _
  have hs0 : w0.heap.size = B + 1 + 1 + 1 + 1 := by rw [← hw0]; simp [hB]
  have hA0 := hA.below hB0
  have hS0 := hBs.below hB0
  have HSH := Lib.hid (fun W => shortest_any n (by omega) W)
  have HW0 := Lib.hid hw0
  have HBS := Lib.hid hBs
  clear hw0 hA hBs
  obtain ⟨low, hlow⟩ : ∃ low, lastN (strL n) = low := ⟨_, rfl⟩
  have HRJ := Lib.hid (show ∀ e w', RJ n q x y w e w' = (e = .returned (.tuple #[.agg #[.int .i64 0, .slice none 0 0], .int .i64 5]) ∧ Below w.heap.size w w') from fun _ _ => by unfold RJ; rw [if_pos hlt])
  generalize RJ n q x y w = PO at *
  rw [hlow] at hlt
  have hn0 : (0 : Int) < (n : Int) := by omega
  have hlq : (low : Int) < (q : Int) := by omega
  refine (callsIn_wide (n := 7)).1 ?_
  refine callsIn_of_wp_marks Try.func20 rfl trivial ?_ rfl
  simp only [Try.ntmps20, List.size_toArray, List.length_cons, List.length_nil, Nat.reduceAdd, Nat.reduceSub, Array.replicate_succ, Array.replicate_zero, List.push_toArray, List.append_toArray, List.nil_append, List.cons_append]
  gi_wp2_with (rw [HW0.out])
  have HKP := Lib.hid (show ∀ W, Below w0.heap.size w0 W → ((loadVar 3 ⟨B + 1, 0, none⟩).run Try.prog W = .ok (.int .i64 n) W ∧ (loadVar 3 ⟨B + 1 + 1, 0, none⟩).run Try.prog W = .ok (.int .i64 q) W) ∧ Below w0.heap.size w0 W from fun W hW => ⟨⟨ld_int ((hRA.below hW hRA.lt).cell 0), ld_int ((hRB.below hW hRB.lt).cell 0)⟩, hW⟩)
  refine region_wide (S := fun W => ((loadVar 3 ⟨B + 1, 0, none⟩).run Try.prog W = .ok (.int .i64 n) W ∧ (loadVar 3 ⟨B + 1 + 1, 0, none⟩).run Try.prog W = .ok (.int .i64 q) W) ∧ Below w0.heap.size w0 W) (by kernel_rfl) ?_ (fun hHeld0 => ?_)
  · (refine HKP.out _ ?_; first | exact hbS | exact (Below.refl _ _).drew | exact Below.refl _ _)
  apply takeH (i := 0) rfl (by kernel_rfl) (by kernel_rfl) (by kernel_rfl) (fun _ _ _ h => h) (by rfl)
  case hy => (intro w hSw; (try dsimp only at hSw); go_simp; try with_reducible rfl)
  case hS => assumption
  (try simp only [Act.put, List.setIfInBounds_toArray, List.set_cons_zero, List.set_cons_succ])
  apply takeH (i := 1) rfl (by kernel_rfl) (by kernel_rfl) (by kernel_rfl) (fun _ _ _ h => h) (by rfl)
  case hy => (intro w hSw; (try dsimp only at hSw); go_simp; try with_reducible rfl)
  case hS => assumption
  (try simp only [Act.put, List.setIfInBounds_toArray, List.set_cons_zero, List.set_cons_succ])
  apply takeH (i := 2) rfl (by kernel_rfl) (by kernel_rfl) (by kernel_rfl) (fun _ _ _ h => h) (by rfl)
  case hy => (intro w hSw; (try dsimp only at hSw); go_simp; try with_reducible rfl)
  case hS => assumption
  (try simp only [Act.put, List.setIfInBounds_toArray, List.set_cons_zero, List.set_cons_succ])
  apply takeH (i := 3) rfl (by kernel_rfl) (by kernel_rfl) (by kernel_rfl) (fun _ _ _ h => h) (by rfl)
  case hy => (intro w hSw; (try dsimp only at hSw); go_simp; try with_reducible rfl)
  case hS => assumption
  (try simp only [Act.put, List.setIfInBounds_toArray, List.set_cons_zero, List.set_cons_succ])
  apply takeH (i := 4) rfl (by kernel_rfl) (by kernel_rfl) (by kernel_rfl) (fun _ _ _ h => h) (by rfl)
  case hy => (intro w hSw; (try dsimp only at hSw); go_simp; try with_reducible rfl)
  case hS => assumption
  (try simp only [Act.put, List.setIfInBounds_toArray, List.set_cons_zero, List.set_cons_succ])
  apply takeH (i := 5) rfl (by kernel_rfl) (by kernel_rfl) (by kernel_rfl) (fun _ _ _ h => h) (by rfl)
  case hy => (intro w hSw; (try dsimp only at hSw); go_simp; try with_reducible rfl)
  case hS => assumption
  (try simp only [Act.put, List.setIfInBounds_toArray, List.set_cons_zero, List.set_cons_succ])
  apply takeH (i := 6) rfl (by kernel_rfl) (by kernel_rfl) (by kernel_rfl) (fun _ _ _ h => h) (by rfl)
  case hy => (intro w hSw; (try dsimp only at hSw); go_simp; try with_reducible rfl)
  case hS => assumption
  (try simp only [Act.put, List.setIfInBounds_toArray, List.set_cons_zero, List.set_cons_succ])
  apply takeH (i := 7) rfl (by kernel_rfl) (by kernel_rfl) (by kernel_rfl) (fun _ _ _ h => h) (by rfl)
  case hy => (intro w hSw; (try dsimp only at hSw); go_simp; try with_reducible rfl)
  case hS => assumption
  (try simp only [Act.put, List.setIfInBounds_toArray, List.set_cons_zero, List.set_cons_succ])
  refine doH (i := 8) rfl (by kernel_rfl) (by rfl) (fun K hK => ?_)
  go_simp
  refine (HSH.out _).mono ?_
  rintro e wS ⟨rfl, hbS'⟩
  rw [hlow]
  have hbS : Below w0.heap.size w0 wS := hHeld0.2.trans (hbS'.mono hHeld0.2.size)
  go_wp2_with fail
  refine hK.out _ _ ?_ (fun hHeld8 => ?_)
  · (refine HKP.out _ ?_; first | exact hbS | exact (Below.refl _ _).drew | exact Below.refl _ _)
  clear hK K
  (try simp only [Act.put, List.setIfInBounds_toArray, List.set_cons_zero, List.set_cons_succ])
  apply takeH (i := 9) rfl (by kernel_rfl) (by kernel_rfl) (by kernel_rfl) (fun _ _ _ h => h) (by rfl)
  case hy => (intro w hSw; (try dsimp only at hSw); go_simp; try with_reducible rfl)
  case hS => assumption
  (try simp only [Act.put, List.setIfInBounds_toArray, List.set_cons_zero, List.set_cons_succ])
  apply takeH (i := 10) rfl (by kernel_rfl) (by kernel_rfl) (by kernel_rfl) (fun _ _ _ h => h) (by rfl)
  case hy => (intro w hSw; (try dsimp only at hSw); go_simp; try with_reducible rfl)
  case hS => assumption
  (try simp only [Act.put, List.setIfInBounds_toArray, List.set_cons_zero, List.set_cons_succ])
  refine wpAnyH_done (by kernel_rfl) ?_ _
  simp only [onlyN]
  clear hHeld8 HKP hbS'
  have hOS := hO.below hbS hO.lt
  have hBS := hB0.trans (hbS.mono hB0.size)
  have s0 : wS.cell? ⟨B + 1 + 1 + 1, 0, none⟩ = some (.int .i64 0) := hOS.cell 0
  have s1 : wS.cell? ⟨B + 1 + 1 + 1, 1, none⟩ = some (.slice none 0 0) := hOS.cell 1
  have f0 := hOS.frozen 0
  have f1 := hOS.frozen 1
  have HRES := Lib.hid ((hOS.set_ 0 (.int .i64 0)).set_ 1 (.slice none 0 0))
  have HBW := Lib.hid ((hBS.setCell (p := ⟨B + 1 + 1 + 1, 0, none⟩) (by show w.heap.size ≤ B + 1 + 1 + 1; omega) (.int .i64 0)).setCell (p := ⟨B + 1 + 1 + 1, 1, none⟩) (by show w.heap.size ≤ B + 1 + 1 + 1; omega) (.slice none 0 0))
  clear hT hRA hRB hO hA0 hS0 hbS hOS hBS HSH
  gi_wp2
  refine ⟨_, results_rng rfl _ _ (B + 1 + 1 + 1) 33 #[.int .i64 0, .slice none 0 0] _ rfl HRES.out Try.underlying33 rfl infoRange, ?_⟩
  rw [HRJ.out]
  exact ⟨rfl, HBW.out⟩
set_option maxRecDepth 100000 in
set_option maxHeartbeats 8000000 in
theorem join_ok (n q : Nat) (ova : Option Addr) (ka ca : Nat) (ob : Option Addr) (k c : Nat) (x y : List ByteArray) (hx : x.length = n) (hy : y.length = q) (hn : n ≤ 64) (hq : q ≤ 64) (hka : (ofM x).length = ka) (_hkc : ka ≤ ca) (hna : ova = none → ka = 0 ∧ ca = 0) (hk : (ofM y).length = k) (hkb : k ≤ c) (hzx : Sz x) (hzy : Sz y) (hlt : ¬ (0 < n ∧ lastN (strL n) < q)) (hn0 : 0 < n) (w : World) (hA : Strs w ova (ofM x)) (hBs : Strs w ob (ofM y)) :
    Calls Try.prog 20 #[.agg tabV, .agg #[.int .i64 n, .slice ova ka ca], .agg #[.int .i64 q, .slice ob k c]] w (RJ n q x y w) := by
  obtain ⟨B, hB⟩ : ∃ B, w.heap.size = B := ⟨_, rfl⟩
  obtain ⟨w0, hw0⟩ : ∃ w0, (((w.alloc (.cells tabV 29)).alloc (.cells #[.int .i64 n, .slice ova ka ca] 33)).alloc (.cells #[.int .i64 q, .slice ob k c] 33)).alloc (.cells #[.int .i64 0, .slice none 0 0] 33) = w0 := ⟨_, rfl⟩
  have hT : Blk w0 B 29 tabV := by rw [← hw0, ← hB]; exact (((Blk.new _ _ _).alloc _).alloc _).alloc _
  have hRA : Blk w0 (B + 1) 33 #[.int .i64 n, .slice ova ka ca] := by rw [← hw0]; exact ((Blk.new_at (by simp [hB])).alloc _).alloc _
  have hRB : Blk w0 (B + 1 + 1) 33 #[.int .i64 q, .slice ob k c] := by rw [← hw0]; exact (Blk.new_at (by simp [hB])).alloc _
  have hO : Blk w0 (B + 1 + 1 + 1) 33 #[.int .i64 0, .slice none 0 0] := by rw [← hw0]; exact Blk.new_at (by simp [hB])
  have hB0 : Below w.heap.size w w0 := by rw [← hw0]; exact ((((Below.refl _ w).alloc (Nat.le_refl _) _).alloc (by simp) _).alloc (by simp; omega) _).alloc (by simp; omega) _
  have hs0 : w0.heap.size = B + 1 + 1 + 1 + 1 := by rw [← hw0]; simp [hB]
  have hA0 := hA.below hB0
  have hS0 := hBs.below hB0
  have HSH := Lib.hid (fun W => shortest_any n (by omega) W)
  have HW0 := Lib.hid hw0
  have HBS := Lib.hid hBs
  clear hw0 hA hBs
  obtain ⟨low, hlow⟩ : ∃ low, lastN (strL n) = low := ⟨_, rfl⟩
  have HRJ := Lib.hid (show ∀ e w', RJ n q x y w e w' = ((∃ v, e = .returned (.tuple #[.agg #[.int .i64 ((n + q : Nat) : Int), v], .int .i64 0]) ∧ Own w' w.heap.size v (ofM (x ++ y))) ∧ Below w.heap.size w w') from fun _ _ => by unfold RJ; rw [if_neg hlt])
  generalize RJ n q x y w = PO at *
  have HKA := Lib.hid hka
  have HCL := Lib.hid (fun W hW => clone_any ova ka ca (ofM x) hka (by
    rw [← hka, ofM_length, hx]
    have := strL_len 63 n (by have : (2 : Nat) ^ 63 = 9223372036854775808 := by decide
                              omega)
    omega) hna W hW)
  rw [hlow] at hlt
  have hn0' : (0 : Int) < (n : Int) := by omega
  have hlq : ¬ (low : Int) < (q : Int) := by omega
  refine (callsIn_wide (n := 7)).1 ?_
  refine callsIn_of_wp_marks Try.func20 rfl trivial ?_ rfl
  simp only [Try.ntmps20, List.size_toArray, List.length_cons, List.length_nil, Nat.reduceAdd, Nat.reduceSub, Array.replicate_succ, Array.replicate_zero, List.push_toArray, List.append_toArray, List.nil_append, List.cons_append]
  gi_wp2_with (rw [HW0.out])
  have HKP := Lib.hid (show ∀ W, Below w0.heap.size w0 W → ((loadVar 3 ⟨B + 1, 0, none⟩).run Try.prog W = .ok (.int .i64 n) W ∧ (loadVar 3 ⟨B + 1 + 1, 0, none⟩).run Try.prog W = .ok (.int .i64 q) W) ∧ Below w0.heap.size w0 W from fun W hW => ⟨⟨ld_int ((hRA.below hW hRA.lt).cell 0), ld_int ((hRB.below hW hRB.lt).cell 0)⟩, hW⟩)
  refine region_wide (S := fun W => ((loadVar 3 ⟨B + 1, 0, none⟩).run Try.prog W = .ok (.int .i64 n) W ∧ (loadVar 3 ⟨B + 1 + 1, 0, none⟩).run Try.prog W = .ok (.int .i64 q) W) ∧ Below w0.heap.size w0 W) (by kernel_rfl) ?_ (fun hHeld0 => ?_)
  · (refine HKP.out _ ?_; first | exact hbS | exact (Below.refl _ _).drew | exact Below.refl _ _)
  apply takeH (i := 0) rfl (by kernel_rfl) (by kernel_rfl) (by kernel_rfl) (fun _ _ _ h => h) (by rfl)
  case hy => (intro w hSw; (try dsimp only at hSw); go_simp; try with_reducible rfl)
  case hS => assumption
  (try simp only [Act.put, List.setIfInBounds_toArray, List.set_cons_zero, List.set_cons_succ])
  apply takeH (i := 1) rfl (by kernel_rfl) (by kernel_rfl) (by kernel_rfl) (fun _ _ _ h => h) (by rfl)
  case hy => (intro w hSw; (try dsimp only at hSw); go_simp; try with_reducible rfl)
  case hS => assumption
  (try simp only [Act.put, List.setIfInBounds_toArray, List.set_cons_zero, List.set_cons_succ])
  apply takeH (i := 2) rfl (by kernel_rfl) (by kernel_rfl) (by kernel_rfl) (fun _ _ _ h => h) (by rfl)
  case hy => (intro w hSw; (try dsimp only at hSw); go_simp; try with_reducible rfl)
  case hS => assumption
  (try simp only [Act.put, List.setIfInBounds_toArray, List.set_cons_zero, List.set_cons_succ])
  apply takeH (i := 3) rfl (by kernel_rfl) (by kernel_rfl) (by kernel_rfl) (fun _ _ _ h => h) (by rfl)
  case hy => (intro w hSw; (try dsimp only at hSw); go_simp; try with_reducible rfl)
  case hS => assumption
  (try simp only [Act.put, List.setIfInBounds_toArray, List.set_cons_zero, List.set_cons_succ])
  apply takeH (i := 4) rfl (by kernel_rfl) (by kernel_rfl) (by kernel_rfl) (fun _ _ _ h => h) (by rfl)
  case hy => (intro w hSw; (try dsimp only at hSw); go_simp; try with_reducible rfl)
  case hS => assumption
  (try simp only [Act.put, List.setIfInBounds_toArray, List.set_cons_zero, List.set_cons_succ])
  apply takeH (i := 5) rfl (by kernel_rfl) (by kernel_rfl) (by kernel_rfl) (fun _ _ _ h => h) (by rfl)
  case hy => (intro w hSw; (try dsimp only at hSw); go_simp; try with_reducible rfl)
  case hS => assumption
  (try simp only [Act.put, List.setIfInBounds_toArray, List.set_cons_zero, List.set_cons_succ])
  apply takeH (i := 6) rfl (by kernel_rfl) (by kernel_rfl) (by kernel_rfl) (fun _ _ _ h => h) (by rfl)
  case hy => (intro w hSw; (try dsimp only at hSw); go_simp; try with_reducible rfl)
  case hS => assumption
  (try simp only [Act.put, List.setIfInBounds_toArray, List.set_cons_zero, List.set_cons_succ])
  apply takeH (i := 7) rfl (by kernel_rfl) (by kernel_rfl) (by kernel_rfl) (fun _ _ _ h => h) (by rfl)
  case hy => (intro w hSw; (try dsimp only at hSw); go_simp; try with_reducible rfl)
  case hS => assumption
  (try simp only [Act.put, List.setIfInBounds_toArray, List.set_cons_zero, List.set_cons_succ])
  refine doH (i := 8) rfl (by kernel_rfl) (by rfl) (fun K hK => ?_)
  go_simp
  refine (HSH.out _).mono ?_
  rintro e wS ⟨rfl, hbS'⟩
  rw [hlow]
  have hbS : Below w0.heap.size w0 wS := hHeld0.2.trans (hbS'.mono hHeld0.2.size)
  go_wp2_with fail
  refine hK.out _ _ ?_ (fun hHeld8 => ?_)
  · (refine HKP.out _ ?_; first | exact hbS | exact (Below.refl _ _).drew | exact Below.refl _ _)
  clear hK K
  (try simp only [Act.put, List.setIfInBounds_toArray, List.set_cons_zero, List.set_cons_succ])
  apply takeH (i := 9) rfl (by kernel_rfl) (by kernel_rfl) (by kernel_rfl) (fun _ _ _ h => h) (by rfl)
  case hy => (intro w hSw; (try dsimp only at hSw); go_simp; try with_reducible rfl)
  case hS => assumption
  (try simp only [Act.put, List.setIfInBounds_toArray, List.set_cons_zero, List.set_cons_succ])
  apply takeH (i := 10) rfl (by kernel_rfl) (by kernel_rfl) (by kernel_rfl) (fun _ _ _ h => h) (by rfl)
  case hy => (intro w hSw; (try dsimp only at hSw); go_simp; try with_reducible rfl)
  case hS => assumption
  (try simp only [Act.put, List.setIfInBounds_toArray, List.set_cons_zero, List.set_cons_succ])
  refine wpAnyH_done (by kernel_rfl) ?_ _
  simp only [onlyN]
  clear hHeld8 HKP hbS'
  have hRAS := hRA.below hbS hRA.lt
  have hAS := hA0.below hbS
  have HKQ := Lib.hid (show ∀ W, Below wS.heap.size wS W → ((loadVar 3 ⟨B + 1, 0, none⟩).run Try.prog W = .ok (.int .i64 n) W ∧ (loadVar 22 ⟨B + 1, 1, none⟩).run Try.prog W = .ok (.slice ova ka ca) W) ∧ Below wS.heap.size wS W from fun W hW => ⟨⟨ld_int ((hRAS.below hW hRAS.lt).cell 0), ld_sl ((hRAS.below hW hRAS.lt).cell 1)⟩, hW⟩)
  gi_wp2_with fail
  refine region_wide (S := fun W => ((loadVar 3 ⟨B + 1, 0, none⟩).run Try.prog W = .ok (.int .i64 n) W ∧ (loadVar 22 ⟨B + 1, 1, none⟩).run Try.prog W = .ok (.slice ova ka ca) W) ∧ Below wS.heap.size wS W) (by kernel_rfl) ?_ (fun hHeld0 => ?_)
  · (refine HKQ.out _ ?_; first | exact hbE | exact hbD | exact hbC | exact (Below.refl _ _).drew | exact Below.refl _ _)
  apply takeH (i := 0) rfl (by kernel_rfl) (by kernel_rfl) (by kernel_rfl) (fun _ _ _ h => h) (by rfl)
  case hy => (intro w hSw; (try dsimp only at hSw); go_simp; try with_reducible rfl)
  case hS => assumption
  (try simp only [Act.put, List.setIfInBounds_toArray, List.set_cons_zero, List.set_cons_succ])
  apply takeH (i := 1) rfl (by kernel_rfl) (by kernel_rfl) (by kernel_rfl) (fun _ _ _ h => h) (by rfl)
  case hy => (intro w hSw; (try dsimp only at hSw); go_simp; try with_reducible rfl)
  case hS => assumption
  (try simp only [Act.put, List.setIfInBounds_toArray, List.set_cons_zero, List.set_cons_succ])
  apply takeH (i := 2) rfl (by kernel_rfl) (by kernel_rfl) (by kernel_rfl) (fun _ _ _ h => h) (by rfl)
  case hy => (intro w hSw; (try dsimp only at hSw); go_simp; try with_reducible rfl)
  case hS => assumption
  (try simp only [Act.put, List.setIfInBounds_toArray, List.set_cons_zero, List.set_cons_succ])
  apply takeH (i := 3) rfl (by kernel_rfl) (by kernel_rfl) (by kernel_rfl) (fun _ _ _ h => h) (by rfl)
  case hy => (intro w hSw; (try dsimp only at hSw); go_simp; try with_reducible rfl)
  case hS => assumption
  (try simp only [Act.put, List.setIfInBounds_toArray, List.set_cons_zero, List.set_cons_succ])
  refine doH2 (i := 4) (j := 6) rfl rfl (by kernel_rfl) (by rfl) (by rfl) (fun K hK => ?_) (fun K hK => ?_)
  · go_simp
    refine (HCL.out _ (hAS.below hHeld0.2)).mono ?_
    rintro e wC ⟨vC, rfl, hvC, hbC'⟩
    obtain ⟨oc, cc, hvv, _⟩ := hvC.formd
    rw [HKA.out] at hvv
    subst hvv
    have hbC : Below wS.heap.size wS wC := hHeld0.2.trans (hbC'.mono hHeld0.2.size)
    go_wp2_with fail
    refine hK.out _ _ ?_ (fun hHeld4 => ?_)
    · (refine HKQ.out _ ?_; first | exact hbE | exact hbD | exact hbC | exact (Below.refl _ _).drew | exact Below.refl _ _)
    clear hK K
    (try simp only [Act.put, List.setIfInBounds_toArray, List.set_cons_zero, List.set_cons_succ])
    apply takeH (i := 5) rfl (by kernel_rfl) (by kernel_rfl) (by kernel_rfl) (fun _ _ _ h => h) (by rfl)
    case hy => (intro w hSw; (try dsimp only at hSw); go_simp; try with_reducible rfl)
    case hS => assumption
    (try simp only [Act.put, List.setIfInBounds_toArray, List.set_cons_zero, List.set_cons_succ])
    refine doH (i := 6) rfl (by kernel_rfl) (by rfl) (fun K hK => ?_)
    have hbD := hbC.alloc hbC.size (.cells #[.int .i64 0, .slice none 0 0] 33)
    go_simp
    refine hK.out _ _ ?_ (fun hHeld6 => ?_)
    · (refine HKQ.out _ ?_; first | exact hbE | exact hbD | exact hbC | exact (Below.refl _ _).drew | exact Below.refl _ _)
    clear hK K
    (try simp only [Act.put, List.setIfInBounds_toArray, List.set_cons_zero, List.set_cons_succ])
    refine doH (i := 7) rfl (by kernel_rfl) (by rfl) (fun K hK => ?_)
    go_simp
    have hbE := hbC.alloc hbC.size (.cells #[.int .i64 n, .slice oc ka cc] 33)
    have hME : Blk (wC.alloc (.cells #[.int .i64 n, .slice oc ka cc] 33)) wC.heap.size 33 #[.int .i64 n, .slice oc ka cc] := Blk.new _ _ _
    have hCE : Own (wC.alloc (.cells #[.int .i64 n, .slice oc ka cc] 33)) wS.heap.size (.slice oc ka cc) (ofM x) := World.ownsRow.alloc hvC _
    have hgmB : wS.heap.size ≤ wC.heap.size := hbC.size
    obtain ⟨wE, hwE⟩ : ∃ wE, wC.alloc (.cells #[.int .i64 n, .slice oc ka cc] 33) = wE := ⟨_, rfl⟩
    obtain ⟨gm, hgm⟩ : ∃ gm, wC.heap.size = gm := ⟨_, rfl⟩
    rw [hwE] at hbE hME hCE ⊢
    rw [hgm] at hME hgmB ⊢
    refine hK.out _ _ ?_ (fun hHeld7 => ?_)
    · (refine HKQ.out _ ?_; first | exact hbE | exact hbD | exact hbC | exact (Below.refl _ _).drew | exact Below.refl _ _)
    clear hK K
    (try simp only [Act.put, List.setIfInBounds_toArray, List.set_cons_zero, List.set_cons_succ])
    refine wpAnyH_done (by kernel_rfl) ?_ _
    simp only [onlyN]
    have hTE := (hT.below hbS hT.lt).below hbE (hT.below hbS hT.lt).lt
    have hRBE := (hRB.below hbS hRB.lt).below hbE (hRB.below hbS hRB.lt).lt
    have hOE := (hO.below hbS hO.lt).below hbE (hO.below hbS hO.lt).lt
    have hSE := (hS0.below hbS).below hbE
    have hBE := (hB0.trans (hbS.mono hB0.size)).trans (hbE.mono (hB0.trans (hbS.mono hB0.size)).size)
    obtain ⟨wL, hwL⟩ : ∃ wL, wE.alloc (.cells #[.slice ob k c] 22) = wL := ⟨_, rfl⟩
    obtain ⟨gl, hgl⟩ : ∃ gl, wE.heap.size = gl := ⟨_, rfl⟩
    have e1 := ld_sl (hRBE.cell 1)
    have e2 : (loadVar 3 ⟨B + 1 + 1, 0, none⟩).run Try.prog wL = .ok (.int .i64 q) wL := ld_int ((show Blk wL (B + 1 + 1) 33 #[.int .i64 q, .slice ob k c] by rw [← hwL]; exact hRBE.alloc _).cell 0)
    have HWL := Lib.hid hwL
    gi_wp2_with (first | rw [HWL.out] | (rw [hgl]))
    refine ⟨trivial, ?_⟩
    refine (stretches_in _ _ _).mono ?_
    rintro e w2 ⟨rfl, hw2⟩
    have hgmlt : gm < gl := by rw [← hgl]; exact hME.lt
    have hBgl : B + 1 + 1 + 1 < gl := by rw [← hgl]; exact hOE.lt
    have hSsz : B + 1 + 1 + 1 < wS.heap.size := by have := hbS.size; omega
    have hBgm : B + 1 + 1 + 1 < gm := by omega
    have hLs : wL.heap.size = gl + 1 := by rw [← HWL.out]; simp [hgl]
    have hT2 : Blk w2 B 29 tabV := by rw [← hw2, ← HWL.out]; exact (hTE.alloc _).alloc _
    have hO2 : Blk w2 (B + 1 + 1 + 1) 33 #[.int .i64 0, .slice none 0 0] := by rw [← hw2, ← HWL.out]; exact (hOE.alloc _).alloc _
    have hM2 : Blk w2 gm 33 #[.int .i64 n, .slice oc ka cc] := by rw [← hw2, ← HWL.out]; exact (hME.alloc _).alloc _
    have hL2 : Blk w2 gl 22 #[.slice ob k c] := by rw [← hw2, ← HWL.out]; exact (Blk.new_at hgl.symm).alloc _
    have hI2 : Blk w2 (gl + 1) 3 #[.int .i64 q] := by rw [← hw2]; exact Blk.new_at hLs.symm
    have hC2 : Own w2 wS.heap.size (.slice oc ka cc) (ofM x) := by rw [← hw2, ← HWL.out]; exact World.ownsRow.alloc (World.ownsRow.alloc hCE _) _
    have hB2 : Below w.heap.size w w2 := by rw [← hw2, ← HWL.out]; exact (hBE.alloc hBE.size _).alloc (by simp; have := hBE.size; omega) _
    have hs2 : w2.heap.size = gl + 1 + 1 := by rw [← hw2]; simp [hLs]
    rw [hLs]
    clear hw2 e1 e2 hTE hOE hME hRBE hCE hBE hSE hHeld7 HKQ hbE hgl HWL
    gi_wp2_with fail
    have HH := str1_hands (Lib.hid lenOf) (7 - 1) (gl + 1) (by omega) (q : Int) (by omega) w2 hI2.lt (hI2.cell 0)
    rw [Int.toNat_natCast] at HH
    refine range_hands (by omega) (gf := 46) (lb := #[.pointer (some ⟨gl + 1, 0, none⟩)]) rfl (enters_of Try.func46 (by kernel_rfl) rfl) HH (fun _ => rfl)
      (fun pre W => (∃ (ov : Option Addr) (kv cv bv : Nat) (o' : Option Addr), Blk W B 29 tabV ∧ Blk W (B + 1 + 1 + 1) 33 #[.int .i64 0, .slice none 0 0] ∧ Blk W gm 33 #[.int .i64 ((n + pre.sum : Nat) : Int), .slice ov kv cv] ∧ Own W bv (.slice ov kv cv) (ofM (x ++ y.take pre.sum)) ∧ Blk W gl 22 #[.slice o' (k - pre.length) (c - pre.length)] ∧ (pre.length < k → o' = ob.map (·.add pre.length)) ∧ gl + 1 + 1 ≤ W.heap.size ∧ B + 1 + 1 + 1 < bv) ∧ Below w.heap.size w W)
      (OwnFrom.and (fun s A B' row hs hg hr => by
        obtain ⟨ov, kv, cv, bv, o', h1, h2, h3, h4, h5, h6, h7, h8⟩ := hs
        exact ⟨ov, kv, cv, bv, o', h1.grown hg (fun e => by have := (hr _ e.symm).1; omega), h2.grown hg (fun e => by have := (hr _ e.symm).1; omega), h3.grown hg (fun e => by have := (hr _ e.symm).1; omega), own_kept h4 hg hr, h5.grown hg (fun e => by have := (hr _ e.symm).1; omega), h6, Nat.le_trans h7 hg.size, h8⟩) (ownFrom_below (Nat.le_refl _) (by omega)))
      ⟨⟨oc, ka, cc, wS.heap.size, ob, hT2, hO2, by simpa using hM2, by simpa using hC2, by simpa using hL2, fun _ => by cases ob <;> rfl, by omega, by omega⟩, hB2⟩
      (fun xx => { tmps := #[.agg tabV, .agg #[.int .i64 n, .slice ova ka ca], .agg #[.int .i64 q, .slice ob k c], .pointer (some ⟨B, 0, none⟩), .pointer (some ⟨B + 1, 0, none⟩), .pointer (some ⟨B + 1 + 1, 0, none⟩), .pointer (some ⟨B + 1 + 1 + 1, 0, none⟩), .int .i64 0, .pointer (some ⟨gm, 0, none⟩), .pointer (some ⟨gl, 0, none⟩), .int .i64 ((xx : Nat) : Int), .pointer (some ⟨B + 1, 0, none⟩), .int .i64 n, .bool true, .bool true, .pointer (some ⟨B + 1 + 1, 0, none⟩), .int .i64 q, .pointer (some ⟨B + 1, 0, none⟩), .int .i64 n, .int .i64 low, .bool false, .bool false, undef, .pointer (some ⟨B + 1, 0, none⟩), .int .i64 n, .pointer (some ⟨B + 1, 1, none⟩), .slice ova ka ca, .slice oc ka cc, .agg #[.int .i64 n, .slice oc ka cc], .pointer (some ⟨B + 1 + 1, 1, none⟩), .slice ob k c, .pointer (some ⟨B + 1 + 1, 0, none⟩), .int .i64 q, .func (.func 46) #[] #[.pointer (some ⟨gl + 1, 0, none⟩)], .int .i64 ((xx : Nat) : Int), undef, undef, undef, undef, undef, undef, undef, undef, undef, undef, undef, undef, undef], defers := [] }) ?assign ?body ?done
    case assign =>
      intro l x W K hK
      gi_wp2
      exact hK
    case body =>
      rintro l pre s rest W hxx ⟨⟨ov, kv, cv, bv, o', hT', hO', hM', hown', hL', ho, hsz, hbv⟩, hBW⟩
      clear hT2 hL2 hO2 hI2 hB2 HH hM2 hC2
      obtain ⟨hs1, hsq, hpl⟩ : 0 < s ∧ pre.sum + s ≤ q ∧ pre.length < 64 := by
        rcases prefix_sum hxx with h | h
        · exact h
        · omega
      obtain ⟨hgR, hik⟩ := of_getD (y := y) (pre := pre) (s := s) (rest := rest) (by rw [hy]; exact hxx)
      rw [hk] at hik
      have HPJ := Lib.hid (putM_join x y (by rw [hx, hy, hlow]; intro h; omega) pre rest s (by rw [hy]; exact hxx))
      rw [hx] at HPJ
      obtain ⟨j, hj, _⟩ := strL_part q pre rest s hxx
      obtain ⟨a, hoba, hab, hcell⟩ := HBS.out pre.length (by rw [hk]; exact hik)
      rw [hgR] at hcell
      have hcW : W.cell? (a.add pre.length) = some (.string (rootM ((y.drop pre.sum).take s))) := (hBW.cell (by rw [add_block]; exact hab)).trans hcell
      have ho' := ho hik
      rw [hoba, Option.map_some] at ho'
      subst ho'
      obtain ⟨hkv, hsv, hkcv, hnilv⟩ := own_facts hown'
      have hkv64 : kv ≤ 100 := by
        rw [← hkv, ofM_length, List.length_append, List.length_take]
        have := strL_len 63 (x.length + min pre.sum y.length) (by have : (2 : Nat) ^ 63 = 9223372036854775808 := by decide
                                                                  omega)
        omega
      have hzz : Sz (x ++ y.take pre.sum) := by
        intro u hu
        rcases List.mem_append.1 hu with h | h
        · exact hzx u h
        · exact hzy u (List.mem_of_mem_take h)
      have hRs := rootM_sz ((hzy.drop pre.sum).take s)
      have HPUT : Hid (∀ W', Strs W' ov (ofM (x ++ y.take pre.sum)) → Calls Try.prog 35 #[.agg tabV, .agg #[.int .i64 ((n + pre.sum : Nat) : Int), .slice ov kv cv], .int .i64 ((s : Nat) : Int), .string (rootM ((y.drop pre.sum).take s))] W' (RP (n + pre.sum + s) (ofM (x ++ y.take (pre.sum + s))) W')) := Lib.hid (fun W' hW' => by
        have h := put_any (n + pre.sum) j (by omega) (by rw [← hj]; omega) ov kv cv (ofM (x ++ y.take pre.sum)) (rootM ((y.drop pre.sum).take s)) hkv (by omega) hkcv hnilv (sz_chk hzz) hRs W' hW'
        rw [← hj, HPJ.out] at h
        exact h)
      have HSU := Lib.hid (show (pre ++ [s]).sum = pre.sum + s by simp)
      have HLE := Lib.hid (show (pre ++ [s]).length = pre.length + 1 by simp)
      have hsvd : Strs W.drew ov (ofM (x ++ y.take pre.sum)) := hsv
      have hkk0 : 0 < k - pre.length := by omega
      have hkkc : k - pre.length ≤ c - pre.length := by omega
      have HK1 := Lib.hid (show k - (pre.length + 1) = k - pre.length - 1 by omega)
      have HC1 := Lib.hid (show c - (pre.length + 1) = c - pre.length - 1 by omega)
      have HO2 := Lib.hid (show pre.length + 1 < k → (if c - pre.length = 1 then some (a.add pre.length) else (some (a.add pre.length)).map (·.add 1)) = ob.map (·.add (pre.length + 1)) from fun h => by
        rw [if_neg (by omega), hoba, Option.map_some, Option.map_some, add_add])
      generalize rootM ((y.drop pre.sum).take s) = R at *
      generalize ofM (x ++ y.take pre.sum) = F at *
      generalize pre.sum = A at *
      generalize pre.length = i at *
      generalize k - i = kk at *
      generalize c - i = ck at *
      have HS2 := slice_off (some (a.add i)) kk ck 1 (by omega) hkkc
      rw [show ((1 : Nat) : Int) = 1 from rfl] at HS2
      generalize (if ck = 1 then some (a.add i) else (some (a.add i)).map (·.add 1)) = o2 at *
      obtain ⟨N2, hN2⟩ : ∃ N2 : Nat, n + A + s = N2 := ⟨_, rfl⟩
      rw [hN2] at HPUT
      have HN2 := Lib.hid (show n + (A + s) = N2 by omega)
      generalize n + A = N1 at *
      have hk0 : ((kk : Int) == 0) = false := by rw [beq_eq_false_iff_ne]; omega
      have hkkI : (0 : Int) < (kk : Int) := by omega
      have hae : a.block < gm := by omega
      have hae2 : a.block ≠ gl := by omega
      have HKP := Lib.hid (show ∀ W', Blk W' B 29 tabV → Blk W' gl 22 #[.slice (some (a.add i)) kk ck] → W'.cell? (a.add i) = some (.string R) → (loadVar 29 ⟨B, 0, none⟩).run Try.prog W' = .ok (.agg tabV) W' ∧ (loadVar 22 ⟨gl, 0, none⟩).run Try.prog W' = .ok (.slice (some (a.add i)) kk ck) W' ∧ (loadVar 9 (a.add i)).run Try.prog W' = .ok (.string R) W' from fun W' h1 h2 h3 => ⟨tab_run h1, ld_sl (h2.cell 0), txt_load h3⟩)
      have hTd : Blk W.drew B 29 tabV := hT'
      have hLd : Blk W.drew gl 22 #[.slice (some (a.add i)) kk ck] := hL'
      have hcd : W.drew.cell? (a.add i) = some (.string R) := hcW
      have rD : (loadVar 33 ⟨gm, 0, none⟩).run Try.prog W.drew = .ok (.agg #[.int .i64 N1, .slice ov kv cv]) W.drew := ld_rng (show Blk W.drew gm 33 #[.int .i64 N1, .slice ov kv cv] from hM')
      have q9 := ld_sl (hL'.cell 0)
      have mixed : Try.prog.follows Departure.mixedOrders = true := by kernel_rfl
      clear hxx ho HPJ hcell hgR hoba hown' hsv hj hN2 hkv
      gi_wp2_with fail
      refine region_round (S := fun W' => (loadVar 29 ⟨B, 0, none⟩).run Try.prog W' = .ok (.agg tabV) W' ∧ (loadVar 22 ⟨gl, 0, none⟩).run Try.prog W' = .ok (.slice (some (a.add i)) kk ck) W' ∧ (loadVar 9 (a.add i)).run Try.prog W' = .ok (.string R) W') (by kernel_rfl) mixed ?_ (fun hHeld0 => ?_)
      · (first | exact HKP.out _ hTd hLd hcd | exact HKP.out _ t1 l1 c1 | exact HKP.out _ ((t1.far (by show B ≠ gm; omega) _).far (by show B ≠ gm; omega) _) ((l1.far (by show gl ≠ gm; omega) _).far (by show gl ≠ gm; omega) _) c3)
      apply takeH (i := 0) rfl (by kernel_rfl) (by kernel_rfl) (by kernel_rfl) (fun _ _ _ h => h) (by rfl)
      case hy => (intro w hSw; (try dsimp only at hSw); go_simp; try with_reducible rfl)
      case hS => assumption
      (try simp only [Act.put, List.setIfInBounds_toArray, List.set_cons_zero, List.set_cons_succ])
      apply takeH (i := 2) rfl (by kernel_rfl) (by kernel_rfl) (by kernel_rfl) (fun _ _ _ h => h) (by rfl)
      case hy => (intro w hSw; (try dsimp only at hSw); go_simp; try with_reducible rfl)
      case hS => assumption
      (try simp only [Act.put, List.setIfInBounds_toArray, List.set_cons_zero, List.set_cons_succ])
      apply takeH (i := 3) rfl (by kernel_rfl) (by kernel_rfl) (by kernel_rfl) (fun _ _ _ h => h) (by rfl)
      case hy => (intro w hSw; (try dsimp only at hSw); go_simp; try with_reducible rfl)
      case hS => assumption
      (try simp only [Act.put, List.setIfInBounds_toArray, List.set_cons_zero, List.set_cons_succ])
      apply takeH (i := 4) rfl (by kernel_rfl) (by kernel_rfl) (by kernel_rfl) (fun _ _ _ h => h) (by rfl)
      case hy => (intro w hSw; (try dsimp only at hSw); go_simp; try with_reducible rfl)
      case hS => assumption
      (try simp only [Act.put, List.setIfInBounds_toArray, List.set_cons_zero, List.set_cons_succ])
      apply takeH (i := 5) rfl (by kernel_rfl) (by kernel_rfl) (by kernel_rfl) (fun _ _ _ h => h) (by rfl)
      case hy => (intro w hSw; (try dsimp only at hSw); go_simp; try with_reducible rfl)
      case hS => assumption
      (try simp only [Act.put, List.setIfInBounds_toArray, List.set_cons_zero, List.set_cons_succ])
      refine doH (i := 1) rfl (by kernel_rfl) (by rfl) (fun K hK => ?_)
      go_simp
      refine hK.out _ _ ?_ (fun hHeld1 => ?_)
      · (first | exact HKP.out _ hTd hLd hcd | exact HKP.out _ t1 l1 c1 | exact HKP.out _ ((t1.far (by show B ≠ gm; omega) _).far (by show B ≠ gm; omega) _) ((l1.far (by show gl ≠ gm; omega) _).far (by show gl ≠ gm; omega) _) c3)
      clear hK K
      (try simp only [Act.put, List.setIfInBounds_toArray, List.set_cons_zero, List.set_cons_succ])
      refine doH (i := 6) rfl (by kernel_rfl) (by rfl) (fun K hK => ?_)
      go_simp
      refine (HPUT.out _ hsvd).mono ?_
      rintro e w1 ⟨v1, rfl, hv1, hb1'⟩
      obtain ⟨ox, cx, hvv, _⟩ := hv1.formd
      obtain ⟨kx, hkx⟩ : ∃ kx, (ofM (x ++ y.take (A + s))).length = kx := ⟨_, rfl⟩
      rw [hkx] at hvv
      subst hvv
      have hb1 : Below W.heap.size W w1 := (Below.refl _ _).drew.trans hb1'
      have t1 := hT'.below hb1 hT'.lt
      have l1 := hL'.below hb1 hL'.lt
      have m1 := hM'.below hb1 hM'.lt
      have o1 := hO'.below hb1 hO'.lt
      have c1 : w1.cell? (a.add i) = some (.string R) := (hb1.cell (by rw [add_block]; have := hBW.size; omega)).trans hcW
      have own1 : Own w1 W.heap.size (.slice ox kx cx) (ofM (x ++ y.take (A + s))) := hv1
      have hBW1 := hBW.trans (hb1.mono hBW.size)
      have s0 : w1.cell? ⟨gm, 0, none⟩ = some (.int .i64 N1) := m1.cell 0
      have s1 : w1.cell? ⟨gm, 1, none⟩ = some (.slice ov kv cv) := m1.cell 1
      have f0 := m1.frozen 0
      have f1 := m1.frozen 1
      have c3 : ((w1.setCell ⟨gm, 0, none⟩ (.int .i64 N2)).setCell ⟨gm, 1, none⟩ (.slice ox kx cx)).cell? (a.add i) = some (.string R) := by
        rw [World.cell?_setCell_other _ _ _ _ (by intro h; have := congrArg Addr.block h; rw [add_block] at this; have h2 : gm = a.block := this; omega), World.cell?_setCell_other _ _ _ _ (by intro h; have := congrArg Addr.block h; rw [add_block] at this; have h2 : gm = a.block := this; omega)]
        exact c1
      go_wp2_with fail
      refine hK.out _ _ ?_ (fun hHeld6 => ?_)
      · (first | exact HKP.out _ hTd hLd hcd | exact HKP.out _ t1 l1 c1 | exact HKP.out _ ((t1.far (by show B ≠ gm; omega) _).far (by show B ≠ gm; omega) _) ((l1.far (by show gl ≠ gm; omega) _).far (by show gl ≠ gm; omega) _) c3)
      clear hK K
      (try simp only [Act.put, List.setIfInBounds_toArray, List.set_cons_zero, List.set_cons_succ])
      refine doH (i := 7) rfl (by kernel_rfl) (by rfl) (fun K hK => ?_)
      go_simp
      refine hK.out _ _ ?_ (fun hHeld7 => ?_)
      · (first | exact HKP.out _ hTd hLd hcd | exact HKP.out _ t1 l1 c1 | exact HKP.out _ ((t1.far (by show B ≠ gm; omega) _).far (by show B ≠ gm; omega) _) ((l1.far (by show gl ≠ gm; omega) _).far (by show gl ≠ gm; omega) _) c3)
      clear hK K
      (try simp only [Act.put, List.setIfInBounds_toArray, List.set_cons_zero, List.set_cons_succ])
      refine wpAnyH_done (by kernel_rfl) ?_ _
      simp only [onlyN]
      have t3 := (t1.far (p := ⟨gm, 0, none⟩) (by show B ≠ gm; omega) (.int .i64 N2)).far (p := ⟨gm, 1, none⟩) (by show B ≠ gm; omega) (.slice ox kx cx)
      have l3 := (l1.far (p := ⟨gm, 0, none⟩) (by show gl ≠ gm; omega) (.int .i64 N2)).far (p := ⟨gm, 1, none⟩) (by show gl ≠ gm; omega) (.slice ox kx cx)
      have o3 := (o1.far (p := ⟨gm, 0, none⟩) (by show B + 1 + 1 + 1 ≠ gm; omega) (.int .i64 N2)).far (p := ⟨gm, 1, none⟩) (by show B + 1 + 1 + 1 ≠ gm; omega) (.slice ox kx cx)
      have m3 := (m1.set_ 0 (.int .i64 N2)).set_ 1 (.slice ox kx cx)
      have own3 := own_far (own_far own1 (p := ⟨gm, 0, none⟩) (by show gm < W.heap.size; omega) (.int .i64 N2)) (p := ⟨gm, 1, none⟩) (by show gm < W.heap.size; omega) (.slice ox kx cx)
      have hBW3 := (hBW1.setCell (p := ⟨gm, 0, none⟩) (by show w.heap.size ≤ gm; omega) (.int .i64 N2)).setCell (p := ⟨gm, 1, none⟩) (by show w.heap.size ≤ gm; omega) (.slice ox kx cx)
      have hKO : KeepsOthers W ((w1.setCell ⟨gm, 0, none⟩ (.int .i64 N2)).setCell ⟨gm, 1, none⟩ (.slice ox kx cx)) := ((KeepsOthers.of_grownBy (only_of_below (a := W) hb1 none) (fun _ _ h => by cases h)).trans (KeepsOthers.setCell _ _ _)).trans (KeepsOthers.setCell _ _ _)
      clear hHeld1 hHeld6 hHeld7 t1 l1 m1 o1 c1 own1 hBW1 s0 s1 f0 f1 c3 rD hcd hLd hTd q9 hv1 hb1' hb1 hsvd
      generalize (w1.setCell ⟨gm, 0, none⟩ (.int .i64 N2)).setCell ⟨gm, 1, none⟩ (.slice ox kx cx) = w3 at *
      have q3 := ld_sl (l3.cell 0)
      have c3 : w3.cell? ⟨gl, 0, none⟩ = some (.slice (some (a.add i)) kk ck) := l3.cell 0
      have f3 := l3.frozen 0
      have HT3 := Lib.hid t3
      have HL3 := Lib.hid l3
      have HO3 := Lib.hid o3
      have HM3 := Lib.hid m3
      have HOW3 := Lib.hid own3
      clear t3 l3 o3 m3 own3 hT' hO' hM' hL'
      gi_wp2
      refine ⟨hKO.trans (KeepsOthers.setCell _ _ _), ⟨ox, kx, cx, W.heap.size, o2, HT3.out.far (p := ⟨gl, 0, none⟩) (by show B ≠ gl; omega) _, HO3.out.far (p := ⟨gl, 0, none⟩) (by show B + 1 + 1 + 1 ≠ gl; omega) _, ?_, ?_, ?_, ?_, Nat.le_trans hsz (hKO.trans (KeepsOthers.setCell _ _ _)).size, by omega⟩, hBW3.setCell (p := ⟨gl, 0, none⟩) (by show w.heap.size ≤ gl; omega) _⟩
      · rw [HSU.out, HN2.out]
        exact HM3.out.far (p := ⟨gl, 0, none⟩) (by show gm ≠ gl; omega) _
      · rw [HSU.out]
        exact own_far HOW3.out (p := ⟨gl, 0, none⟩) (by show gl < W.heap.size; omega) _
      · rw [HLE.out, HK1.out, HC1.out]
        exact HL3.out.set_ 0 (.slice o2 (kk - 1) (ck - 1))
      · rw [HLE.out]
        exact HO2.out
    case done =>
      rintro D W hD ⟨⟨ov, kv, cv, bv, o', hT', hO', hM', hown', hL', _, _, hbv⟩, hBW⟩ hK
      rw [strL_sum] at hM' hown'
      rw [List.take_of_length_le (by omega)] at hown'
      obtain ⟨N, hN⟩ : ∃ N : Nat, n + q = N := ⟨_, rfl⟩
      rw [hN] at hM' HRJ
      have q0 := ld_rng hM'
      have s0 : W.cell? ⟨B + 1 + 1 + 1, 0, none⟩ = some (.int .i64 0) := hO'.cell 0
      have s1 : W.cell? ⟨B + 1 + 1 + 1, 1, none⟩ = some (.slice none 0 0) := hO'.cell 1
      have f0 := hO'.frozen 0
      have f1 := hO'.frozen 1
      have HK2 := Lib.hid (((KeepsOthers.setCell W ⟨B + 1 + 1 + 1, 0, none⟩ (.int .i64 N)).trans (KeepsOthers.setCell _ ⟨B + 1 + 1 + 1, 1, none⟩ (.slice ov kv cv))).same D _ hK rfl)
      have HRES := Lib.hid ((hO'.set_ 0 (.int .i64 N)).set_ 1 (.slice ov kv cv))
      have HOW := Lib.hid (own_far (own_far hown' (p := ⟨B + 1 + 1 + 1, 0, none⟩) hbv (.int .i64 N)) (p := ⟨B + 1 + 1 + 1, 1, none⟩) hbv (.slice ov kv cv))
      have HBW := Lib.hid ((hBW.setCell (p := ⟨B + 1 + 1 + 1, 0, none⟩) (by show w.heap.size ≤ B + 1 + 1 + 1; omega) (.int .i64 N)).setCell (p := ⟨B + 1 + 1 + 1, 1, none⟩) (by show w.heap.size ≤ B + 1 + 1 + 1; omega) (.slice ov kv cv))
      clear hT' hL' hO' hM' hown' hBW hT2 hL2 hO2 hI2 hB2 HH hM2 hC2
      gi_wp2
      refine ⟨by simp, .inl ⟨_, _, rfl, run_takeDeferred HK2.out, ?_⟩⟩
      refine ⟨_, results_rng rfl _ _ (B + 1 + 1 + 1) 33 #[.int .i64 N, .slice ov kv cv] _ rfl ((World.putObj_heap_other (by omega)).trans HRES.out) Try.underlying33 rfl infoRange, ?_⟩
      rw [HRJ.out]
      exact ⟨⟨_, rfl, World.ownsRow.mono (ownsRow_putObj HOW.out _ HK2.out rfl) (by omega)⟩, HBW.out.trans (belowK_b (w := w) (Nat.le_refl _) _ D _ _ (by omega) HK2.out rfl rfl)⟩
  · have hbD : Below wS.heap.size wS (wS.drew.alloc (.cells #[.int .i64 0, .slice none 0 0] 33)) := (Below.refl _ _).drew.alloc (Nat.le_refl _) _
    go_simp
    refine hK.out _ _ ?_ (fun hHeld6 => ?_)
    · (refine HKQ.out _ ?_; first | exact hbE | exact hbD | exact hbC | exact (Below.refl _ _).drew | exact Below.refl _ _)
    clear hK K
    (try simp only [Act.put, List.setIfInBounds_toArray, List.set_cons_zero, List.set_cons_succ])
    refine doH (i := 4) rfl (by kernel_rfl) (by rfl) (fun K hK => ?_)
    go_simp
    refine (HCL.out _ (hAS.below hHeld6.2)).mono ?_
    rintro e wC ⟨vC, rfl, hvC, hbC'⟩
    obtain ⟨oc, cc, hvv, _⟩ := hvC.formd
    rw [HKA.out] at hvv
    subst hvv
    have hbC : Below wS.heap.size wS wC := hHeld6.2.trans (hbC'.mono hHeld6.2.size)
    go_wp2_with fail
    refine hK.out _ _ ?_ (fun hHeld4 => ?_)
    · (refine HKQ.out _ ?_; first | exact hbE | exact hbD | exact hbC | exact (Below.refl _ _).drew | exact Below.refl _ _)
    clear hK K
    (try simp only [Act.put, List.setIfInBounds_toArray, List.set_cons_zero, List.set_cons_succ])
    apply takeH (i := 5) rfl (by kernel_rfl) (by kernel_rfl) (by kernel_rfl) (fun _ _ _ h => h) (by rfl)
    case hy => (intro w hSw; (try dsimp only at hSw); go_simp; try with_reducible rfl)
    case hS => assumption
    (try simp only [Act.put, List.setIfInBounds_toArray, List.set_cons_zero, List.set_cons_succ])
    have hX6 : Blk wC wS.heap.size 33 #[.int .i64 0, .slice none 0 0] := Blk.below (show Blk (wS.drew.alloc (.cells #[.int .i64 0, .slice none 0 0] 33)) wS.heap.size 33 #[.int .i64 0, .slice none 0 0] from Blk.new wS.drew _ _) hbC' (by simp)
    have c0 : wC.cell? ⟨wS.heap.size, 0, none⟩ = some (.int .i64 0) := hX6.cell 0
    have c1' : wC.cell? ⟨wS.heap.size, 1, none⟩ = some (.slice none 0 0) := hX6.cell 1
    have f0 := hX6.frozen 0
    have f1 := hX6.frozen 1
    refine doH (i := 7) rfl (by kernel_rfl) (by rfl) (fun K hK => ?_)
    go_simp
    have hbE := (hbC.setCell (p := ⟨wS.heap.size, 0, none⟩) (Nat.le_refl _) (.int .i64 n)).setCell (p := ⟨wS.heap.size, 1, none⟩) (Nat.le_refl _) (.slice oc ka cc)
    have hME : Blk ((wC.setCell ⟨wS.heap.size, 0, none⟩ (.int .i64 n)).setCell ⟨wS.heap.size, 1, none⟩ (.slice oc ka cc)) wS.heap.size 33 #[.int .i64 n, .slice oc ka cc] := (hX6.set_ 0 (.int .i64 n)).set_ 1 (.slice oc ka cc)
    have hCE : Own ((wC.setCell ⟨wS.heap.size, 0, none⟩ (.int .i64 n)).setCell ⟨wS.heap.size, 1, none⟩ (.slice oc ka cc)) wS.heap.size (.slice oc ka cc) (ofM x) := (own_far (own_far hvC (p := ⟨wS.heap.size, 0, none⟩) (by simp) (.int .i64 n)) (p := ⟨wS.heap.size, 1, none⟩) (by simp) (.slice oc ka cc)).mono (by simp)
    have hgmB : wS.heap.size ≤ wS.heap.size := Nat.le_refl _
    obtain ⟨wE, hwE⟩ : ∃ wE, (wC.setCell ⟨wS.heap.size, 0, none⟩ (.int .i64 n)).setCell ⟨wS.heap.size, 1, none⟩ (.slice oc ka cc) = wE := ⟨_, rfl⟩
    obtain ⟨gm, hgm⟩ : ∃ gm, wS.heap.size = gm := ⟨_, rfl⟩
    rw [hwE] at hbE hME hCE ⊢
    rw [hgm] at hME ⊢
    have hgmB : wS.heap.size ≤ gm := by omega
    refine hK.out _ _ ?_ (fun hHeld7 => ?_)
    · (refine HKQ.out _ ?_; first | exact hbE | exact hbD | exact hbC | exact (Below.refl _ _).drew | exact Below.refl _ _)
    clear hK K
    (try simp only [Act.put, List.setIfInBounds_toArray, List.set_cons_zero, List.set_cons_succ])
    refine wpAnyH_done (by kernel_rfl) ?_ _
    simp only [onlyN]
    have hTE := (hT.below hbS hT.lt).below hbE (hT.below hbS hT.lt).lt
    have hRBE := (hRB.below hbS hRB.lt).below hbE (hRB.below hbS hRB.lt).lt
    have hOE := (hO.below hbS hO.lt).below hbE (hO.below hbS hO.lt).lt
    have hSE := (hS0.below hbS).below hbE
    have hBE := (hB0.trans (hbS.mono hB0.size)).trans (hbE.mono (hB0.trans (hbS.mono hB0.size)).size)
    obtain ⟨wL, hwL⟩ : ∃ wL, wE.alloc (.cells #[.slice ob k c] 22) = wL := ⟨_, rfl⟩
    obtain ⟨gl, hgl⟩ : ∃ gl, wE.heap.size = gl := ⟨_, rfl⟩
    have e1 := ld_sl (hRBE.cell 1)
    have e2 : (loadVar 3 ⟨B + 1 + 1, 0, none⟩).run Try.prog wL = .ok (.int .i64 q) wL := ld_int ((show Blk wL (B + 1 + 1) 33 #[.int .i64 q, .slice ob k c] by rw [← hwL]; exact hRBE.alloc _).cell 0)
    have HWL := Lib.hid hwL
    gi_wp2_with (first | rw [HWL.out] | (rw [hgl]))
    refine ⟨trivial, ?_⟩
    refine (stretches_in _ _ _).mono ?_
    rintro e w2 ⟨rfl, hw2⟩
    have hgmlt : gm < gl := by rw [← hgl]; exact hME.lt
    have hBgl : B + 1 + 1 + 1 < gl := by rw [← hgl]; exact hOE.lt
    have hSsz : B + 1 + 1 + 1 < wS.heap.size := by have := hbS.size; omega
    have hBgm : B + 1 + 1 + 1 < gm := by omega
    have hLs : wL.heap.size = gl + 1 := by rw [← HWL.out]; simp [hgl]
    have hT2 : Blk w2 B 29 tabV := by rw [← hw2, ← HWL.out]; exact (hTE.alloc _).alloc _
    have hO2 : Blk w2 (B + 1 + 1 + 1) 33 #[.int .i64 0, .slice none 0 0] := by rw [← hw2, ← HWL.out]; exact (hOE.alloc _).alloc _
    have hM2 : Blk w2 gm 33 #[.int .i64 n, .slice oc ka cc] := by rw [← hw2, ← HWL.out]; exact (hME.alloc _).alloc _
    have hL2 : Blk w2 gl 22 #[.slice ob k c] := by rw [← hw2, ← HWL.out]; exact (Blk.new_at hgl.symm).alloc _
    have hI2 : Blk w2 (gl + 1) 3 #[.int .i64 q] := by rw [← hw2]; exact Blk.new_at hLs.symm
    have hC2 : Own w2 wS.heap.size (.slice oc ka cc) (ofM x) := by rw [← hw2, ← HWL.out]; exact World.ownsRow.alloc (World.ownsRow.alloc hCE _) _
    have hB2 : Below w.heap.size w w2 := by rw [← hw2, ← HWL.out]; exact (hBE.alloc hBE.size _).alloc (by simp; have := hBE.size; omega) _
    have hs2 : w2.heap.size = gl + 1 + 1 := by rw [← hw2]; simp [hLs]
    rw [hLs]
    clear hw2 e1 e2 hTE hOE hME hRBE hCE hBE hSE hHeld7 HKQ hbE hgl HWL
    gi_wp2_with fail
    have HH := str1_hands (Lib.hid lenOf) (7 - 1) (gl + 1) (by omega) (q : Int) (by omega) w2 hI2.lt (hI2.cell 0)
    rw [Int.toNat_natCast] at HH
    refine range_hands (by omega) (gf := 46) (lb := #[.pointer (some ⟨gl + 1, 0, none⟩)]) rfl (enters_of Try.func46 (by kernel_rfl) rfl) HH (fun _ => rfl)
      (fun pre W => (∃ (ov : Option Addr) (kv cv bv : Nat) (o' : Option Addr), Blk W B 29 tabV ∧ Blk W (B + 1 + 1 + 1) 33 #[.int .i64 0, .slice none 0 0] ∧ Blk W gm 33 #[.int .i64 ((n + pre.sum : Nat) : Int), .slice ov kv cv] ∧ Own W bv (.slice ov kv cv) (ofM (x ++ y.take pre.sum)) ∧ Blk W gl 22 #[.slice o' (k - pre.length) (c - pre.length)] ∧ (pre.length < k → o' = ob.map (·.add pre.length)) ∧ gl + 1 + 1 ≤ W.heap.size ∧ B + 1 + 1 + 1 < bv) ∧ Below w.heap.size w W)
      (OwnFrom.and (fun s A B' row hs hg hr => by
        obtain ⟨ov, kv, cv, bv, o', h1, h2, h3, h4, h5, h6, h7, h8⟩ := hs
        exact ⟨ov, kv, cv, bv, o', h1.grown hg (fun e => by have := (hr _ e.symm).1; omega), h2.grown hg (fun e => by have := (hr _ e.symm).1; omega), h3.grown hg (fun e => by have := (hr _ e.symm).1; omega), own_kept h4 hg hr, h5.grown hg (fun e => by have := (hr _ e.symm).1; omega), h6, Nat.le_trans h7 hg.size, h8⟩) (ownFrom_below (Nat.le_refl _) (by omega)))
      ⟨⟨oc, ka, cc, wS.heap.size, ob, hT2, hO2, by simpa using hM2, by simpa using hC2, by simpa using hL2, fun _ => by cases ob <;> rfl, by omega, by omega⟩, hB2⟩
      (fun xx => { tmps := #[.agg tabV, .agg #[.int .i64 n, .slice ova ka ca], .agg #[.int .i64 q, .slice ob k c], .pointer (some ⟨B, 0, none⟩), .pointer (some ⟨B + 1, 0, none⟩), .pointer (some ⟨B + 1 + 1, 0, none⟩), .pointer (some ⟨B + 1 + 1 + 1, 0, none⟩), .int .i64 0, .pointer (some ⟨gm, 0, none⟩), .pointer (some ⟨gl, 0, none⟩), .int .i64 ((xx : Nat) : Int), .pointer (some ⟨B + 1, 0, none⟩), .int .i64 n, .bool true, .bool true, .pointer (some ⟨B + 1 + 1, 0, none⟩), .int .i64 q, .pointer (some ⟨B + 1, 0, none⟩), .int .i64 n, .int .i64 low, .bool false, .bool false, undef, .pointer (some ⟨B + 1, 0, none⟩), .int .i64 n, .pointer (some ⟨B + 1, 1, none⟩), .slice ova ka ca, .slice oc ka cc, .agg #[.int .i64 n, .slice oc ka cc], .pointer (some ⟨B + 1 + 1, 1, none⟩), .slice ob k c, .pointer (some ⟨B + 1 + 1, 0, none⟩), .int .i64 q, .func (.func 46) #[] #[.pointer (some ⟨gl + 1, 0, none⟩)], .int .i64 ((xx : Nat) : Int), undef, undef, undef, undef, undef, undef, undef, undef, undef, undef, undef, undef, undef], defers := [] }) ?assign ?body ?done
    case assign =>
      intro l x W K hK
      gi_wp2
      exact hK
    case body =>
      rintro l pre s rest W hxx ⟨⟨ov, kv, cv, bv, o', hT', hO', hM', hown', hL', ho, hsz, hbv⟩, hBW⟩
      clear hT2 hL2 hO2 hI2 hB2 HH hM2 hC2
      obtain ⟨hs1, hsq, hpl⟩ : 0 < s ∧ pre.sum + s ≤ q ∧ pre.length < 64 := by
        rcases prefix_sum hxx with h | h
        · exact h
        · omega
      obtain ⟨hgR, hik⟩ := of_getD (y := y) (pre := pre) (s := s) (rest := rest) (by rw [hy]; exact hxx)
      rw [hk] at hik
      have HPJ := Lib.hid (putM_join x y (by rw [hx, hy, hlow]; intro h; omega) pre rest s (by rw [hy]; exact hxx))
      rw [hx] at HPJ
      obtain ⟨j, hj, _⟩ := strL_part q pre rest s hxx
      obtain ⟨a, hoba, hab, hcell⟩ := HBS.out pre.length (by rw [hk]; exact hik)
      rw [hgR] at hcell
      have hcW : W.cell? (a.add pre.length) = some (.string (rootM ((y.drop pre.sum).take s))) := (hBW.cell (by rw [add_block]; exact hab)).trans hcell
      have ho' := ho hik
      rw [hoba, Option.map_some] at ho'
      subst ho'
      obtain ⟨hkv, hsv, hkcv, hnilv⟩ := own_facts hown'
      have hkv64 : kv ≤ 100 := by
        rw [← hkv, ofM_length, List.length_append, List.length_take]
        have := strL_len 63 (x.length + min pre.sum y.length) (by have : (2 : Nat) ^ 63 = 9223372036854775808 := by decide
                                                                  omega)
        omega
      have hzz : Sz (x ++ y.take pre.sum) := by
        intro u hu
        rcases List.mem_append.1 hu with h | h
        · exact hzx u h
        · exact hzy u (List.mem_of_mem_take h)
      have hRs := rootM_sz ((hzy.drop pre.sum).take s)
      have HPUT : Hid (∀ W', Strs W' ov (ofM (x ++ y.take pre.sum)) → Calls Try.prog 35 #[.agg tabV, .agg #[.int .i64 ((n + pre.sum : Nat) : Int), .slice ov kv cv], .int .i64 ((s : Nat) : Int), .string (rootM ((y.drop pre.sum).take s))] W' (RP (n + pre.sum + s) (ofM (x ++ y.take (pre.sum + s))) W')) := Lib.hid (fun W' hW' => by
        have h := put_any (n + pre.sum) j (by omega) (by rw [← hj]; omega) ov kv cv (ofM (x ++ y.take pre.sum)) (rootM ((y.drop pre.sum).take s)) hkv (by omega) hkcv hnilv (sz_chk hzz) hRs W' hW'
        rw [← hj, HPJ.out] at h
        exact h)
      have HSU := Lib.hid (show (pre ++ [s]).sum = pre.sum + s by simp)
      have HLE := Lib.hid (show (pre ++ [s]).length = pre.length + 1 by simp)
      have hsvd : Strs W.drew ov (ofM (x ++ y.take pre.sum)) := hsv
      have hkk0 : 0 < k - pre.length := by omega
      have hkkc : k - pre.length ≤ c - pre.length := by omega
      have HK1 := Lib.hid (show k - (pre.length + 1) = k - pre.length - 1 by omega)
      have HC1 := Lib.hid (show c - (pre.length + 1) = c - pre.length - 1 by omega)
      have HO2 := Lib.hid (show pre.length + 1 < k → (if c - pre.length = 1 then some (a.add pre.length) else (some (a.add pre.length)).map (·.add 1)) = ob.map (·.add (pre.length + 1)) from fun h => by
        rw [if_neg (by omega), hoba, Option.map_some, Option.map_some, add_add])
      generalize rootM ((y.drop pre.sum).take s) = R at *
      generalize ofM (x ++ y.take pre.sum) = F at *
      generalize pre.sum = A at *
      generalize pre.length = i at *
      generalize k - i = kk at *
      generalize c - i = ck at *
      have HS2 := slice_off (some (a.add i)) kk ck 1 (by omega) hkkc
      rw [show ((1 : Nat) : Int) = 1 from rfl] at HS2
      generalize (if ck = 1 then some (a.add i) else (some (a.add i)).map (·.add 1)) = o2 at *
      obtain ⟨N2, hN2⟩ : ∃ N2 : Nat, n + A + s = N2 := ⟨_, rfl⟩
      rw [hN2] at HPUT
      have HN2 := Lib.hid (show n + (A + s) = N2 by omega)
      generalize n + A = N1 at *
      have hk0 : ((kk : Int) == 0) = false := by rw [beq_eq_false_iff_ne]; omega
      have hkkI : (0 : Int) < (kk : Int) := by omega
      have hae : a.block < gm := by omega
      have hae2 : a.block ≠ gl := by omega
      have HKP := Lib.hid (show ∀ W', Blk W' B 29 tabV → Blk W' gl 22 #[.slice (some (a.add i)) kk ck] → W'.cell? (a.add i) = some (.string R) → (loadVar 29 ⟨B, 0, none⟩).run Try.prog W' = .ok (.agg tabV) W' ∧ (loadVar 22 ⟨gl, 0, none⟩).run Try.prog W' = .ok (.slice (some (a.add i)) kk ck) W' ∧ (loadVar 9 (a.add i)).run Try.prog W' = .ok (.string R) W' from fun W' h1 h2 h3 => ⟨tab_run h1, ld_sl (h2.cell 0), txt_load h3⟩)
      have hTd : Blk W.drew B 29 tabV := hT'
      have hLd : Blk W.drew gl 22 #[.slice (some (a.add i)) kk ck] := hL'
      have hcd : W.drew.cell? (a.add i) = some (.string R) := hcW
      have rD : (loadVar 33 ⟨gm, 0, none⟩).run Try.prog W.drew = .ok (.agg #[.int .i64 N1, .slice ov kv cv]) W.drew := ld_rng (show Blk W.drew gm 33 #[.int .i64 N1, .slice ov kv cv] from hM')
      have q9 := ld_sl (hL'.cell 0)
      have mixed : Try.prog.follows Departure.mixedOrders = true := by kernel_rfl
      clear hxx ho HPJ hcell hgR hoba hown' hsv hj hN2 hkv
      gi_wp2_with fail
      refine region_round (S := fun W' => (loadVar 29 ⟨B, 0, none⟩).run Try.prog W' = .ok (.agg tabV) W' ∧ (loadVar 22 ⟨gl, 0, none⟩).run Try.prog W' = .ok (.slice (some (a.add i)) kk ck) W' ∧ (loadVar 9 (a.add i)).run Try.prog W' = .ok (.string R) W') (by kernel_rfl) mixed ?_ (fun hHeld0 => ?_)
      · (first | exact HKP.out _ hTd hLd hcd | exact HKP.out _ t1 l1 c1 | exact HKP.out _ ((t1.far (by show B ≠ gm; omega) _).far (by show B ≠ gm; omega) _) ((l1.far (by show gl ≠ gm; omega) _).far (by show gl ≠ gm; omega) _) c3)
      apply takeH (i := 0) rfl (by kernel_rfl) (by kernel_rfl) (by kernel_rfl) (fun _ _ _ h => h) (by rfl)
      case hy => (intro w hSw; (try dsimp only at hSw); go_simp; try with_reducible rfl)
      case hS => assumption
      (try simp only [Act.put, List.setIfInBounds_toArray, List.set_cons_zero, List.set_cons_succ])
      apply takeH (i := 2) rfl (by kernel_rfl) (by kernel_rfl) (by kernel_rfl) (fun _ _ _ h => h) (by rfl)
      case hy => (intro w hSw; (try dsimp only at hSw); go_simp; try with_reducible rfl)
      case hS => assumption
      (try simp only [Act.put, List.setIfInBounds_toArray, List.set_cons_zero, List.set_cons_succ])
      apply takeH (i := 3) rfl (by kernel_rfl) (by kernel_rfl) (by kernel_rfl) (fun _ _ _ h => h) (by rfl)
      case hy => (intro w hSw; (try dsimp only at hSw); go_simp; try with_reducible rfl)
      case hS => assumption
      (try simp only [Act.put, List.setIfInBounds_toArray, List.set_cons_zero, List.set_cons_succ])
      apply takeH (i := 4) rfl (by kernel_rfl) (by kernel_rfl) (by kernel_rfl) (fun _ _ _ h => h) (by rfl)
      case hy => (intro w hSw; (try dsimp only at hSw); go_simp; try with_reducible rfl)
      case hS => assumption
      (try simp only [Act.put, List.setIfInBounds_toArray, List.set_cons_zero, List.set_cons_succ])
      apply takeH (i := 5) rfl (by kernel_rfl) (by kernel_rfl) (by kernel_rfl) (fun _ _ _ h => h) (by rfl)
      case hy => (intro w hSw; (try dsimp only at hSw); go_simp; try with_reducible rfl)
      case hS => assumption
      (try simp only [Act.put, List.setIfInBounds_toArray, List.set_cons_zero, List.set_cons_succ])
      refine doH (i := 1) rfl (by kernel_rfl) (by rfl) (fun K hK => ?_)
      go_simp
      refine hK.out _ _ ?_ (fun hHeld1 => ?_)
      · (first | exact HKP.out _ hTd hLd hcd | exact HKP.out _ t1 l1 c1 | exact HKP.out _ ((t1.far (by show B ≠ gm; omega) _).far (by show B ≠ gm; omega) _) ((l1.far (by show gl ≠ gm; omega) _).far (by show gl ≠ gm; omega) _) c3)
      clear hK K
      (try simp only [Act.put, List.setIfInBounds_toArray, List.set_cons_zero, List.set_cons_succ])
      refine doH (i := 6) rfl (by kernel_rfl) (by rfl) (fun K hK => ?_)
      go_simp
      refine (HPUT.out _ hsvd).mono ?_
      rintro e w1 ⟨v1, rfl, hv1, hb1'⟩
      obtain ⟨ox, cx, hvv, _⟩ := hv1.formd
      obtain ⟨kx, hkx⟩ : ∃ kx, (ofM (x ++ y.take (A + s))).length = kx := ⟨_, rfl⟩
      rw [hkx] at hvv
      subst hvv
      have hb1 : Below W.heap.size W w1 := (Below.refl _ _).drew.trans hb1'
      have t1 := hT'.below hb1 hT'.lt
      have l1 := hL'.below hb1 hL'.lt
      have m1 := hM'.below hb1 hM'.lt
      have o1 := hO'.below hb1 hO'.lt
      have c1 : w1.cell? (a.add i) = some (.string R) := (hb1.cell (by rw [add_block]; have := hBW.size; omega)).trans hcW
      have own1 : Own w1 W.heap.size (.slice ox kx cx) (ofM (x ++ y.take (A + s))) := hv1
      have hBW1 := hBW.trans (hb1.mono hBW.size)
      have s0 : w1.cell? ⟨gm, 0, none⟩ = some (.int .i64 N1) := m1.cell 0
      have s1 : w1.cell? ⟨gm, 1, none⟩ = some (.slice ov kv cv) := m1.cell 1
      have f0 := m1.frozen 0
      have f1 := m1.frozen 1
      have c3 : ((w1.setCell ⟨gm, 0, none⟩ (.int .i64 N2)).setCell ⟨gm, 1, none⟩ (.slice ox kx cx)).cell? (a.add i) = some (.string R) := by
        rw [World.cell?_setCell_other _ _ _ _ (by intro h; have := congrArg Addr.block h; rw [add_block] at this; have h2 : gm = a.block := this; omega), World.cell?_setCell_other _ _ _ _ (by intro h; have := congrArg Addr.block h; rw [add_block] at this; have h2 : gm = a.block := this; omega)]
        exact c1
      go_wp2_with fail
      refine hK.out _ _ ?_ (fun hHeld6 => ?_)
      · (first | exact HKP.out _ hTd hLd hcd | exact HKP.out _ t1 l1 c1 | exact HKP.out _ ((t1.far (by show B ≠ gm; omega) _).far (by show B ≠ gm; omega) _) ((l1.far (by show gl ≠ gm; omega) _).far (by show gl ≠ gm; omega) _) c3)
      clear hK K
      (try simp only [Act.put, List.setIfInBounds_toArray, List.set_cons_zero, List.set_cons_succ])
      refine doH (i := 7) rfl (by kernel_rfl) (by rfl) (fun K hK => ?_)
      go_simp
      refine hK.out _ _ ?_ (fun hHeld7 => ?_)
      · (first | exact HKP.out _ hTd hLd hcd | exact HKP.out _ t1 l1 c1 | exact HKP.out _ ((t1.far (by show B ≠ gm; omega) _).far (by show B ≠ gm; omega) _) ((l1.far (by show gl ≠ gm; omega) _).far (by show gl ≠ gm; omega) _) c3)
      clear hK K
      (try simp only [Act.put, List.setIfInBounds_toArray, List.set_cons_zero, List.set_cons_succ])
      refine wpAnyH_done (by kernel_rfl) ?_ _
      simp only [onlyN]
      have t3 := (t1.far (p := ⟨gm, 0, none⟩) (by show B ≠ gm; omega) (.int .i64 N2)).far (p := ⟨gm, 1, none⟩) (by show B ≠ gm; omega) (.slice ox kx cx)
      have l3 := (l1.far (p := ⟨gm, 0, none⟩) (by show gl ≠ gm; omega) (.int .i64 N2)).far (p := ⟨gm, 1, none⟩) (by show gl ≠ gm; omega) (.slice ox kx cx)
      have o3 := (o1.far (p := ⟨gm, 0, none⟩) (by show B + 1 + 1 + 1 ≠ gm; omega) (.int .i64 N2)).far (p := ⟨gm, 1, none⟩) (by show B + 1 + 1 + 1 ≠ gm; omega) (.slice ox kx cx)
      have m3 := (m1.set_ 0 (.int .i64 N2)).set_ 1 (.slice ox kx cx)
      have own3 := own_far (own_far own1 (p := ⟨gm, 0, none⟩) (by show gm < W.heap.size; omega) (.int .i64 N2)) (p := ⟨gm, 1, none⟩) (by show gm < W.heap.size; omega) (.slice ox kx cx)
      have hBW3 := (hBW1.setCell (p := ⟨gm, 0, none⟩) (by show w.heap.size ≤ gm; omega) (.int .i64 N2)).setCell (p := ⟨gm, 1, none⟩) (by show w.heap.size ≤ gm; omega) (.slice ox kx cx)
      have hKO : KeepsOthers W ((w1.setCell ⟨gm, 0, none⟩ (.int .i64 N2)).setCell ⟨gm, 1, none⟩ (.slice ox kx cx)) := ((KeepsOthers.of_grownBy (only_of_below (a := W) hb1 none) (fun _ _ h => by cases h)).trans (KeepsOthers.setCell _ _ _)).trans (KeepsOthers.setCell _ _ _)
      clear hHeld1 hHeld6 hHeld7 t1 l1 m1 o1 c1 own1 hBW1 s0 s1 f0 f1 c3 rD hcd hLd hTd q9 hv1 hb1' hb1 hsvd
      generalize (w1.setCell ⟨gm, 0, none⟩ (.int .i64 N2)).setCell ⟨gm, 1, none⟩ (.slice ox kx cx) = w3 at *
      have q3 := ld_sl (l3.cell 0)
      have c3 : w3.cell? ⟨gl, 0, none⟩ = some (.slice (some (a.add i)) kk ck) := l3.cell 0
      have f3 := l3.frozen 0
      have HT3 := Lib.hid t3
      have HL3 := Lib.hid l3
      have HO3 := Lib.hid o3
      have HM3 := Lib.hid m3
      have HOW3 := Lib.hid own3
      clear t3 l3 o3 m3 own3 hT' hO' hM' hL'
      gi_wp2
      refine ⟨hKO.trans (KeepsOthers.setCell _ _ _), ⟨ox, kx, cx, W.heap.size, o2, HT3.out.far (p := ⟨gl, 0, none⟩) (by show B ≠ gl; omega) _, HO3.out.far (p := ⟨gl, 0, none⟩) (by show B + 1 + 1 + 1 ≠ gl; omega) _, ?_, ?_, ?_, ?_, Nat.le_trans hsz (hKO.trans (KeepsOthers.setCell _ _ _)).size, by omega⟩, hBW3.setCell (p := ⟨gl, 0, none⟩) (by show w.heap.size ≤ gl; omega) _⟩
      · rw [HSU.out, HN2.out]
        exact HM3.out.far (p := ⟨gl, 0, none⟩) (by show gm ≠ gl; omega) _
      · rw [HSU.out]
        exact own_far HOW3.out (p := ⟨gl, 0, none⟩) (by show gl < W.heap.size; omega) _
      · rw [HLE.out, HK1.out, HC1.out]
        exact HL3.out.set_ 0 (.slice o2 (kk - 1) (ck - 1))
      · rw [HLE.out]
        exact HO2.out
    case done =>
      rintro D W hD ⟨⟨ov, kv, cv, bv, o', hT', hO', hM', hown', hL', _, _, hbv⟩, hBW⟩ hK
      rw [strL_sum] at hM' hown'
      rw [List.take_of_length_le (by omega)] at hown'
      obtain ⟨N, hN⟩ : ∃ N : Nat, n + q = N := ⟨_, rfl⟩
      rw [hN] at hM' HRJ
      have q0 := ld_rng hM'
      have s0 : W.cell? ⟨B + 1 + 1 + 1, 0, none⟩ = some (.int .i64 0) := hO'.cell 0
      have s1 : W.cell? ⟨B + 1 + 1 + 1, 1, none⟩ = some (.slice none 0 0) := hO'.cell 1
      have f0 := hO'.frozen 0
      have f1 := hO'.frozen 1
      have HK2 := Lib.hid (((KeepsOthers.setCell W ⟨B + 1 + 1 + 1, 0, none⟩ (.int .i64 N)).trans (KeepsOthers.setCell _ ⟨B + 1 + 1 + 1, 1, none⟩ (.slice ov kv cv))).same D _ hK rfl)
      have HRES := Lib.hid ((hO'.set_ 0 (.int .i64 N)).set_ 1 (.slice ov kv cv))
      have HOW := Lib.hid (own_far (own_far hown' (p := ⟨B + 1 + 1 + 1, 0, none⟩) hbv (.int .i64 N)) (p := ⟨B + 1 + 1 + 1, 1, none⟩) hbv (.slice ov kv cv))
      have HBW := Lib.hid ((hBW.setCell (p := ⟨B + 1 + 1 + 1, 0, none⟩) (by show w.heap.size ≤ B + 1 + 1 + 1; omega) (.int .i64 N)).setCell (p := ⟨B + 1 + 1 + 1, 1, none⟩) (by show w.heap.size ≤ B + 1 + 1 + 1; omega) (.slice ov kv cv))
      clear hT' hL' hO' hM' hown' hBW hT2 hL2 hO2 hI2 hB2 HH hM2 hC2
      gi_wp2
      refine ⟨by simp, .inl ⟨_, _, rfl, run_takeDeferred HK2.out, ?_⟩⟩
      refine ⟨_, results_rng rfl _ _ (B + 1 + 1 + 1) 33 #[.int .i64 N, .slice ov kv cv] _ rfl ((World.putObj_heap_other (by omega)).trans HRES.out) Try.underlying33 rfl infoRange, ?_⟩
      rw [HRJ.out]
      exact ⟨⟨_, rfl, World.ownsRow.mono (ownsRow_putObj HOW.out _ HK2.out rfl) (by omega)⟩, HBW.out.trans (belowK_b (w := w) (Nat.le_refl _) _ D _ _ (by omega) HK2.out rfl rfl)⟩
set_option maxRecDepth 100000 in
set_option maxHeartbeats 8000000 in
theorem join_ok0 (n q : Nat) (ova : Option Addr) (ka ca : Nat) (ob : Option Addr) (k c : Nat) (x y : List ByteArray) (hx : x.length = n) (hy : y.length = q) (hn : n ≤ 64) (hq : q ≤ 64) (hka : (ofM x).length = ka) (_hkc : ka ≤ ca) (hna : ova = none → ka = 0 ∧ ca = 0) (hk : (ofM y).length = k) (hkb : k ≤ c) (hzx : Sz x) (hzy : Sz y) (hn0 : n = 0) (w : World) (hA : Strs w ova (ofM x)) (hBs : Strs w ob (ofM y)) :
    Calls Try.prog 20 #[.agg tabV, .agg #[.int .i64 n, .slice ova ka ca], .agg #[.int .i64 q, .slice ob k c]] w (RJ n q x y w) := by
  obtain ⟨B, hB⟩ : ∃ B, w.heap.size = B := ⟨_, rfl⟩
  obtain ⟨w0, hw0⟩ : ∃ w0, (((w.alloc (.cells tabV 29)).alloc (.cells #[.int .i64 n, .slice ova ka ca] 33)).alloc (.cells #[.int .i64 q, .slice ob k c] 33)).alloc (.cells #[.int .i64 0, .slice none 0 0] 33) = w0 := ⟨_, rfl⟩
  have hT : Blk w0 B 29 tabV := by rw [← hw0, ← hB]; exact (((Blk.new _ _ _).alloc _).alloc _).alloc _
  have hRA : Blk w0 (B + 1) 33 #[.int .i64 n, .slice ova ka ca] := by rw [← hw0]; exact ((Blk.new_at (by simp [hB])).alloc _).alloc _
  have hRB : Blk w0 (B + 1 + 1) 33 #[.int .i64 q, .slice ob k c] := by rw [← hw0]; exact (Blk.new_at (by simp [hB])).alloc _
  have hO : Blk w0 (B + 1 + 1 + 1) 33 #[.int .i64 0, .slice none 0 0] := by rw [← hw0]; exact Blk.new_at (by simp [hB])
  have hB0 : Below w.heap.size w w0 := by rw [← hw0]; exact ((((Below.refl _ w).alloc (Nat.le_refl _) _).alloc (by simp) _).alloc (by simp; omega) _).alloc (by simp; omega) _
  have hs0 : w0.heap.size = B + 1 + 1 + 1 + 1 := by rw [← hw0]; simp [hB]
  have hA0 := hA.below hB0
  have hS0 := hBs.below hB0
  have HSH := Lib.hid (fun W => shortest_any n (by omega) W)
  have HW0 := Lib.hid hw0
  have HBS := Lib.hid hBs
  clear hw0 hA hBs
  obtain ⟨low, hlow⟩ : ∃ low, lastN (strL n) = low := ⟨_, rfl⟩
  have hlt : ¬ (0 < n ∧ lastN (strL n) < q) := by omega
  have HRJ := Lib.hid (show ∀ e w', RJ n q x y w e w' = ((∃ v, e = .returned (.tuple #[.agg #[.int .i64 ((n + q : Nat) : Int), v], .int .i64 0]) ∧ Own w' w.heap.size v (ofM (x ++ y))) ∧ Below w.heap.size w w') from fun _ _ => by unfold RJ; rw [if_neg hlt])
  generalize RJ n q x y w = PO at *
  have HKA := Lib.hid hka
  have HCL := Lib.hid (fun W hW => clone_any ova ka ca (ofM x) hka (by
    rw [← hka, ofM_length, hx]
    have := strL_len 63 n (by have : (2 : Nat) ^ 63 = 9223372036854775808 := by decide
                              omega)
    omega) hna W hW)
  have hn0' : (0 < n) = False := eq_false (by omega)
  have HN0 := Lib.hid hn0
  clear hn0
  refine (callsIn_wide (n := 7)).1 ?_
  refine callsIn_of_wp_marks Try.func20 rfl trivial ?_ rfl
  simp only [Try.ntmps20, List.size_toArray, List.length_cons, List.length_nil, Nat.reduceAdd, Nat.reduceSub, Array.replicate_succ, Array.replicate_zero, List.push_toArray, List.append_toArray, List.nil_append, List.cons_append]
  gi_wp2_with (rw [HW0.out])
  have HKP := Lib.hid (show ∀ W, Below w0.heap.size w0 W → ((loadVar 3 ⟨B + 1, 0, none⟩).run Try.prog W = .ok (.int .i64 n) W ∧ (loadVar 3 ⟨B + 1 + 1, 0, none⟩).run Try.prog W = .ok (.int .i64 q) W) ∧ Below w0.heap.size w0 W from fun W hW => ⟨⟨ld_int ((hRA.below hW hRA.lt).cell 0), ld_int ((hRB.below hW hRB.lt).cell 0)⟩, hW⟩)
  have hbS : Below w0.heap.size w0 w0.drew := (Below.refl _ _).drew
  obtain ⟨wS, hwS⟩ : ∃ wS, w0.drew = wS := ⟨_, rfl⟩
  rw [hwS] at hbS
  refine region_wide (S := fun W => ((loadVar 3 ⟨B + 1, 0, none⟩).run Try.prog W = .ok (.int .i64 n) W ∧ (loadVar 3 ⟨B + 1 + 1, 0, none⟩).run Try.prog W = .ok (.int .i64 q) W) ∧ Below w0.heap.size w0 W) (by kernel_rfl) ?_ (fun hHeld0 => ?_)
  · (refine HKP.out _ ?_; rw [hwS]; exact hbS)
  rw [hwS]
  rw [hwS] at hHeld0
  apply takeH (i := 0) rfl (by kernel_rfl) (by kernel_rfl) (by kernel_rfl) (fun _ _ _ h => h) (by rfl)
  case hy => (intro w hSw; (try dsimp only at hSw); go_simp; try with_reducible rfl)
  case hS => assumption
  (try simp only [Act.put, List.setIfInBounds_toArray, List.set_cons_zero, List.set_cons_succ])
  apply takeH (i := 1) rfl (by kernel_rfl) (by kernel_rfl) (by kernel_rfl) (fun _ _ _ h => h) (by rfl)
  case hy => (intro w hSw; (try dsimp only at hSw); go_simp; try with_reducible rfl)
  case hS => assumption
  (try simp only [Act.put, List.setIfInBounds_toArray, List.set_cons_zero, List.set_cons_succ])
  apply takeH (i := 2) rfl (by kernel_rfl) (by kernel_rfl) (by kernel_rfl) (fun _ _ _ h => h) (by rfl)
  case hy => (intro w hSw; (try dsimp only at hSw); go_simp; try with_reducible rfl)
  case hS => assumption
  (try simp only [Act.put, List.setIfInBounds_toArray, List.set_cons_zero, List.set_cons_succ])
  apply takeH (i := 3) rfl (by kernel_rfl) (by kernel_rfl) (by kernel_rfl) (fun _ _ _ h => h) (by rfl)
  case hy => (intro w hSw; (try dsimp only at hSw); go_simp; try with_reducible rfl)
  case hS => assumption
  (try simp only [Act.put, List.setIfInBounds_toArray, List.set_cons_zero, List.set_cons_succ])
  refine skipH (i := 4) rfl (by kernel_rfl) (by kernel_rfl) (by kernel_rfl) (fun _ _ _ h => h) (by rfl) (by assumption) ?_
  (try simp only [Act.put, List.setIfInBounds_toArray, List.set_cons_zero, List.set_cons_succ])
  refine skipH (i := 5) rfl (by kernel_rfl) (by kernel_rfl) (by kernel_rfl) (fun _ _ _ h => h) (by rfl) (by assumption) ?_
  (try simp only [Act.put, List.setIfInBounds_toArray, List.set_cons_zero, List.set_cons_succ])
  refine skipH (i := 6) rfl (by kernel_rfl) (by kernel_rfl) (by kernel_rfl) (fun _ _ _ h => h) (by rfl) (by assumption) ?_
  (try simp only [Act.put, List.setIfInBounds_toArray, List.set_cons_zero, List.set_cons_succ])
  refine skipH (i := 7) rfl (by kernel_rfl) (by kernel_rfl) (by kernel_rfl) (fun _ _ _ h => h) (by rfl) (by assumption) ?_
  (try simp only [Act.put, List.setIfInBounds_toArray, List.set_cons_zero, List.set_cons_succ])
  refine skipH (i := 8) rfl (by kernel_rfl) (by kernel_rfl) (by kernel_rfl) (fun _ _ _ h => h) (by rfl) (by assumption) ?_
  (try simp only [Act.put, List.setIfInBounds_toArray, List.set_cons_zero, List.set_cons_succ])
  refine skipH (i := 9) rfl (by kernel_rfl) (by kernel_rfl) (by kernel_rfl) (fun _ _ _ h => h) (by rfl) (by assumption) ?_
  (try simp only [Act.put, List.setIfInBounds_toArray, List.set_cons_zero, List.set_cons_succ])
  apply takeH (i := 10) rfl (by kernel_rfl) (by kernel_rfl) (by kernel_rfl) (fun _ _ _ h => h) (by rfl)
  case hy => (intro w hSw; (try dsimp only at hSw); go_simp; try with_reducible rfl)
  case hS => assumption
  (try simp only [Act.put, List.setIfInBounds_toArray, List.set_cons_zero, List.set_cons_succ])
  refine wpAnyH_done (by kernel_rfl) ?_ _
  simp only [onlyN]
  clear hHeld0 HKP hwS
  have hRAS := hRA.below hbS hRA.lt
  have hAS := hA0.below hbS
  have HKQ := Lib.hid (show ∀ W, Below wS.heap.size wS W → ((loadVar 3 ⟨B + 1, 0, none⟩).run Try.prog W = .ok (.int .i64 n) W ∧ (loadVar 22 ⟨B + 1, 1, none⟩).run Try.prog W = .ok (.slice ova ka ca) W) ∧ Below wS.heap.size wS W from fun W hW => ⟨⟨ld_int ((hRAS.below hW hRAS.lt).cell 0), ld_sl ((hRAS.below hW hRAS.lt).cell 1)⟩, hW⟩)
  gi_wp2_with fail
  refine region_wide (S := fun W => ((loadVar 3 ⟨B + 1, 0, none⟩).run Try.prog W = .ok (.int .i64 n) W ∧ (loadVar 22 ⟨B + 1, 1, none⟩).run Try.prog W = .ok (.slice ova ka ca) W) ∧ Below wS.heap.size wS W) (by kernel_rfl) ?_ (fun hHeld0 => ?_)
  · (refine HKQ.out _ ?_; first | exact hbE | exact hbD | exact hbC | exact (Below.refl _ _).drew | exact Below.refl _ _)
  apply takeH (i := 0) rfl (by kernel_rfl) (by kernel_rfl) (by kernel_rfl) (fun _ _ _ h => h) (by rfl)
  case hy => (intro w hSw; (try dsimp only at hSw); go_simp; try with_reducible rfl)
  case hS => assumption
  (try simp only [Act.put, List.setIfInBounds_toArray, List.set_cons_zero, List.set_cons_succ])
  apply takeH (i := 1) rfl (by kernel_rfl) (by kernel_rfl) (by kernel_rfl) (fun _ _ _ h => h) (by rfl)
  case hy => (intro w hSw; (try dsimp only at hSw); go_simp; try with_reducible rfl)
  case hS => assumption
  (try simp only [Act.put, List.setIfInBounds_toArray, List.set_cons_zero, List.set_cons_succ])
  apply takeH (i := 2) rfl (by kernel_rfl) (by kernel_rfl) (by kernel_rfl) (fun _ _ _ h => h) (by rfl)
  case hy => (intro w hSw; (try dsimp only at hSw); go_simp; try with_reducible rfl)
  case hS => assumption
  (try simp only [Act.put, List.setIfInBounds_toArray, List.set_cons_zero, List.set_cons_succ])
  apply takeH (i := 3) rfl (by kernel_rfl) (by kernel_rfl) (by kernel_rfl) (fun _ _ _ h => h) (by rfl)
  case hy => (intro w hSw; (try dsimp only at hSw); go_simp; try with_reducible rfl)
  case hS => assumption
  (try simp only [Act.put, List.setIfInBounds_toArray, List.set_cons_zero, List.set_cons_succ])
  refine doH2 (i := 4) (j := 6) rfl rfl (by kernel_rfl) (by rfl) (by rfl) (fun K hK => ?_) (fun K hK => ?_)
  · go_simp
    refine (HCL.out _ (hAS.below hHeld0.2)).mono ?_
    rintro e wC ⟨vC, rfl, hvC, hbC'⟩
    obtain ⟨oc, cc, hvv, _⟩ := hvC.formd
    rw [HKA.out] at hvv
    subst hvv
    have hbC : Below wS.heap.size wS wC := hHeld0.2.trans (hbC'.mono hHeld0.2.size)
    go_wp2_with fail
    refine hK.out _ _ ?_ (fun hHeld4 => ?_)
    · (refine HKQ.out _ ?_; first | exact hbE | exact hbD | exact hbC | exact (Below.refl _ _).drew | exact Below.refl _ _)
    clear hK K
    (try simp only [Act.put, List.setIfInBounds_toArray, List.set_cons_zero, List.set_cons_succ])
    apply takeH (i := 5) rfl (by kernel_rfl) (by kernel_rfl) (by kernel_rfl) (fun _ _ _ h => h) (by rfl)
    case hy => (intro w hSw; (try dsimp only at hSw); go_simp; try with_reducible rfl)
    case hS => assumption
    (try simp only [Act.put, List.setIfInBounds_toArray, List.set_cons_zero, List.set_cons_succ])
    refine doH (i := 6) rfl (by kernel_rfl) (by rfl) (fun K hK => ?_)
    have hbD := hbC.alloc hbC.size (.cells #[.int .i64 0, .slice none 0 0] 33)
    go_simp
    refine hK.out _ _ ?_ (fun hHeld6 => ?_)
    · (refine HKQ.out _ ?_; first | exact hbE | exact hbD | exact hbC | exact (Below.refl _ _).drew | exact Below.refl _ _)
    clear hK K
    (try simp only [Act.put, List.setIfInBounds_toArray, List.set_cons_zero, List.set_cons_succ])
    refine doH (i := 7) rfl (by kernel_rfl) (by rfl) (fun K hK => ?_)
    go_simp
    have hbE := hbC.alloc hbC.size (.cells #[.int .i64 n, .slice oc ka cc] 33)
    have hME : Blk (wC.alloc (.cells #[.int .i64 n, .slice oc ka cc] 33)) wC.heap.size 33 #[.int .i64 n, .slice oc ka cc] := Blk.new _ _ _
    have hCE : Own (wC.alloc (.cells #[.int .i64 n, .slice oc ka cc] 33)) wS.heap.size (.slice oc ka cc) (ofM x) := World.ownsRow.alloc hvC _
    have hgmB : wS.heap.size ≤ wC.heap.size := hbC.size
    obtain ⟨wE, hwE⟩ : ∃ wE, wC.alloc (.cells #[.int .i64 n, .slice oc ka cc] 33) = wE := ⟨_, rfl⟩
    obtain ⟨gm, hgm⟩ : ∃ gm, wC.heap.size = gm := ⟨_, rfl⟩
    rw [hwE] at hbE hME hCE ⊢
    rw [hgm] at hME hgmB ⊢
    refine hK.out _ _ ?_ (fun hHeld7 => ?_)
    · (refine HKQ.out _ ?_; first | exact hbE | exact hbD | exact hbC | exact (Below.refl _ _).drew | exact Below.refl _ _)
    clear hK K
    (try simp only [Act.put, List.setIfInBounds_toArray, List.set_cons_zero, List.set_cons_succ])
    refine wpAnyH_done (by kernel_rfl) ?_ _
    simp only [onlyN]
    have hTE := (hT.below hbS hT.lt).below hbE (hT.below hbS hT.lt).lt
    have hRBE := (hRB.below hbS hRB.lt).below hbE (hRB.below hbS hRB.lt).lt
    have hOE := (hO.below hbS hO.lt).below hbE (hO.below hbS hO.lt).lt
    have hSE := (hS0.below hbS).below hbE
    have hBE := (hB0.trans (hbS.mono hB0.size)).trans (hbE.mono (hB0.trans (hbS.mono hB0.size)).size)
    obtain ⟨wL, hwL⟩ : ∃ wL, wE.alloc (.cells #[.slice ob k c] 22) = wL := ⟨_, rfl⟩
    obtain ⟨gl, hgl⟩ : ∃ gl, wE.heap.size = gl := ⟨_, rfl⟩
    have e1 := ld_sl (hRBE.cell 1)
    have e2 : (loadVar 3 ⟨B + 1 + 1, 0, none⟩).run Try.prog wL = .ok (.int .i64 q) wL := ld_int ((show Blk wL (B + 1 + 1) 33 #[.int .i64 q, .slice ob k c] by rw [← hwL]; exact hRBE.alloc _).cell 0)
    have HWL := Lib.hid hwL
    gi_wp2_with (first | rw [HWL.out] | (rw [hgl]))
    refine ⟨trivial, ?_⟩
    refine (stretches_in _ _ _).mono ?_
    rintro e w2 ⟨rfl, hw2⟩
    have hgmlt : gm < gl := by rw [← hgl]; exact hME.lt
    have hBgl : B + 1 + 1 + 1 < gl := by rw [← hgl]; exact hOE.lt
    have hSsz : B + 1 + 1 + 1 < wS.heap.size := by have := hbS.size; omega
    have hBgm : B + 1 + 1 + 1 < gm := by omega
    have hLs : wL.heap.size = gl + 1 := by rw [← HWL.out]; simp [hgl]
    have hT2 : Blk w2 B 29 tabV := by rw [← hw2, ← HWL.out]; exact (hTE.alloc _).alloc _
    have hO2 : Blk w2 (B + 1 + 1 + 1) 33 #[.int .i64 0, .slice none 0 0] := by rw [← hw2, ← HWL.out]; exact (hOE.alloc _).alloc _
    have hM2 : Blk w2 gm 33 #[.int .i64 n, .slice oc ka cc] := by rw [← hw2, ← HWL.out]; exact (hME.alloc _).alloc _
    have hL2 : Blk w2 gl 22 #[.slice ob k c] := by rw [← hw2, ← HWL.out]; exact (Blk.new_at hgl.symm).alloc _
    have hI2 : Blk w2 (gl + 1) 3 #[.int .i64 q] := by rw [← hw2]; exact Blk.new_at hLs.symm
    have hC2 : Own w2 wS.heap.size (.slice oc ka cc) (ofM x) := by rw [← hw2, ← HWL.out]; exact World.ownsRow.alloc (World.ownsRow.alloc hCE _) _
    have hB2 : Below w.heap.size w w2 := by rw [← hw2, ← HWL.out]; exact (hBE.alloc hBE.size _).alloc (by simp; have := hBE.size; omega) _
    have hs2 : w2.heap.size = gl + 1 + 1 := by rw [← hw2]; simp [hLs]
    rw [hLs]
    clear hw2 e1 e2 hTE hOE hME hRBE hCE hBE hSE hHeld7 HKQ hbE hgl HWL
    gi_wp2_with fail
    have HH := str1_hands (Lib.hid lenOf) (7 - 1) (gl + 1) (by omega) (q : Int) (by omega) w2 hI2.lt (hI2.cell 0)
    rw [Int.toNat_natCast] at HH
    refine range_hands (by omega) (gf := 46) (lb := #[.pointer (some ⟨gl + 1, 0, none⟩)]) rfl (enters_of Try.func46 (by kernel_rfl) rfl) HH (fun _ => rfl)
      (fun pre W => (∃ (ov : Option Addr) (kv cv bv : Nat) (o' : Option Addr), Blk W B 29 tabV ∧ Blk W (B + 1 + 1 + 1) 33 #[.int .i64 0, .slice none 0 0] ∧ Blk W gm 33 #[.int .i64 ((n + pre.sum : Nat) : Int), .slice ov kv cv] ∧ Own W bv (.slice ov kv cv) (ofM (x ++ y.take pre.sum)) ∧ Blk W gl 22 #[.slice o' (k - pre.length) (c - pre.length)] ∧ (pre.length < k → o' = ob.map (·.add pre.length)) ∧ gl + 1 + 1 ≤ W.heap.size ∧ B + 1 + 1 + 1 < bv) ∧ Below w.heap.size w W)
      (OwnFrom.and (fun s A B' row hs hg hr => by
        obtain ⟨ov, kv, cv, bv, o', h1, h2, h3, h4, h5, h6, h7, h8⟩ := hs
        exact ⟨ov, kv, cv, bv, o', h1.grown hg (fun e => by have := (hr _ e.symm).1; omega), h2.grown hg (fun e => by have := (hr _ e.symm).1; omega), h3.grown hg (fun e => by have := (hr _ e.symm).1; omega), own_kept h4 hg hr, h5.grown hg (fun e => by have := (hr _ e.symm).1; omega), h6, Nat.le_trans h7 hg.size, h8⟩) (ownFrom_below (Nat.le_refl _) (by omega)))
      ⟨⟨oc, ka, cc, wS.heap.size, ob, hT2, hO2, by simpa using hM2, by simpa using hC2, by simpa using hL2, fun _ => by cases ob <;> rfl, by omega, by omega⟩, hB2⟩
      (fun xx => { tmps := #[.agg tabV, .agg #[.int .i64 n, .slice ova ka ca], .agg #[.int .i64 q, .slice ob k c], .pointer (some ⟨B, 0, none⟩), .pointer (some ⟨B + 1, 0, none⟩), .pointer (some ⟨B + 1 + 1, 0, none⟩), .pointer (some ⟨B + 1 + 1 + 1, 0, none⟩), .int .i64 0, .pointer (some ⟨gm, 0, none⟩), .pointer (some ⟨gl, 0, none⟩), .int .i64 ((xx : Nat) : Int), .pointer (some ⟨B + 1, 0, none⟩), .int .i64 n, .bool false, .bool false, undef, undef, undef, undef, undef, undef, .bool false, undef, .pointer (some ⟨B + 1, 0, none⟩), .int .i64 n, .pointer (some ⟨B + 1, 1, none⟩), .slice ova ka ca, .slice oc ka cc, .agg #[.int .i64 n, .slice oc ka cc], .pointer (some ⟨B + 1 + 1, 1, none⟩), .slice ob k c, .pointer (some ⟨B + 1 + 1, 0, none⟩), .int .i64 q, .func (.func 46) #[] #[.pointer (some ⟨gl + 1, 0, none⟩)], .int .i64 ((xx : Nat) : Int), undef, undef, undef, undef, undef, undef, undef, undef, undef, undef, undef, undef, undef], defers := [] }) ?assign ?body ?done
    case assign =>
      intro l x W K hK
      gi_wp2
      exact hK
    case body =>
      rintro l pre s rest W hxx ⟨⟨ov, kv, cv, bv, o', hT', hO', hM', hown', hL', ho, hsz, hbv⟩, hBW⟩
      clear hT2 hL2 hO2 hI2 hB2 HH hM2 hC2
      obtain ⟨hs1, hsq, hpl⟩ : 0 < s ∧ pre.sum + s ≤ q ∧ pre.length < 64 := by
        rcases prefix_sum hxx with h | h
        · exact h
        · omega
      obtain ⟨hgR, hik⟩ := of_getD (y := y) (pre := pre) (s := s) (rest := rest) (by rw [hy]; exact hxx)
      rw [hk] at hik
      have HPJ := Lib.hid (putM_join x y (by rw [hx, hy, hlow]; intro h; have := HN0.out; omega) pre rest s (by rw [hy]; exact hxx))
      rw [hx] at HPJ
      obtain ⟨j, hj, _⟩ := strL_part q pre rest s hxx
      obtain ⟨a, hoba, hab, hcell⟩ := HBS.out pre.length (by rw [hk]; exact hik)
      rw [hgR] at hcell
      have hcW : W.cell? (a.add pre.length) = some (.string (rootM ((y.drop pre.sum).take s))) := (hBW.cell (by rw [add_block]; exact hab)).trans hcell
      have ho' := ho hik
      rw [hoba, Option.map_some] at ho'
      subst ho'
      obtain ⟨hkv, hsv, hkcv, hnilv⟩ := own_facts hown'
      have hkv64 : kv ≤ 100 := by
        rw [← hkv, ofM_length, List.length_append, List.length_take]
        have := strL_len 63 (x.length + min pre.sum y.length) (by have : (2 : Nat) ^ 63 = 9223372036854775808 := by decide
                                                                  omega)
        omega
      have hzz : Sz (x ++ y.take pre.sum) := by
        intro u hu
        rcases List.mem_append.1 hu with h | h
        · exact hzx u h
        · exact hzy u (List.mem_of_mem_take h)
      have hRs := rootM_sz ((hzy.drop pre.sum).take s)
      have HPUT : Hid (∀ W', Strs W' ov (ofM (x ++ y.take pre.sum)) → Calls Try.prog 35 #[.agg tabV, .agg #[.int .i64 ((n + pre.sum : Nat) : Int), .slice ov kv cv], .int .i64 ((s : Nat) : Int), .string (rootM ((y.drop pre.sum).take s))] W' (RP (n + pre.sum + s) (ofM (x ++ y.take (pre.sum + s))) W')) := Lib.hid (fun W' hW' => by
        have h := put_any (n + pre.sum) j (by omega) (by rw [← hj]; omega) ov kv cv (ofM (x ++ y.take pre.sum)) (rootM ((y.drop pre.sum).take s)) hkv (by omega) hkcv hnilv (sz_chk hzz) hRs W' hW'
        rw [← hj, HPJ.out] at h
        exact h)
      have HSU := Lib.hid (show (pre ++ [s]).sum = pre.sum + s by simp)
      have HLE := Lib.hid (show (pre ++ [s]).length = pre.length + 1 by simp)
      have hsvd : Strs W.drew ov (ofM (x ++ y.take pre.sum)) := hsv
      have hkk0 : 0 < k - pre.length := by omega
      have hkkc : k - pre.length ≤ c - pre.length := by omega
      have HK1 := Lib.hid (show k - (pre.length + 1) = k - pre.length - 1 by omega)
      have HC1 := Lib.hid (show c - (pre.length + 1) = c - pre.length - 1 by omega)
      have HO2 := Lib.hid (show pre.length + 1 < k → (if c - pre.length = 1 then some (a.add pre.length) else (some (a.add pre.length)).map (·.add 1)) = ob.map (·.add (pre.length + 1)) from fun h => by
        rw [if_neg (by omega), hoba, Option.map_some, Option.map_some, add_add])
      generalize rootM ((y.drop pre.sum).take s) = R at *
      generalize ofM (x ++ y.take pre.sum) = F at *
      generalize pre.sum = A at *
      generalize pre.length = i at *
      generalize k - i = kk at *
      generalize c - i = ck at *
      have HS2 := slice_off (some (a.add i)) kk ck 1 (by omega) hkkc
      rw [show ((1 : Nat) : Int) = 1 from rfl] at HS2
      generalize (if ck = 1 then some (a.add i) else (some (a.add i)).map (·.add 1)) = o2 at *
      obtain ⟨N2, hN2⟩ : ∃ N2 : Nat, n + A + s = N2 := ⟨_, rfl⟩
      rw [hN2] at HPUT
      have HN2 := Lib.hid (show n + (A + s) = N2 by omega)
      generalize n + A = N1 at *
      have hk0 : ((kk : Int) == 0) = false := by rw [beq_eq_false_iff_ne]; omega
      have hkkI : (0 : Int) < (kk : Int) := by omega
      have hae : a.block < gm := by omega
      have hae2 : a.block ≠ gl := by omega
      have HKP := Lib.hid (show ∀ W', Blk W' B 29 tabV → Blk W' gl 22 #[.slice (some (a.add i)) kk ck] → W'.cell? (a.add i) = some (.string R) → (loadVar 29 ⟨B, 0, none⟩).run Try.prog W' = .ok (.agg tabV) W' ∧ (loadVar 22 ⟨gl, 0, none⟩).run Try.prog W' = .ok (.slice (some (a.add i)) kk ck) W' ∧ (loadVar 9 (a.add i)).run Try.prog W' = .ok (.string R) W' from fun W' h1 h2 h3 => ⟨tab_run h1, ld_sl (h2.cell 0), txt_load h3⟩)
      have hTd : Blk W.drew B 29 tabV := hT'
      have hLd : Blk W.drew gl 22 #[.slice (some (a.add i)) kk ck] := hL'
      have hcd : W.drew.cell? (a.add i) = some (.string R) := hcW
      have rD : (loadVar 33 ⟨gm, 0, none⟩).run Try.prog W.drew = .ok (.agg #[.int .i64 N1, .slice ov kv cv]) W.drew := ld_rng (show Blk W.drew gm 33 #[.int .i64 N1, .slice ov kv cv] from hM')
      have q9 := ld_sl (hL'.cell 0)
      have mixed : Try.prog.follows Departure.mixedOrders = true := by kernel_rfl
      clear hxx ho HPJ hcell hgR hoba hown' hsv hj hN2 hkv
      gi_wp2_with fail
      refine region_round (S := fun W' => (loadVar 29 ⟨B, 0, none⟩).run Try.prog W' = .ok (.agg tabV) W' ∧ (loadVar 22 ⟨gl, 0, none⟩).run Try.prog W' = .ok (.slice (some (a.add i)) kk ck) W' ∧ (loadVar 9 (a.add i)).run Try.prog W' = .ok (.string R) W') (by kernel_rfl) mixed ?_ (fun hHeld0 => ?_)
      · (first | exact HKP.out _ hTd hLd hcd | exact HKP.out _ t1 l1 c1 | exact HKP.out _ ((t1.far (by show B ≠ gm; omega) _).far (by show B ≠ gm; omega) _) ((l1.far (by show gl ≠ gm; omega) _).far (by show gl ≠ gm; omega) _) c3)
      apply takeH (i := 0) rfl (by kernel_rfl) (by kernel_rfl) (by kernel_rfl) (fun _ _ _ h => h) (by rfl)
      case hy => (intro w hSw; (try dsimp only at hSw); go_simp; try with_reducible rfl)
      case hS => assumption
      (try simp only [Act.put, List.setIfInBounds_toArray, List.set_cons_zero, List.set_cons_succ])
      apply takeH (i := 2) rfl (by kernel_rfl) (by kernel_rfl) (by kernel_rfl) (fun _ _ _ h => h) (by rfl)
      case hy => (intro w hSw; (try dsimp only at hSw); go_simp; try with_reducible rfl)
      case hS => assumption
      (try simp only [Act.put, List.setIfInBounds_toArray, List.set_cons_zero, List.set_cons_succ])
      apply takeH (i := 3) rfl (by kernel_rfl) (by kernel_rfl) (by kernel_rfl) (fun _ _ _ h => h) (by rfl)
      case hy => (intro w hSw; (try dsimp only at hSw); go_simp; try with_reducible rfl)
      case hS => assumption
      (try simp only [Act.put, List.setIfInBounds_toArray, List.set_cons_zero, List.set_cons_succ])
      apply takeH (i := 4) rfl (by kernel_rfl) (by kernel_rfl) (by kernel_rfl) (fun _ _ _ h => h) (by rfl)
      case hy => (intro w hSw; (try dsimp only at hSw); go_simp; try with_reducible rfl)
      case hS => assumption
      (try simp only [Act.put, List.setIfInBounds_toArray, List.set_cons_zero, List.set_cons_succ])
      apply takeH (i := 5) rfl (by kernel_rfl) (by kernel_rfl) (by kernel_rfl) (fun _ _ _ h => h) (by rfl)
      case hy => (intro w hSw; (try dsimp only at hSw); go_simp; try with_reducible rfl)
      case hS => assumption
      (try simp only [Act.put, List.setIfInBounds_toArray, List.set_cons_zero, List.set_cons_succ])
      refine doH (i := 1) rfl (by kernel_rfl) (by rfl) (fun K hK => ?_)
      go_simp
      refine hK.out _ _ ?_ (fun hHeld1 => ?_)
      · (first | exact HKP.out _ hTd hLd hcd | exact HKP.out _ t1 l1 c1 | exact HKP.out _ ((t1.far (by show B ≠ gm; omega) _).far (by show B ≠ gm; omega) _) ((l1.far (by show gl ≠ gm; omega) _).far (by show gl ≠ gm; omega) _) c3)
      clear hK K
      (try simp only [Act.put, List.setIfInBounds_toArray, List.set_cons_zero, List.set_cons_succ])
      refine doH (i := 6) rfl (by kernel_rfl) (by rfl) (fun K hK => ?_)
      go_simp
      refine (HPUT.out _ hsvd).mono ?_
      rintro e w1 ⟨v1, rfl, hv1, hb1'⟩
      obtain ⟨ox, cx, hvv, _⟩ := hv1.formd
      obtain ⟨kx, hkx⟩ : ∃ kx, (ofM (x ++ y.take (A + s))).length = kx := ⟨_, rfl⟩
      rw [hkx] at hvv
      subst hvv
      have hb1 : Below W.heap.size W w1 := (Below.refl _ _).drew.trans hb1'
      have t1 := hT'.below hb1 hT'.lt
      have l1 := hL'.below hb1 hL'.lt
      have m1 := hM'.below hb1 hM'.lt
      have o1 := hO'.below hb1 hO'.lt
      have c1 : w1.cell? (a.add i) = some (.string R) := (hb1.cell (by rw [add_block]; have := hBW.size; omega)).trans hcW
      have own1 : Own w1 W.heap.size (.slice ox kx cx) (ofM (x ++ y.take (A + s))) := hv1
      have hBW1 := hBW.trans (hb1.mono hBW.size)
      have s0 : w1.cell? ⟨gm, 0, none⟩ = some (.int .i64 N1) := m1.cell 0
      have s1 : w1.cell? ⟨gm, 1, none⟩ = some (.slice ov kv cv) := m1.cell 1
      have f0 := m1.frozen 0
      have f1 := m1.frozen 1
      have c3 : ((w1.setCell ⟨gm, 0, none⟩ (.int .i64 N2)).setCell ⟨gm, 1, none⟩ (.slice ox kx cx)).cell? (a.add i) = some (.string R) := by
        rw [World.cell?_setCell_other _ _ _ _ (by intro h; have := congrArg Addr.block h; rw [add_block] at this; have h2 : gm = a.block := this; omega), World.cell?_setCell_other _ _ _ _ (by intro h; have := congrArg Addr.block h; rw [add_block] at this; have h2 : gm = a.block := this; omega)]
        exact c1
      go_wp2_with fail
      refine hK.out _ _ ?_ (fun hHeld6 => ?_)
      · (first | exact HKP.out _ hTd hLd hcd | exact HKP.out _ t1 l1 c1 | exact HKP.out _ ((t1.far (by show B ≠ gm; omega) _).far (by show B ≠ gm; omega) _) ((l1.far (by show gl ≠ gm; omega) _).far (by show gl ≠ gm; omega) _) c3)
      clear hK K
      (try simp only [Act.put, List.setIfInBounds_toArray, List.set_cons_zero, List.set_cons_succ])
      refine doH (i := 7) rfl (by kernel_rfl) (by rfl) (fun K hK => ?_)
      go_simp
      refine hK.out _ _ ?_ (fun hHeld7 => ?_)
      · (first | exact HKP.out _ hTd hLd hcd | exact HKP.out _ t1 l1 c1 | exact HKP.out _ ((t1.far (by show B ≠ gm; omega) _).far (by show B ≠ gm; omega) _) ((l1.far (by show gl ≠ gm; omega) _).far (by show gl ≠ gm; omega) _) c3)
      clear hK K
      (try simp only [Act.put, List.setIfInBounds_toArray, List.set_cons_zero, List.set_cons_succ])
      refine wpAnyH_done (by kernel_rfl) ?_ _
      simp only [onlyN]
      have t3 := (t1.far (p := ⟨gm, 0, none⟩) (by show B ≠ gm; omega) (.int .i64 N2)).far (p := ⟨gm, 1, none⟩) (by show B ≠ gm; omega) (.slice ox kx cx)
      have l3 := (l1.far (p := ⟨gm, 0, none⟩) (by show gl ≠ gm; omega) (.int .i64 N2)).far (p := ⟨gm, 1, none⟩) (by show gl ≠ gm; omega) (.slice ox kx cx)
      have o3 := (o1.far (p := ⟨gm, 0, none⟩) (by show B + 1 + 1 + 1 ≠ gm; omega) (.int .i64 N2)).far (p := ⟨gm, 1, none⟩) (by show B + 1 + 1 + 1 ≠ gm; omega) (.slice ox kx cx)
      have m3 := (m1.set_ 0 (.int .i64 N2)).set_ 1 (.slice ox kx cx)
      have own3 := own_far (own_far own1 (p := ⟨gm, 0, none⟩) (by show gm < W.heap.size; omega) (.int .i64 N2)) (p := ⟨gm, 1, none⟩) (by show gm < W.heap.size; omega) (.slice ox kx cx)
      have hBW3 := (hBW1.setCell (p := ⟨gm, 0, none⟩) (by show w.heap.size ≤ gm; omega) (.int .i64 N2)).setCell (p := ⟨gm, 1, none⟩) (by show w.heap.size ≤ gm; omega) (.slice ox kx cx)
      have hKO : KeepsOthers W ((w1.setCell ⟨gm, 0, none⟩ (.int .i64 N2)).setCell ⟨gm, 1, none⟩ (.slice ox kx cx)) := ((KeepsOthers.of_grownBy (only_of_below (a := W) hb1 none) (fun _ _ h => by cases h)).trans (KeepsOthers.setCell _ _ _)).trans (KeepsOthers.setCell _ _ _)
      clear hHeld1 hHeld6 hHeld7 t1 l1 m1 o1 c1 own1 hBW1 s0 s1 f0 f1 c3 rD hcd hLd hTd q9 hv1 hb1' hb1 hsvd
      generalize (w1.setCell ⟨gm, 0, none⟩ (.int .i64 N2)).setCell ⟨gm, 1, none⟩ (.slice ox kx cx) = w3 at *
      have q3 := ld_sl (l3.cell 0)
      have c3 : w3.cell? ⟨gl, 0, none⟩ = some (.slice (some (a.add i)) kk ck) := l3.cell 0
      have f3 := l3.frozen 0
      have HT3 := Lib.hid t3
      have HL3 := Lib.hid l3
      have HO3 := Lib.hid o3
      have HM3 := Lib.hid m3
      have HOW3 := Lib.hid own3
      clear t3 l3 o3 m3 own3 hT' hO' hM' hL'
      gi_wp2
      refine ⟨hKO.trans (KeepsOthers.setCell _ _ _), ⟨ox, kx, cx, W.heap.size, o2, HT3.out.far (p := ⟨gl, 0, none⟩) (by show B ≠ gl; omega) _, HO3.out.far (p := ⟨gl, 0, none⟩) (by show B + 1 + 1 + 1 ≠ gl; omega) _, ?_, ?_, ?_, ?_, Nat.le_trans hsz (hKO.trans (KeepsOthers.setCell _ _ _)).size, by omega⟩, hBW3.setCell (p := ⟨gl, 0, none⟩) (by show w.heap.size ≤ gl; omega) _⟩
      · rw [HSU.out, HN2.out]
        exact HM3.out.far (p := ⟨gl, 0, none⟩) (by show gm ≠ gl; omega) _
      · rw [HSU.out]
        exact own_far HOW3.out (p := ⟨gl, 0, none⟩) (by show gl < W.heap.size; omega) _
      · rw [HLE.out, HK1.out, HC1.out]
        exact HL3.out.set_ 0 (.slice o2 (kk - 1) (ck - 1))
      · rw [HLE.out]
        exact HO2.out
    case done =>
      rintro D W hD ⟨⟨ov, kv, cv, bv, o', hT', hO', hM', hown', hL', _, _, hbv⟩, hBW⟩ hK
      rw [strL_sum] at hM' hown'
      rw [List.take_of_length_le (by omega)] at hown'
      obtain ⟨N, hN⟩ : ∃ N : Nat, n + q = N := ⟨_, rfl⟩
      rw [hN] at hM' HRJ
      have q0 := ld_rng hM'
      have s0 : W.cell? ⟨B + 1 + 1 + 1, 0, none⟩ = some (.int .i64 0) := hO'.cell 0
      have s1 : W.cell? ⟨B + 1 + 1 + 1, 1, none⟩ = some (.slice none 0 0) := hO'.cell 1
      have f0 := hO'.frozen 0
      have f1 := hO'.frozen 1
      have HK2 := Lib.hid (((KeepsOthers.setCell W ⟨B + 1 + 1 + 1, 0, none⟩ (.int .i64 N)).trans (KeepsOthers.setCell _ ⟨B + 1 + 1 + 1, 1, none⟩ (.slice ov kv cv))).same D _ hK rfl)
      have HRES := Lib.hid ((hO'.set_ 0 (.int .i64 N)).set_ 1 (.slice ov kv cv))
      have HOW := Lib.hid (own_far (own_far hown' (p := ⟨B + 1 + 1 + 1, 0, none⟩) hbv (.int .i64 N)) (p := ⟨B + 1 + 1 + 1, 1, none⟩) hbv (.slice ov kv cv))
      have HBW := Lib.hid ((hBW.setCell (p := ⟨B + 1 + 1 + 1, 0, none⟩) (by show w.heap.size ≤ B + 1 + 1 + 1; omega) (.int .i64 N)).setCell (p := ⟨B + 1 + 1 + 1, 1, none⟩) (by show w.heap.size ≤ B + 1 + 1 + 1; omega) (.slice ov kv cv))
      clear hT' hL' hO' hM' hown' hBW hT2 hL2 hO2 hI2 hB2 HH hM2 hC2
      gi_wp2
      refine ⟨by simp, .inl ⟨_, _, rfl, run_takeDeferred HK2.out, ?_⟩⟩
      refine ⟨_, results_rng rfl _ _ (B + 1 + 1 + 1) 33 #[.int .i64 N, .slice ov kv cv] _ rfl ((World.putObj_heap_other (by omega)).trans HRES.out) Try.underlying33 rfl infoRange, ?_⟩
      rw [HRJ.out]
      exact ⟨⟨_, rfl, World.ownsRow.mono (ownsRow_putObj HOW.out _ HK2.out rfl) (by omega)⟩, HBW.out.trans (belowK_b (w := w) (Nat.le_refl _) _ D _ _ (by omega) HK2.out rfl rfl)⟩
  · have hbD : Below wS.heap.size wS (wS.drew.alloc (.cells #[.int .i64 0, .slice none 0 0] 33)) := (Below.refl _ _).drew.alloc (Nat.le_refl _) _
    go_simp
    refine hK.out _ _ ?_ (fun hHeld6 => ?_)
    · (refine HKQ.out _ ?_; first | exact hbE | exact hbD | exact hbC | exact (Below.refl _ _).drew | exact Below.refl _ _)
    clear hK K
    (try simp only [Act.put, List.setIfInBounds_toArray, List.set_cons_zero, List.set_cons_succ])
    refine doH (i := 4) rfl (by kernel_rfl) (by rfl) (fun K hK => ?_)
    go_simp
    refine (HCL.out _ (hAS.below hHeld6.2)).mono ?_
    rintro e wC ⟨vC, rfl, hvC, hbC'⟩
    obtain ⟨oc, cc, hvv, _⟩ := hvC.formd
    rw [HKA.out] at hvv
    subst hvv
    have hbC : Below wS.heap.size wS wC := hHeld6.2.trans (hbC'.mono hHeld6.2.size)
    go_wp2_with fail
    refine hK.out _ _ ?_ (fun hHeld4 => ?_)
    · (refine HKQ.out _ ?_; first | exact hbE | exact hbD | exact hbC | exact (Below.refl _ _).drew | exact Below.refl _ _)
    clear hK K
    (try simp only [Act.put, List.setIfInBounds_toArray, List.set_cons_zero, List.set_cons_succ])
    apply takeH (i := 5) rfl (by kernel_rfl) (by kernel_rfl) (by kernel_rfl) (fun _ _ _ h => h) (by rfl)
    case hy => (intro w hSw; (try dsimp only at hSw); go_simp; try with_reducible rfl)
    case hS => assumption
    (try simp only [Act.put, List.setIfInBounds_toArray, List.set_cons_zero, List.set_cons_succ])
    have hX6 : Blk wC wS.heap.size 33 #[.int .i64 0, .slice none 0 0] := Blk.below (show Blk (wS.drew.alloc (.cells #[.int .i64 0, .slice none 0 0] 33)) wS.heap.size 33 #[.int .i64 0, .slice none 0 0] from Blk.new wS.drew _ _) hbC' (by simp)
    have c0 : wC.cell? ⟨wS.heap.size, 0, none⟩ = some (.int .i64 0) := hX6.cell 0
    have c1' : wC.cell? ⟨wS.heap.size, 1, none⟩ = some (.slice none 0 0) := hX6.cell 1
    have f0 := hX6.frozen 0
    have f1 := hX6.frozen 1
    refine doH (i := 7) rfl (by kernel_rfl) (by rfl) (fun K hK => ?_)
    go_simp
    have hbE := (hbC.setCell (p := ⟨wS.heap.size, 0, none⟩) (Nat.le_refl _) (.int .i64 n)).setCell (p := ⟨wS.heap.size, 1, none⟩) (Nat.le_refl _) (.slice oc ka cc)
    have hME : Blk ((wC.setCell ⟨wS.heap.size, 0, none⟩ (.int .i64 n)).setCell ⟨wS.heap.size, 1, none⟩ (.slice oc ka cc)) wS.heap.size 33 #[.int .i64 n, .slice oc ka cc] := (hX6.set_ 0 (.int .i64 n)).set_ 1 (.slice oc ka cc)
    have hCE : Own ((wC.setCell ⟨wS.heap.size, 0, none⟩ (.int .i64 n)).setCell ⟨wS.heap.size, 1, none⟩ (.slice oc ka cc)) wS.heap.size (.slice oc ka cc) (ofM x) := (own_far (own_far hvC (p := ⟨wS.heap.size, 0, none⟩) (by simp) (.int .i64 n)) (p := ⟨wS.heap.size, 1, none⟩) (by simp) (.slice oc ka cc)).mono (by simp)
    have hgmB : wS.heap.size ≤ wS.heap.size := Nat.le_refl _
    obtain ⟨wE, hwE⟩ : ∃ wE, (wC.setCell ⟨wS.heap.size, 0, none⟩ (.int .i64 n)).setCell ⟨wS.heap.size, 1, none⟩ (.slice oc ka cc) = wE := ⟨_, rfl⟩
    obtain ⟨gm, hgm⟩ : ∃ gm, wS.heap.size = gm := ⟨_, rfl⟩
    rw [hwE] at hbE hME hCE ⊢
    rw [hgm] at hME ⊢
    have hgmB : wS.heap.size ≤ gm := by omega
    refine hK.out _ _ ?_ (fun hHeld7 => ?_)
    · (refine HKQ.out _ ?_; first | exact hbE | exact hbD | exact hbC | exact (Below.refl _ _).drew | exact Below.refl _ _)
    clear hK K
    (try simp only [Act.put, List.setIfInBounds_toArray, List.set_cons_zero, List.set_cons_succ])
    refine wpAnyH_done (by kernel_rfl) ?_ _
    simp only [onlyN]
    have hTE := (hT.below hbS hT.lt).below hbE (hT.below hbS hT.lt).lt
    have hRBE := (hRB.below hbS hRB.lt).below hbE (hRB.below hbS hRB.lt).lt
    have hOE := (hO.below hbS hO.lt).below hbE (hO.below hbS hO.lt).lt
    have hSE := (hS0.below hbS).below hbE
    have hBE := (hB0.trans (hbS.mono hB0.size)).trans (hbE.mono (hB0.trans (hbS.mono hB0.size)).size)
    obtain ⟨wL, hwL⟩ : ∃ wL, wE.alloc (.cells #[.slice ob k c] 22) = wL := ⟨_, rfl⟩
    obtain ⟨gl, hgl⟩ : ∃ gl, wE.heap.size = gl := ⟨_, rfl⟩
    have e1 := ld_sl (hRBE.cell 1)
    have e2 : (loadVar 3 ⟨B + 1 + 1, 0, none⟩).run Try.prog wL = .ok (.int .i64 q) wL := ld_int ((show Blk wL (B + 1 + 1) 33 #[.int .i64 q, .slice ob k c] by rw [← hwL]; exact hRBE.alloc _).cell 0)
    have HWL := Lib.hid hwL
    gi_wp2_with (first | rw [HWL.out] | (rw [hgl]))
    refine ⟨trivial, ?_⟩
    refine (stretches_in _ _ _).mono ?_
    rintro e w2 ⟨rfl, hw2⟩
    have hgmlt : gm < gl := by rw [← hgl]; exact hME.lt
    have hBgl : B + 1 + 1 + 1 < gl := by rw [← hgl]; exact hOE.lt
    have hSsz : B + 1 + 1 + 1 < wS.heap.size := by have := hbS.size; omega
    have hBgm : B + 1 + 1 + 1 < gm := by omega
    have hLs : wL.heap.size = gl + 1 := by rw [← HWL.out]; simp [hgl]
    have hT2 : Blk w2 B 29 tabV := by rw [← hw2, ← HWL.out]; exact (hTE.alloc _).alloc _
    have hO2 : Blk w2 (B + 1 + 1 + 1) 33 #[.int .i64 0, .slice none 0 0] := by rw [← hw2, ← HWL.out]; exact (hOE.alloc _).alloc _
    have hM2 : Blk w2 gm 33 #[.int .i64 n, .slice oc ka cc] := by rw [← hw2, ← HWL.out]; exact (hME.alloc _).alloc _
    have hL2 : Blk w2 gl 22 #[.slice ob k c] := by rw [← hw2, ← HWL.out]; exact (Blk.new_at hgl.symm).alloc _
    have hI2 : Blk w2 (gl + 1) 3 #[.int .i64 q] := by rw [← hw2]; exact Blk.new_at hLs.symm
    have hC2 : Own w2 wS.heap.size (.slice oc ka cc) (ofM x) := by rw [← hw2, ← HWL.out]; exact World.ownsRow.alloc (World.ownsRow.alloc hCE _) _
    have hB2 : Below w.heap.size w w2 := by rw [← hw2, ← HWL.out]; exact (hBE.alloc hBE.size _).alloc (by simp; have := hBE.size; omega) _
    have hs2 : w2.heap.size = gl + 1 + 1 := by rw [← hw2]; simp [hLs]
    rw [hLs]
    clear hw2 e1 e2 hTE hOE hME hRBE hCE hBE hSE hHeld7 HKQ hbE hgl HWL
    gi_wp2_with fail
    have HH := str1_hands (Lib.hid lenOf) (7 - 1) (gl + 1) (by omega) (q : Int) (by omega) w2 hI2.lt (hI2.cell 0)
    rw [Int.toNat_natCast] at HH
    refine range_hands (by omega) (gf := 46) (lb := #[.pointer (some ⟨gl + 1, 0, none⟩)]) rfl (enters_of Try.func46 (by kernel_rfl) rfl) HH (fun _ => rfl)
      (fun pre W => (∃ (ov : Option Addr) (kv cv bv : Nat) (o' : Option Addr), Blk W B 29 tabV ∧ Blk W (B + 1 + 1 + 1) 33 #[.int .i64 0, .slice none 0 0] ∧ Blk W gm 33 #[.int .i64 ((n + pre.sum : Nat) : Int), .slice ov kv cv] ∧ Own W bv (.slice ov kv cv) (ofM (x ++ y.take pre.sum)) ∧ Blk W gl 22 #[.slice o' (k - pre.length) (c - pre.length)] ∧ (pre.length < k → o' = ob.map (·.add pre.length)) ∧ gl + 1 + 1 ≤ W.heap.size ∧ B + 1 + 1 + 1 < bv) ∧ Below w.heap.size w W)
      (OwnFrom.and (fun s A B' row hs hg hr => by
        obtain ⟨ov, kv, cv, bv, o', h1, h2, h3, h4, h5, h6, h7, h8⟩ := hs
        exact ⟨ov, kv, cv, bv, o', h1.grown hg (fun e => by have := (hr _ e.symm).1; omega), h2.grown hg (fun e => by have := (hr _ e.symm).1; omega), h3.grown hg (fun e => by have := (hr _ e.symm).1; omega), own_kept h4 hg hr, h5.grown hg (fun e => by have := (hr _ e.symm).1; omega), h6, Nat.le_trans h7 hg.size, h8⟩) (ownFrom_below (Nat.le_refl _) (by omega)))
      ⟨⟨oc, ka, cc, wS.heap.size, ob, hT2, hO2, by simpa using hM2, by simpa using hC2, by simpa using hL2, fun _ => by cases ob <;> rfl, by omega, by omega⟩, hB2⟩
      (fun xx => { tmps := #[.agg tabV, .agg #[.int .i64 n, .slice ova ka ca], .agg #[.int .i64 q, .slice ob k c], .pointer (some ⟨B, 0, none⟩), .pointer (some ⟨B + 1, 0, none⟩), .pointer (some ⟨B + 1 + 1, 0, none⟩), .pointer (some ⟨B + 1 + 1 + 1, 0, none⟩), .int .i64 0, .pointer (some ⟨gm, 0, none⟩), .pointer (some ⟨gl, 0, none⟩), .int .i64 ((xx : Nat) : Int), .pointer (some ⟨B + 1, 0, none⟩), .int .i64 n, .bool false, .bool false, undef, undef, undef, undef, undef, undef, .bool false, undef, .pointer (some ⟨B + 1, 0, none⟩), .int .i64 n, .pointer (some ⟨B + 1, 1, none⟩), .slice ova ka ca, .slice oc ka cc, .agg #[.int .i64 n, .slice oc ka cc], .pointer (some ⟨B + 1 + 1, 1, none⟩), .slice ob k c, .pointer (some ⟨B + 1 + 1, 0, none⟩), .int .i64 q, .func (.func 46) #[] #[.pointer (some ⟨gl + 1, 0, none⟩)], .int .i64 ((xx : Nat) : Int), undef, undef, undef, undef, undef, undef, undef, undef, undef, undef, undef, undef, undef], defers := [] }) ?assign ?body ?done
    case assign =>
      intro l x W K hK
      gi_wp2
      exact hK
    case body =>
      rintro l pre s rest W hxx ⟨⟨ov, kv, cv, bv, o', hT', hO', hM', hown', hL', ho, hsz, hbv⟩, hBW⟩
      clear hT2 hL2 hO2 hI2 hB2 HH hM2 hC2
      obtain ⟨hs1, hsq, hpl⟩ : 0 < s ∧ pre.sum + s ≤ q ∧ pre.length < 64 := by
        rcases prefix_sum hxx with h | h
        · exact h
        · omega
      obtain ⟨hgR, hik⟩ := of_getD (y := y) (pre := pre) (s := s) (rest := rest) (by rw [hy]; exact hxx)
      rw [hk] at hik
      have HPJ := Lib.hid (putM_join x y (by rw [hx, hy, hlow]; intro h; have := HN0.out; omega) pre rest s (by rw [hy]; exact hxx))
      rw [hx] at HPJ
      obtain ⟨j, hj, _⟩ := strL_part q pre rest s hxx
      obtain ⟨a, hoba, hab, hcell⟩ := HBS.out pre.length (by rw [hk]; exact hik)
      rw [hgR] at hcell
      have hcW : W.cell? (a.add pre.length) = some (.string (rootM ((y.drop pre.sum).take s))) := (hBW.cell (by rw [add_block]; exact hab)).trans hcell
      have ho' := ho hik
      rw [hoba, Option.map_some] at ho'
      subst ho'
      obtain ⟨hkv, hsv, hkcv, hnilv⟩ := own_facts hown'
      have hkv64 : kv ≤ 100 := by
        rw [← hkv, ofM_length, List.length_append, List.length_take]
        have := strL_len 63 (x.length + min pre.sum y.length) (by have : (2 : Nat) ^ 63 = 9223372036854775808 := by decide
                                                                  omega)
        omega
      have hzz : Sz (x ++ y.take pre.sum) := by
        intro u hu
        rcases List.mem_append.1 hu with h | h
        · exact hzx u h
        · exact hzy u (List.mem_of_mem_take h)
      have hRs := rootM_sz ((hzy.drop pre.sum).take s)
      have HPUT : Hid (∀ W', Strs W' ov (ofM (x ++ y.take pre.sum)) → Calls Try.prog 35 #[.agg tabV, .agg #[.int .i64 ((n + pre.sum : Nat) : Int), .slice ov kv cv], .int .i64 ((s : Nat) : Int), .string (rootM ((y.drop pre.sum).take s))] W' (RP (n + pre.sum + s) (ofM (x ++ y.take (pre.sum + s))) W')) := Lib.hid (fun W' hW' => by
        have h := put_any (n + pre.sum) j (by omega) (by rw [← hj]; omega) ov kv cv (ofM (x ++ y.take pre.sum)) (rootM ((y.drop pre.sum).take s)) hkv (by omega) hkcv hnilv (sz_chk hzz) hRs W' hW'
        rw [← hj, HPJ.out] at h
        exact h)
      have HSU := Lib.hid (show (pre ++ [s]).sum = pre.sum + s by simp)
      have HLE := Lib.hid (show (pre ++ [s]).length = pre.length + 1 by simp)
      have hsvd : Strs W.drew ov (ofM (x ++ y.take pre.sum)) := hsv
      have hkk0 : 0 < k - pre.length := by omega
      have hkkc : k - pre.length ≤ c - pre.length := by omega
      have HK1 := Lib.hid (show k - (pre.length + 1) = k - pre.length - 1 by omega)
      have HC1 := Lib.hid (show c - (pre.length + 1) = c - pre.length - 1 by omega)
      have HO2 := Lib.hid (show pre.length + 1 < k → (if c - pre.length = 1 then some (a.add pre.length) else (some (a.add pre.length)).map (·.add 1)) = ob.map (·.add (pre.length + 1)) from fun h => by
        rw [if_neg (by omega), hoba, Option.map_some, Option.map_some, add_add])
      generalize rootM ((y.drop pre.sum).take s) = R at *
      generalize ofM (x ++ y.take pre.sum) = F at *
      generalize pre.sum = A at *
      generalize pre.length = i at *
      generalize k - i = kk at *
      generalize c - i = ck at *
      have HS2 := slice_off (some (a.add i)) kk ck 1 (by omega) hkkc
      rw [show ((1 : Nat) : Int) = 1 from rfl] at HS2
      generalize (if ck = 1 then some (a.add i) else (some (a.add i)).map (·.add 1)) = o2 at *
      obtain ⟨N2, hN2⟩ : ∃ N2 : Nat, n + A + s = N2 := ⟨_, rfl⟩
      rw [hN2] at HPUT
      have HN2 := Lib.hid (show n + (A + s) = N2 by omega)
      generalize n + A = N1 at *
      have hk0 : ((kk : Int) == 0) = false := by rw [beq_eq_false_iff_ne]; omega
      have hkkI : (0 : Int) < (kk : Int) := by omega
      have hae : a.block < gm := by omega
      have hae2 : a.block ≠ gl := by omega
      have HKP := Lib.hid (show ∀ W', Blk W' B 29 tabV → Blk W' gl 22 #[.slice (some (a.add i)) kk ck] → W'.cell? (a.add i) = some (.string R) → (loadVar 29 ⟨B, 0, none⟩).run Try.prog W' = .ok (.agg tabV) W' ∧ (loadVar 22 ⟨gl, 0, none⟩).run Try.prog W' = .ok (.slice (some (a.add i)) kk ck) W' ∧ (loadVar 9 (a.add i)).run Try.prog W' = .ok (.string R) W' from fun W' h1 h2 h3 => ⟨tab_run h1, ld_sl (h2.cell 0), txt_load h3⟩)
      have hTd : Blk W.drew B 29 tabV := hT'
      have hLd : Blk W.drew gl 22 #[.slice (some (a.add i)) kk ck] := hL'
      have hcd : W.drew.cell? (a.add i) = some (.string R) := hcW
      have rD : (loadVar 33 ⟨gm, 0, none⟩).run Try.prog W.drew = .ok (.agg #[.int .i64 N1, .slice ov kv cv]) W.drew := ld_rng (show Blk W.drew gm 33 #[.int .i64 N1, .slice ov kv cv] from hM')
      have q9 := ld_sl (hL'.cell 0)
      have mixed : Try.prog.follows Departure.mixedOrders = true := by kernel_rfl
      clear hxx ho HPJ hcell hgR hoba hown' hsv hj hN2 hkv
      gi_wp2_with fail
      refine region_round (S := fun W' => (loadVar 29 ⟨B, 0, none⟩).run Try.prog W' = .ok (.agg tabV) W' ∧ (loadVar 22 ⟨gl, 0, none⟩).run Try.prog W' = .ok (.slice (some (a.add i)) kk ck) W' ∧ (loadVar 9 (a.add i)).run Try.prog W' = .ok (.string R) W') (by kernel_rfl) mixed ?_ (fun hHeld0 => ?_)
      · (first | exact HKP.out _ hTd hLd hcd | exact HKP.out _ t1 l1 c1 | exact HKP.out _ ((t1.far (by show B ≠ gm; omega) _).far (by show B ≠ gm; omega) _) ((l1.far (by show gl ≠ gm; omega) _).far (by show gl ≠ gm; omega) _) c3)
      apply takeH (i := 0) rfl (by kernel_rfl) (by kernel_rfl) (by kernel_rfl) (fun _ _ _ h => h) (by rfl)
      case hy => (intro w hSw; (try dsimp only at hSw); go_simp; try with_reducible rfl)
      case hS => assumption
      (try simp only [Act.put, List.setIfInBounds_toArray, List.set_cons_zero, List.set_cons_succ])
      apply takeH (i := 2) rfl (by kernel_rfl) (by kernel_rfl) (by kernel_rfl) (fun _ _ _ h => h) (by rfl)
      case hy => (intro w hSw; (try dsimp only at hSw); go_simp; try with_reducible rfl)
      case hS => assumption
      (try simp only [Act.put, List.setIfInBounds_toArray, List.set_cons_zero, List.set_cons_succ])
      apply takeH (i := 3) rfl (by kernel_rfl) (by kernel_rfl) (by kernel_rfl) (fun _ _ _ h => h) (by rfl)
      case hy => (intro w hSw; (try dsimp only at hSw); go_simp; try with_reducible rfl)
      case hS => assumption
      (try simp only [Act.put, List.setIfInBounds_toArray, List.set_cons_zero, List.set_cons_succ])
      apply takeH (i := 4) rfl (by kernel_rfl) (by kernel_rfl) (by kernel_rfl) (fun _ _ _ h => h) (by rfl)
      case hy => (intro w hSw; (try dsimp only at hSw); go_simp; try with_reducible rfl)
      case hS => assumption
      (try simp only [Act.put, List.setIfInBounds_toArray, List.set_cons_zero, List.set_cons_succ])
      apply takeH (i := 5) rfl (by kernel_rfl) (by kernel_rfl) (by kernel_rfl) (fun _ _ _ h => h) (by rfl)
      case hy => (intro w hSw; (try dsimp only at hSw); go_simp; try with_reducible rfl)
      case hS => assumption
      (try simp only [Act.put, List.setIfInBounds_toArray, List.set_cons_zero, List.set_cons_succ])
      refine doH (i := 1) rfl (by kernel_rfl) (by rfl) (fun K hK => ?_)
      go_simp
      refine hK.out _ _ ?_ (fun hHeld1 => ?_)
      · (first | exact HKP.out _ hTd hLd hcd | exact HKP.out _ t1 l1 c1 | exact HKP.out _ ((t1.far (by show B ≠ gm; omega) _).far (by show B ≠ gm; omega) _) ((l1.far (by show gl ≠ gm; omega) _).far (by show gl ≠ gm; omega) _) c3)
      clear hK K
      (try simp only [Act.put, List.setIfInBounds_toArray, List.set_cons_zero, List.set_cons_succ])
      refine doH (i := 6) rfl (by kernel_rfl) (by rfl) (fun K hK => ?_)
      go_simp
      refine (HPUT.out _ hsvd).mono ?_
      rintro e w1 ⟨v1, rfl, hv1, hb1'⟩
      obtain ⟨ox, cx, hvv, _⟩ := hv1.formd
      obtain ⟨kx, hkx⟩ : ∃ kx, (ofM (x ++ y.take (A + s))).length = kx := ⟨_, rfl⟩
      rw [hkx] at hvv
      subst hvv
      have hb1 : Below W.heap.size W w1 := (Below.refl _ _).drew.trans hb1'
      have t1 := hT'.below hb1 hT'.lt
      have l1 := hL'.below hb1 hL'.lt
      have m1 := hM'.below hb1 hM'.lt
      have o1 := hO'.below hb1 hO'.lt
      have c1 : w1.cell? (a.add i) = some (.string R) := (hb1.cell (by rw [add_block]; have := hBW.size; omega)).trans hcW
      have own1 : Own w1 W.heap.size (.slice ox kx cx) (ofM (x ++ y.take (A + s))) := hv1
      have hBW1 := hBW.trans (hb1.mono hBW.size)
      have s0 : w1.cell? ⟨gm, 0, none⟩ = some (.int .i64 N1) := m1.cell 0
      have s1 : w1.cell? ⟨gm, 1, none⟩ = some (.slice ov kv cv) := m1.cell 1
      have f0 := m1.frozen 0
      have f1 := m1.frozen 1
      have c3 : ((w1.setCell ⟨gm, 0, none⟩ (.int .i64 N2)).setCell ⟨gm, 1, none⟩ (.slice ox kx cx)).cell? (a.add i) = some (.string R) := by
        rw [World.cell?_setCell_other _ _ _ _ (by intro h; have := congrArg Addr.block h; rw [add_block] at this; have h2 : gm = a.block := this; omega), World.cell?_setCell_other _ _ _ _ (by intro h; have := congrArg Addr.block h; rw [add_block] at this; have h2 : gm = a.block := this; omega)]
        exact c1
      go_wp2_with fail
      refine hK.out _ _ ?_ (fun hHeld6 => ?_)
      · (first | exact HKP.out _ hTd hLd hcd | exact HKP.out _ t1 l1 c1 | exact HKP.out _ ((t1.far (by show B ≠ gm; omega) _).far (by show B ≠ gm; omega) _) ((l1.far (by show gl ≠ gm; omega) _).far (by show gl ≠ gm; omega) _) c3)
      clear hK K
      (try simp only [Act.put, List.setIfInBounds_toArray, List.set_cons_zero, List.set_cons_succ])
      refine doH (i := 7) rfl (by kernel_rfl) (by rfl) (fun K hK => ?_)
      go_simp
      refine hK.out _ _ ?_ (fun hHeld7 => ?_)
      · (first | exact HKP.out _ hTd hLd hcd | exact HKP.out _ t1 l1 c1 | exact HKP.out _ ((t1.far (by show B ≠ gm; omega) _).far (by show B ≠ gm; omega) _) ((l1.far (by show gl ≠ gm; omega) _).far (by show gl ≠ gm; omega) _) c3)
      clear hK K
      (try simp only [Act.put, List.setIfInBounds_toArray, List.set_cons_zero, List.set_cons_succ])
      refine wpAnyH_done (by kernel_rfl) ?_ _
      simp only [onlyN]
      have t3 := (t1.far (p := ⟨gm, 0, none⟩) (by show B ≠ gm; omega) (.int .i64 N2)).far (p := ⟨gm, 1, none⟩) (by show B ≠ gm; omega) (.slice ox kx cx)
      have l3 := (l1.far (p := ⟨gm, 0, none⟩) (by show gl ≠ gm; omega) (.int .i64 N2)).far (p := ⟨gm, 1, none⟩) (by show gl ≠ gm; omega) (.slice ox kx cx)
      have o3 := (o1.far (p := ⟨gm, 0, none⟩) (by show B + 1 + 1 + 1 ≠ gm; omega) (.int .i64 N2)).far (p := ⟨gm, 1, none⟩) (by show B + 1 + 1 + 1 ≠ gm; omega) (.slice ox kx cx)
      have m3 := (m1.set_ 0 (.int .i64 N2)).set_ 1 (.slice ox kx cx)
      have own3 := own_far (own_far own1 (p := ⟨gm, 0, none⟩) (by show gm < W.heap.size; omega) (.int .i64 N2)) (p := ⟨gm, 1, none⟩) (by show gm < W.heap.size; omega) (.slice ox kx cx)
      have hBW3 := (hBW1.setCell (p := ⟨gm, 0, none⟩) (by show w.heap.size ≤ gm; omega) (.int .i64 N2)).setCell (p := ⟨gm, 1, none⟩) (by show w.heap.size ≤ gm; omega) (.slice ox kx cx)
      have hKO : KeepsOthers W ((w1.setCell ⟨gm, 0, none⟩ (.int .i64 N2)).setCell ⟨gm, 1, none⟩ (.slice ox kx cx)) := ((KeepsOthers.of_grownBy (only_of_below (a := W) hb1 none) (fun _ _ h => by cases h)).trans (KeepsOthers.setCell _ _ _)).trans (KeepsOthers.setCell _ _ _)
      clear hHeld1 hHeld6 hHeld7 t1 l1 m1 o1 c1 own1 hBW1 s0 s1 f0 f1 c3 rD hcd hLd hTd q9 hv1 hb1' hb1 hsvd
      generalize (w1.setCell ⟨gm, 0, none⟩ (.int .i64 N2)).setCell ⟨gm, 1, none⟩ (.slice ox kx cx) = w3 at *
      have q3 := ld_sl (l3.cell 0)
      have c3 : w3.cell? ⟨gl, 0, none⟩ = some (.slice (some (a.add i)) kk ck) := l3.cell 0
      have f3 := l3.frozen 0
      have HT3 := Lib.hid t3
      have HL3 := Lib.hid l3
      have HO3 := Lib.hid o3
      have HM3 := Lib.hid m3
      have HOW3 := Lib.hid own3
      clear t3 l3 o3 m3 own3 hT' hO' hM' hL'
      gi_wp2
      refine ⟨hKO.trans (KeepsOthers.setCell _ _ _), ⟨ox, kx, cx, W.heap.size, o2, HT3.out.far (p := ⟨gl, 0, none⟩) (by show B ≠ gl; omega) _, HO3.out.far (p := ⟨gl, 0, none⟩) (by show B + 1 + 1 + 1 ≠ gl; omega) _, ?_, ?_, ?_, ?_, Nat.le_trans hsz (hKO.trans (KeepsOthers.setCell _ _ _)).size, by omega⟩, hBW3.setCell (p := ⟨gl, 0, none⟩) (by show w.heap.size ≤ gl; omega) _⟩
      · rw [HSU.out, HN2.out]
        exact HM3.out.far (p := ⟨gl, 0, none⟩) (by show gm ≠ gl; omega) _
      · rw [HSU.out]
        exact own_far HOW3.out (p := ⟨gl, 0, none⟩) (by show gl < W.heap.size; omega) _
      · rw [HLE.out, HK1.out, HC1.out]
        exact HL3.out.set_ 0 (.slice o2 (kk - 1) (ck - 1))
      · rw [HLE.out]
        exact HO2.out
    case done =>
      rintro D W hD ⟨⟨ov, kv, cv, bv, o', hT', hO', hM', hown', hL', _, _, hbv⟩, hBW⟩ hK
      rw [strL_sum] at hM' hown'
      rw [List.take_of_length_le (by omega)] at hown'
      obtain ⟨N, hN⟩ : ∃ N : Nat, n + q = N := ⟨_, rfl⟩
      rw [hN] at hM' HRJ
      have q0 := ld_rng hM'
      have s0 : W.cell? ⟨B + 1 + 1 + 1, 0, none⟩ = some (.int .i64 0) := hO'.cell 0
      have s1 : W.cell? ⟨B + 1 + 1 + 1, 1, none⟩ = some (.slice none 0 0) := hO'.cell 1
      have f0 := hO'.frozen 0
      have f1 := hO'.frozen 1
      have HK2 := Lib.hid (((KeepsOthers.setCell W ⟨B + 1 + 1 + 1, 0, none⟩ (.int .i64 N)).trans (KeepsOthers.setCell _ ⟨B + 1 + 1 + 1, 1, none⟩ (.slice ov kv cv))).same D _ hK rfl)
      have HRES := Lib.hid ((hO'.set_ 0 (.int .i64 N)).set_ 1 (.slice ov kv cv))
      have HOW := Lib.hid (own_far (own_far hown' (p := ⟨B + 1 + 1 + 1, 0, none⟩) hbv (.int .i64 N)) (p := ⟨B + 1 + 1 + 1, 1, none⟩) hbv (.slice ov kv cv))
      have HBW := Lib.hid ((hBW.setCell (p := ⟨B + 1 + 1 + 1, 0, none⟩) (by show w.heap.size ≤ B + 1 + 1 + 1; omega) (.int .i64 N)).setCell (p := ⟨B + 1 + 1 + 1, 1, none⟩) (by show w.heap.size ≤ B + 1 + 1 + 1; omega) (.slice ov kv cv))
      clear hT' hL' hO' hM' hown' hBW hT2 hL2 hO2 hI2 hB2 HH hM2 hC2
      gi_wp2
      refine ⟨by simp, .inl ⟨_, _, rfl, run_takeDeferred HK2.out, ?_⟩⟩
      refine ⟨_, results_rng rfl _ _ (B + 1 + 1 + 1) 33 #[.int .i64 N, .slice ov kv cv] _ rfl ((World.putObj_heap_other (by omega)).trans HRES.out) Try.underlying33 rfl infoRange, ?_⟩
      rw [HRJ.out]
      exact ⟨⟨_, rfl, World.ownsRow.mono (ownsRow_putObj HOW.out _ HK2.out rfl) (by omega)⟩, HBW.out.trans (belowK_b (w := w) (Nat.le_refl _) _ D _ _ (by omega) HK2.out rfl rfl)⟩
end
end Go.Proofs.Ytmokkahkfmmnmaa
