/-
  Cut: a tile of leaves' hashes.
-/
import Derived.Test.YtpapmcdnaplmkaaTChunk
import Derived.Test.YtpapmcdnaplmkaaTCMath
import Derived.Test.YtpapmcdnaplmkaaTIds
namespace Go.Proofs.Ytpapmcdnaplmkaa
open Go.RowKit Go.Shelf
attribute [local go_sem] Oper.semAt_some

theorem ld_int7 {w : World} {p : Addr} {x : Int} (h : w.cell? p = some (.int .i64 x)) : (loadVar 3 p).run Try.prog w = .ok (.int .i64 x) w := by
  go_simp
theorem ld_sl7 {w : World} {p : Addr} {oa : Option Addr} {n c : Nat} (h : w.cell? p = some (.slice oa n c)) : (loadVar 30 p).run Try.prog w = .ok (.slice oa n c) w := by
  go_simp
theorem infoID : (Try.prog.info? 26).map (·.size) = some 2 := by kernel_rfl
theorem infoTile : (Try.prog.info? 40).map (·.size) = some 3 := by kernel_rfl
theorem ld_id7 {w : World} {g : Nat} {x y : Value} (h : Blk w g 26 #[x, y]) : (loadVar 26 ⟨g, 0, none⟩).run Try.prog w = .ok (.agg #[x, y]) w :=
  run_loadVar_row w g 26 26 #[x, y] (0, 0) _ h Try.underlying26 rfl infoID
theorem ld_tile {w : World} {g : Nat} {x y z : Value} (h : Blk w g 40 #[x, y, z]) : (loadVar 40 ⟨g, 0, none⟩).run Try.prog w = .ok (.agg #[x, y, z]) w :=
  run_loadVar_row w g 40 40 #[x, y, z] (0, 0) _ h Try.underlying40 rfl infoTile
theorem results_tile {P : Program} {fn : Func} {p t : Tmp} {ty : TypeId} (h : fn.results = #[.cell p ty, .tmp t]) (tmps : Array Value) (w : World) (g : Nat) (tt : TypeId) (cs : Array Value) (d : TypeDesc)
    (hp : tmps.getD p undef = .pointer (some ⟨g, 0, none⟩)) (hg : w.heap[g]? = some (.cells cs tt (0, 0)))
    (hu : P.underlying ty = some d) (hd : (match d with | .struct _ | .array _ _ => true | _ => false) = true) (hi : (P.info? ty).map (·.size) = some cs.size) :
    (results fn tmps).run P w = .ok (.tuple #[.agg cs, tmps.getD t undef]) w := by
  have hl := run_loadVar_row (P := P) w g tt ty cs (0, 0) d hg hu hd hi
  have hp' : tmps[p]?.getD undef = .pointer (some ⟨g, 0, none⟩) := by simpa using hp
  simp [results, h, hp', asAddr, hl]
/-- append(v, y), carried out in a region -/
theorem wp_append_txt7 {W : World} {o : Oper} {a : Act} {K : Act → World → Prop} {Q : Exit → Act → World → Prop} (hgd : o.guard = none) (s x : Operand)
    (ho : o.op = .call { callee := .builtin .append, args := #[s, x], argTypes := #[30, 30] }) (B : Nat) (v : Value) (ss : List ByteArray) (hs : a.eval s = v) (hown : Own W B v ss) (y : ByteArray)
    (hx : a.eval x = .slice (some ⟨W.heap.size, 0, none⟩) 1 1) (hlen : ss.length ≤ 1073741824) (hB : B ≤ W.heap.size)
    (h : ∀ g cap w', Own w' B (.slice (some ⟨g, 0, none⟩) (ss.length + 1) cap) (ss ++ [y]) → W.grownBy w' v.ownBlock → K (a.put o.dst (.slice (some ⟨g, 0, none⟩) (ss.length + 1) cap)) w') :
    Oper.wp Try.prog o a (W.alloc (.cells #[.string y] 9)) K Q := by
  have h0 := step_append_txt (ops := #[]) (E := False) (Q := Q) hgd s x ho B v ss hs hown y hx hlen hB h
  split at h0
  · exact h0
  · exact h0.elim
theorem own_kept7 {W W' : World} {B D : Nat} {v : Value} {ss : List ByteArray} {row : Option Nat} (h : Own W B v ss) (hg : W.grownBy W' row) (hr : ∀ r, row = some r → D ≤ r ∧ ∃ o : Obj, W.heap[r]? = some o ∧ o.isCells = false) : Own W' B v ss := by
  refine World.ownsRow.kept h hg ?_
  cases hv : v.ownBlock with
  | none => exact .inl rfl
  | some g =>
    refine .inr (fun e => ?_)
    obtain ⟨_, o, ho, hc⟩ := hr g e.symm
    rcases h.2 with ⟨rfl, _⟩ | ⟨g', cap, cur, rfl, _, hk, _⟩
    · cases hv
    · simp [Value.ownBlock] at hv
      subst hv
      rw [ho] at hk
      injection hk with hk
      rw [hk] at hc
      cases hc
theorem keeps_own7 {W W' : World} {B : Nat} {v : Value} {ss : List ByteArray} (h : Own W B v ss) (hg : W.grownBy W' v.ownBlock) : KeepsOthers W W' :=
  KeepsOthers.of_grownBy hg (fun j o e ho => by
    rcases h.2 with ⟨rfl, _⟩ | ⟨g, cap, cur, rfl, _, hk, _⟩
    · cases e
    · simp [Value.ownBlock] at e
      subst e
      rw [ho] at hk
      injection hk with hk
      rw [hk]
      rfl)
theorem own_far7 {w : World} {B : Nat} {v : Value} {ss : List ByteArray} (h : Own w B v ss) {p : Addr} (hp : p.block < B) (u : Value) : Own (w.setCell p u) B v ss :=
  World.ownsRow.kept h (row := some p.block) ⟨rfl, rfl, rfl, by simp, fun i _ hne => Below.heap_setCell w p u i (fun e => hne (by rw [e]))⟩ (.inr (fun e => by have := (World.ownsRow.lt h _ e).1; omega))
theorem own_below7 {w a b : World} {v : Value} {B : Nat} {ss : List ByteArray} (h : Below w.heap.size w a) (hv : Own a B v ss) (hB : w.heap.size ≤ B) (hg : a.grownBy b v.ownBlock) : Below w.heap.size w b :=
  h.grown hg h.size (fun k hk => Nat.le_trans hB (World.ownsRow.lt hv k hk).1)
theorem own_form7 {w : World} {B : Nat} {v : Value} {ss : List ByteArray} (h : Own w B v ss) : ∃ oa cap, v = .slice oa ss.length cap ∧ Strs w oa ss ∧ ss.length ≤ cap := by
  obtain ⟨oa, cap, hv, hs⟩ := h.form
  refine ⟨oa, cap, hv, hs, ?_⟩
  rcases h.2 with ⟨h1, hn⟩ | ⟨g, cap', cur, h1, hg, hk, hc1, _⟩
  · omega
  · rw [h1] at hv
    injection hv with h2 _ h3
    omega
/-- what Cut answers -/
def RC (ss : List ByteArray) (level index : Int) (w : World) (e : Ending) (w' : World) : Prop :=
  (if widT ss.length level index = 0 then e = .returned (.tuple #[.agg #[.int .i64 0, .int .i64 0, .slice none 0 0], .int .i64 5])
    else ∃ v, e = .returned (.tuple #[.agg #[.int .i64 level, .int .i64 index, v], .int .i64 0]) ∧ Own w' w.heap.size v (cutL ss level.toNat index.toNat (widT ss.length level index))) ∧ Below w.heap.size w w'
theorem cut_snoc (ss : List ByteArray) (l i : Nat) (pre : List Nat) (j : Nat) : (pre ++ [j]).map (fun j => hashT ss l (4 * i + j)) = pre.map (fun j => hashT ss l (4 * i + j)) ++ [hashT ss l (4 * i + j)] := by simp
section
attribute [-go_sem] loadVar
set_option maxRecDepth 100000 in
set_option maxHeartbeats 2000000 in
theorem cut_none (oa : Option Addr) (m c : Nat) (ss : List ByteArray) (hm : ss.length = m) (level index : Int) (hi : -9223372036854775808 ≤ index ∧ index ≤ 9223372036854775807) (hw : widT m level index = 0) (w : World) :
    Calls Try.prog 15 #[.agg tabV, .slice oa m c, .agg #[.int .i64 level, .int .i64 index]] w (RC ss level index w) := by
  have HRC := Lib.hid (show ∀ e w', RC ss level index w e w' = (e = .returned (.tuple #[.agg #[.int .i64 0, .int .i64 0, .slice none 0 0], .int .i64 5]) ∧ Below w.heap.size w w') from fun _ _ => by unfold RC; rw [hm, if_pos hw])
  generalize RC ss level index w = PO at *
  obtain ⟨B, hB⟩ : ∃ B, w.heap.size = B := ⟨_, rfl⟩
  obtain ⟨w0, hw0⟩ : ∃ w0, ((w.alloc (.cells tabV 36)).alloc (.cells #[.int .i64 level, .int .i64 index] 26)).alloc (.cells #[.int .i64 0, .int .i64 0, .slice none 0 0] 40) = w0 := ⟨_, rfl⟩
  have hT : Blk w0 B 36 tabV := by rw [← hw0, ← hB]; exact ((Blk.new _ _ _).alloc _).alloc _
  have hD : Blk w0 (B + 1) 26 #[.int .i64 level, .int .i64 index] := by rw [← hw0]; exact (Blk.new_at (by simp [hB])).alloc _
  have hO : Blk w0 (B + 1 + 1) 40 #[.int .i64 0, .int .i64 0, .slice none 0 0] := by rw [← hw0]; exact Blk.new_at (by simp [hB])
  have hB0 : Below w.heap.size w w0 := by rw [← hw0]; exact (((Below.refl _ w).alloc (Nat.le_refl _) _).alloc (by simp) _).alloc (by simp; omega) _
  have hs0 : w0.heap.size = B + 1 + 1 + 1 := by rw [← hw0]; simp [hB]
  have l0 := ld_id7 hD
  have HW0 := Lib.hid hw0
  clear hw0
  have HWD := Lib.hid (fun W => width_any (m : Int) level index hi W)
  rw [hw] at HWD
  clear hm hw
  refine (callsIn_wide (n := 7)).1 ?_
  refine callsIn_of_wp_marks Try.func15 rfl trivial ?_ rfl
  simp only [Try.ntmps15, List.size_toArray, List.length_cons, List.length_nil, Nat.reduceAdd, Nat.reduceSub, Array.replicate_succ, Array.replicate_zero, List.push_toArray, List.append_toArray, List.nil_append, List.cons_append]
  gi_wp2_with (rw [HW0.out])
  refine ⟨trivial, ?_⟩
  refine (callsIn_wide.2 (HWD.out _)).mono ?_
  rintro e w1 ⟨rfl, hb1⟩
  have hB1 := hB0.trans (hb1.mono hB0.size)
  have hT1 := hT.below hb1 hT.lt
  have hD1 := hD.below hb1 hD.lt
  have hO1 := hO.below hb1 hO.lt
  have hs1 : B + 1 + 1 + 1 ≤ w1.heap.size := by rw [← hs0]; exact hb1.size
  clear l0 hT hD hO hB0 HW0 HWD hb1
  have s0 : w1.cell? ⟨B + 1 + 1, 0, none⟩ = some (.int .i64 0) := hO1.cell 0
  have s1 : w1.cell? ⟨B + 1 + 1, 1, none⟩ = some (.int .i64 0) := hO1.cell 1
  have s2 : w1.cell? ⟨B + 1 + 1, 2, none⟩ = some (.slice none 0 0) := hO1.cell 2
  have f0 := hO1.frozen 0
  have f1 := hO1.frozen 1
  have f2 := hO1.frozen 2
  have HRES := Lib.hid (((hO1.set_ 0 (.int .i64 0)).set_ 1 (.int .i64 0)).set_ 2 (.slice none 0 0))
  have HBW := Lib.hid (((hB1.setCell (p := ⟨B + 1 + 1, 0, none⟩) (by show w.heap.size ≤ B + 1 + 1; omega) (.int .i64 0)).setCell (p := ⟨B + 1 + 1, 1, none⟩) (by show w.heap.size ≤ B + 1 + 1; omega) (.int .i64 0)).setCell (p := ⟨B + 1 + 1, 2, none⟩) (by show w.heap.size ≤ B + 1 + 1; omega) (.slice none 0 0))
  clear hT1 hD1 hO1 hB1
  rw [show iv 0 = .int .i64 0 from rfl]
  gi_wp2
  refine ⟨_, results_tile rfl _ _ (B + 1 + 1) 40 #[.int .i64 0, .int .i64 0, .slice none 0 0] _ rfl HRES.out Try.underlying40 rfl infoTile, ?_⟩
  rw [HRC.out]
  exact ⟨rfl, HBW.out⟩
set_option maxRecDepth 100000 in
set_option maxHeartbeats 4000000 in
theorem cut_some (oa : Option Addr) (m c : Nat) (ss : List ByteArray) (hm : ss.length = m) (hm64 : m ≤ 64) (hc : m ≤ c) (hz : Sz ss) (level index : Int) (hi : -9223372036854775808 ≤ index ∧ index ≤ 9223372036854775807) (hw : 0 < widT m level index) (w : World) (hS : Strs w oa ss) :
    Calls Try.prog 15 #[.agg tabV, .slice oa m c, .agg #[.int .i64 level, .int .i64 index]] w (RC ss level index w) := by
  have HRC := Lib.hid (show ∀ e w', RC ss level index w e w' = ((∃ v, e = .returned (.tuple #[.agg #[.int .i64 level, .int .i64 index, v], .int .i64 0]) ∧ Own w' w.heap.size v (cutL ss level.toNat index.toNat (widT m level index))) ∧ Below w.heap.size w w') from fun _ _ => by unfold RC; rw [hm, if_neg (by omega)])
  generalize RC ss level index w = PO at *
  obtain ⟨B, hB⟩ : ∃ B, w.heap.size = B := ⟨_, rfl⟩
  obtain ⟨w0, hw0⟩ : ∃ w0, ((w.alloc (.cells tabV 36)).alloc (.cells #[.int .i64 level, .int .i64 index] 26)).alloc (.cells #[.int .i64 0, .int .i64 0, .slice none 0 0] 40) = w0 := ⟨_, rfl⟩
  have hT : Blk w0 B 36 tabV := by rw [← hw0, ← hB]; exact ((Blk.new _ _ _).alloc _).alloc _
  have hD : Blk w0 (B + 1) 26 #[.int .i64 level, .int .i64 index] := by rw [← hw0]; exact (Blk.new_at (by simp [hB])).alloc _
  have hO : Blk w0 (B + 1 + 1) 40 #[.int .i64 0, .int .i64 0, .slice none 0 0] := by rw [← hw0]; exact Blk.new_at (by simp [hB])
  have hB0 : Below w.heap.size w w0 := by rw [← hw0]; exact (((Below.refl _ w).alloc (Nat.le_refl _) _).alloc (by simp) _).alloc (by simp; omega) _
  have hs0 : w0.heap.size = B + 1 + 1 + 1 := by rw [← hw0]; simp [hB]
  have l0 := ld_id7 hD
  have HW0 := Lib.hid hw0
  clear hw0
  have HWD := Lib.hid (fun W => width_any (m : Int) level index hi W)
  obtain ⟨l, i, wd, rfl, rfl, hwd, hl3, hi16, hwd0, hwd4, hww, hbd⟩ := wid_pos hm64 hw
  rw [Int.toNat_natCast, Int.toNat_natCast] at HRC
  rw [hwd] at HRC HWD
  obtain ⟨p, hp⟩ : ∃ p, 4 ^ l = p := ⟨_, rfl⟩
  have hp0 : 0 < p := by rw [← hp]; exact Nat.pow_pos (by decide)
  have hp64 : p ≤ 64 := by rw [← hp]; exact Nat.le_trans (Nat.pow_le_pow_right (by decide) hl3) (by decide)
  have HLV := Lib.hid (fun W => leaves_any l p hl3 hp W)
  obtain ⟨st, hst⟩ : ∃ st, 4 * i * p = st := ⟨_, rfl⟩
  obtain ⟨en, hen⟩ : ∃ en, wd * p = en := ⟨_, rfl⟩
  have hse : st + en ≤ m := by rw [← hst, ← hen, ← Nat.add_mul, ← hp]; exact hbd
  have hen0 : 0 < en := by rw [← hen]; exact Nat.mul_pos hwd0 hp0
  have hA1 : (i : Int) * 4 * (p : Int) = (st : Int) := by rw [← hst, Nat.mul_comm 4 i, Int.natCast_mul, Int.natCast_mul]; rfl
  have hA2 : (wd : Int) * (p : Int) = (en : Int) := by rw [← hen, Int.natCast_mul]
  have HP := Lib.hid hp
  have HST0 := Lib.hid hst
  have HEN := Lib.hid hen.symm
  have HSS := Lib.hid hS
  have HZ := Lib.hid hz
  have HN := Lib.hid hm
  have h1 := slice_on oa m c st (by omega) hc
  have h2 := slice_to (oa.map (·.add st)) (m - st) (c - st) en (by omega)
  clear hw hwd hww hbd hp hst hen hS hz hm
  refine (callsIn_wide (n := 7)).1 ?_
  refine callsIn_of_wp_marks Try.func15 rfl trivial ?_ rfl
  simp only [Try.ntmps15, List.size_toArray, List.length_cons, List.length_nil, Nat.reduceAdd, Nat.reduceSub, Array.replicate_succ, Array.replicate_zero, List.push_toArray, List.append_toArray, List.nil_append, List.cons_append]
  gi_wp2_with (rw [HW0.out])
  refine ⟨trivial, ?_⟩
  refine (callsIn_wide.2 (HWD.out _)).mono ?_
  rintro e w1 ⟨rfl, hb1⟩
  have hB1 := hB0.trans (hb1.mono hB0.size)
  have hT1 := hT.below hb1 hT.lt
  have hD1 := hD.below hb1 hD.lt
  have hO1 := hO.below hb1 hO.lt
  have hs1 : B + 1 + 1 + 1 ≤ w1.heap.size := by rw [← hs0]; exact hb1.size
  clear l0 hT hD hO hB0 HW0 HWD hb1
  have d0 := ld_int7 (hD1.cell 0)
  have d1 := ld_int7 (hD1.cell 1)
  have d2 := ld_id7 hD1
  obtain ⟨C, hC⟩ : ∃ C, w1.heap.size = C := ⟨_, rfl⟩
  obtain ⟨w2, hw2⟩ : ∃ w2, w1.alloc (.cells #[.int .i64 (l : Int), .int .i64 (i : Int), .slice none 0 0] 40) = w2 := ⟨_, rfl⟩
  have hT2 : Blk w2 B 36 tabV := by rw [← hw2]; exact hT1.alloc _
  have hO2 : Blk w2 (B + 1 + 1) 40 #[.int .i64 0, .int .i64 0, .slice none 0 0] := by rw [← hw2]; exact hO1.alloc _
  have hX2 : Blk w2 C 40 #[.int .i64 (l : Int), .int .i64 (i : Int), .slice none 0 0] := by rw [← hw2]; exact Blk.new_at hC.symm
  have hB2 : Below w.heap.size w w2 := by rw [← hw2]; exact hB1.alloc hB1.size _
  have hs2 : w2.heap.size = C + 1 := by rw [← hw2]; simp [hC]
  have HW2 := Lib.hid hw2
  clear hw2 hT1 hD1 hO1
  have hwd0' : ((wd : Int) == 0) = false := by rw [beq_eq_false_iff_ne]; omega
  gi_wp2_with fail
  refine ⟨trivial, ?_⟩
  refine (callsIn_wide.2 (HLV.out _)).mono ?_
  rintro e w1' ⟨rfl, rfl⟩
  gi_wp2_with (first | rw [HW2.out])
  refine ⟨trivial, ?_⟩
  refine (chunk_in _ _ _ _ p hp0 hp64 _).mono ?_
  rintro e w3 ⟨rfl, hw3⟩
  have hT3 : Blk w3 B 36 tabV := by rw [← hw3]; exact (hT2.alloc _).alloc _
  have hO3 : Blk w3 (B + 1 + 1) 40 #[.int .i64 0, .int .i64 0, .slice none 0 0] := by rw [← hw3]; exact (hO2.alloc _).alloc _
  have hX3 : Blk w3 C 40 #[.int .i64 (l : Int), .int .i64 (i : Int), .slice none 0 0] := by rw [← hw3]; exact (hX2.alloc _).alloc _
  have hA3 : Blk w3 (C + 1) 30 #[.slice (oa.map (·.add st)) en (c - st)] := by rw [← hw3]; exact (Blk.new_at hs2.symm).alloc _
  have hN3 : Blk w3 (C + 1 + 1) 3 #[.int .i64 (p : Int)] := by rw [← hw3]; exact Blk.new_at (by simp [hs2])
  have hB3 : Below w.heap.size w w3 := by rw [← hw3]; exact (hB2.alloc hB2.size _).alloc (by have := hB2.size; simp; omega) _
  have hs3 : w3.heap.size = C + 1 + 1 + 1 := by rw [← hw3]; simp [hs2]
  rw [hs2]
  clear hw3 hT2 hO2 hX2 hB2 HW2 HLV d0 d1 d2 h1 h2 hB1
  gi_wp2_with fail
  have HH := chunk1_hands (7 - 1) (C + 1) (C + 1 + 1) (by omega) (oa.map (·.add st)) wd p en (c - st) hp0 HEN.out (by omega) (by omega) w3
  have HCL := Lib.hid (show (List.range wd).map (fun j => hashT ss l (4 * i + j)) = cutL ss l i wd from rfl)
  generalize hoa : oa.map (·.add st) = ob at *
  refine range_i (by omega) (gf := 43) (lb := #[.pointer (some ⟨C + 1, 0, none⟩), .pointer (some ⟨C + 1 + 1, 0, none⟩)]) rfl (enters_of Try.func43 (by kernel_rfl) rfl) HH (fun _ => rfl)
    (fun pre W => (∃ v : Value, Blk W B 36 tabV ∧ Blk W (B + 1 + 1) 40 #[.int .i64 0, .int .i64 0, .slice none 0 0] ∧ Blk W C 40 #[.int .i64 (l : Int), .int .i64 (i : Int), v] ∧ Own W (C + 1 + 1 + 1) v (pre.map fun j => hashT ss l (4 * i + j)) ∧ Blk W (C + 1) 30 #[.slice ob en (c - st)] ∧ Blk W (C + 1 + 1) 3 #[.int .i64 (p : Int)] ∧ C + 1 + 1 + 1 ≤ W.heap.size) ∧ Below w.heap.size w W)
    (fun s W hs => by
      obtain ⟨⟨v, _, _, _, _, h5, h6, _⟩, _⟩ := hs
      exact ⟨h5.cell 0, h6.cell 0⟩)
    (OwnFrom.and (fun s A B' row hs hg hr => by
      obtain ⟨v, h1, h2, h3, h4, h5, h6, h7⟩ := hs
      exact ⟨v, h1.grown hg (fun e => by have := (hr _ e.symm).1; omega), h2.grown hg (fun e => by have := (hr _ e.symm).1; omega), h3.grown hg (fun e => by have := (hr _ e.symm).1; omega), own_kept7 h4 hg hr, h5.grown hg (fun e => by have := (hr _ e.symm).1; omega), h6.grown hg (fun e => by have := (hr _ e.symm).1; omega), Nat.le_trans h7 hg.size⟩) (ownFrom_below (Nat.le_refl _) (by omega)))
    ⟨⟨.slice none 0 0, hT3, hO3, hX3, own_nil _ _, hA3, hN3, by omega⟩, hB3⟩
    (fun x => { tmps := #[.agg tabV, .slice oa m c, .agg #[.int .i64 (l : Int), .int .i64 (i : Int)], .pointer (some ⟨B, 0, none⟩), undef, .pointer (some ⟨B + 1, 0, none⟩), .pointer (some ⟨B + 1 + 1, 0, none⟩), .int .i64 0, iv wd, .int .i64 (p : Int), .slice ob en (c - st), .pointer (some ⟨C, 0, none⟩), .slice (ob.map (·.add (x * p))) p p, .slice oa m c, .int .i64 (m : Int), .agg #[.int .i64 (l : Int), .int .i64 (i : Int)], iv wd, iv wd, .bool false, undef, .pointer (some ⟨B + 1, 0, none⟩), .int .i64 (l : Int), .int .i64 (p : Int), .slice oa m c, .pointer (some ⟨B + 1, 1, none⟩), .int .i64 (i : Int), .int .i64 ((i : Int) * 4), .int .i64 (p : Int), .int .i64 (st : Int), .slice ob (m - st) (c - st), iv wd, .int .i64 (p : Int), .int .i64 (en : Int), .slice ob en (c - st), .agg #[.int .i64 (l : Int), .int .i64 (i : Int)], .agg #[.int .i64 (l : Int), .int .i64 (i : Int), .slice none 0 0], .slice ob en (c - st), .int .i64 (p : Int), .func (.func 43) #[] #[.pointer (some ⟨C + 1, 0, none⟩), .pointer (some ⟨C + 1 + 1, 0, none⟩)], .slice (ob.map (·.add (x * p))) p p, undef, undef, undef, undef, undef, undef, undef, undef, undef], defers := [] }) ?assign ?body ?done
  case assign =>
    intro l x W K hK
    gi_wp2
    exact hK
  case body =>
    rintro l' pre x rest W hx ⟨⟨v, hT, hO, hX, hown, hA, hN, hsz⟩, hBW⟩
    clear hT3 hO3 hX3 hA3 hN3 hB3 HH HCL
    have hxw : x < wd := List.mem_range.1 (by rw [hx]; simp)
    have hpl : pre.length ≤ 4 := by
      have := congrArg List.length hx
      simp at this
      omega
    have HST := Lib.hid (cut_snoc ss l i pre x)
    have hFL : (pre.map fun j => hashT ss l (4 * i + j)).length ≤ 1073741824 := by rw [List.length_map]; omega
    have hxp : st + x * p + p ≤ m := by
      have h1 := Nat.mul_le_mul_right p (show x + 1 ≤ wd from hxw)
      rw [Nat.add_mul, Nat.one_mul, ← HEN.out] at h1
      omega
    have HR := Lib.hid (show hashT ss l (4 * i + x) = rootM (((ss.drop st).drop (x * p)).take p) by
      unfold hashT
      rw [HP.out, Nat.add_mul, HST0.out, List.drop_drop])
    have hSXd : Strs W.drew (ob.map (·.add (x * p))) (((ss.drop st).drop (x * p)).take p) := by
      rw [← hoa]
      exact (((HSS.out.below hBW).drop st).drop (x * p)).take p
    have HM := Lib.hid (fun W' hW' => mroot_any p (ob.map (·.add (x * p))) p (((ss.drop st).drop (x * p)).take p) (by rw [List.length_take, List.length_drop, List.length_drop, HN.out]; omega) (by omega) (Nat.le_refl _) (((HZ.out.drop _).drop _).take _) W' hW')
    rw [← HR.out] at HM
    generalize hashT ss l (4 * i + x) = R at *
    generalize (pre.map fun j => hashT ss l (4 * i + j)) = F at *
    generalize ob.map (·.add (x * p)) = oc at *
    obtain ⟨ov, lv, cv, rfl⟩ : ∃ ov lv cv, v = .slice ov lv cv := by
      obtain ⟨ov, cv, h, _⟩ := hown.form
      exact ⟨_, _, _, h⟩
    have HKP := Lib.hid (show ∀ W', Blk W' B 36 tabV → (loadVar 36 ⟨B, 0, none⟩).run Try.prog W' = .ok (.agg tabV) W' from fun W' h1 => tab_run h1)
    have rD : (loadVar 30 ⟨C, 2, none⟩).run Try.prog W.drew = .ok (.slice ov lv cv) W.drew := ld_sl7 ((show Blk W.drew C 40 #[.int .i64 (l : Int), .int .i64 (i : Int), .slice ov lv cv] from hX).cell 2)
    have hTd : Blk W.drew B 36 tabV := hT
    have mixed : Try.prog.follows Departure.mixedOrders = true := by kernel_rfl
    clear hx HR HSS HZ hoa
    gi_wp2_with fail
    refine region_round (S := fun W' => (loadVar 36 ⟨B, 0, none⟩).run Try.prog W' = .ok (.agg tabV) W') (by kernel_rfl) mixed ?_ (fun hHeld0 => ?_)
    · (first | exact HKP.out _ hTd | exact HKP.out _ t1 | exact HKP.out _ (t1.alloc _) | exact HKP.out _ t2 | exact HKP.out _ (t2.far (by show B ≠ C; omega) _))
    apply takeH (i := 0) rfl (by kernel_rfl) (by kernel_rfl) (by kernel_rfl) (fun _ _ _ h => h) (by rfl)
    case hy => (intro w hSw; (try dsimp only at hSw); go_simp; try with_reducible rfl)
    case hS => assumption
    (try simp only [Act.put, List.setIfInBounds_toArray, List.set_cons_zero, List.set_cons_succ])
    apply takeH (i := 2) rfl (by kernel_rfl) (by kernel_rfl) (by kernel_rfl) (fun _ _ _ h => h) (by rfl)
    case hy => (intro w hSw; (try dsimp only at hSw); go_simp; try with_reducible rfl)
    case hS => assumption
    (try simp only [Act.put, List.setIfInBounds_toArray, List.set_cons_zero, List.set_cons_succ])
    apply takeH (i := 3) rfl (by kernel_rfl) (by kernel_rfl) (by kernel_rfl) (fun _ _ _ h => h) (by rfl)
    case hy => (intro w hSw; (try dsimp only at hSw); go_simp; try with_reducible rfl)
    case hS => assumption
    (try simp only [Act.put, List.setIfInBounds_toArray, List.set_cons_zero, List.set_cons_succ])
    refine doH2 (i := 1) (j := 4) rfl rfl (by kernel_rfl) (by rfl) (by rfl) (fun K hK => ?_) (fun K hK => ?_)
    · go_simp
      refine hK.out _ _ ?_ (fun hH1 => ?_)
      · (first | exact HKP.out _ hTd | exact HKP.out _ t1 | exact HKP.out _ (t1.alloc _) | exact HKP.out _ t2 | exact HKP.out _ (t2.far (by show B ≠ C; omega) _))
      clear hK K
      (try simp only [Act.put, List.setIfInBounds_toArray, List.set_cons_zero, List.set_cons_succ])
      refine doH (i := 4) rfl (by kernel_rfl) (by rfl) (fun K hK => ?_)
      go_simp
      refine (HM.out _ hSXd).mono ?_
      rintro e w1 ⟨rfl, hb1'⟩
      have hb1 : Below W.heap.size W w1 := (Below.refl _ _).drew.trans hb1'
      have t1 := hT.below hb1 hT.lt
      have x1 := hX.below hb1 hX.lt
      have o1 := hO.below hb1 hO.lt
      have a1 := hA.below hb1 hA.lt
      have n1 := hN.below hb1 hN.lt
      have own1 : Own w1 (C + 1 + 1 + 1) (.slice ov lv cv) F := hown.below hb1
      have rW1 := ld_sl7 (x1.cell 2)
      have rA1 : (loadVar 30 ⟨C, 2, none⟩).run Try.prog (w1.alloc (.cells #[.string R] 9)) = .ok (.slice ov lv cv) (w1.alloc (.cells #[.string R] 9)) := ld_sl7 ((x1.alloc _).cell 2)
      have hBW1 : Below w.heap.size w w1 := hBW.trans (hb1.mono hBW.size)
      have hsz1 : C + 1 + 1 + 1 ≤ w1.heap.size := Nat.le_trans hsz hb1.size
      go_wp2_with fail
      refine hK.out _ _ ?_ (fun hH4 => ?_)
      · (first | exact HKP.out _ hTd | exact HKP.out _ t1 | exact HKP.out _ (t1.alloc _) | exact HKP.out _ t2 | exact HKP.out _ (t2.far (by show B ≠ C; omega) _))
      clear hK K
      (try simp only [Act.put, List.setIfInBounds_toArray, List.set_cons_zero, List.set_cons_succ])
      refine doH (i := 5) rfl (by kernel_rfl) (by rfl) (fun K hK => ?_)
      go_simp
      refine hK.out _ _ ?_ (fun hH5 => ?_)
      · (first | exact HKP.out _ hTd | exact HKP.out _ t1 | exact HKP.out _ (t1.alloc _) | exact HKP.out _ t2 | exact HKP.out _ (t2.far (by show B ≠ C; omega) _))
      clear hK K
      (try simp only [Act.put, List.setIfInBounds_toArray, List.set_cons_zero, List.set_cons_succ])
      refine doH (i := 6) rfl (by kernel_rfl) (by rfl) (fun K hK => ?_)
      refine wp_append_txt7 rfl _ _ rfl (C + 1 + 1 + 1) (.slice ov lv cv) F rfl own1 R rfl hFL hsz1 ?_
      intro g2 cap2 w2' own2 hg2
      have hne2 : ∀ k, k < C + 1 + 1 + 1 → some k ≠ (Value.slice ov lv cv).ownBlock := fun k hk e => by have := (World.ownsRow.lt own1 k e.symm).1; omega
      have t2 := t1.grown hg2 (hne2 _ (by omega))
      have x2 := x1.grown hg2 (hne2 _ (by omega))
      have o2 := o1.grown hg2 (hne2 _ (by omega))
      have a2 := a1.grown hg2 (hne2 _ (by omega))
      have n2 := n1.grown hg2 (hne2 _ (by omega))
      have c2 : w2'.cell? ⟨C, 2, none⟩ = some (.slice ov lv cv) := x2.cell 2
      have f2 := x2.frozen 2
      have hBW2 := own_below7 hBW1 own1 (by omega) hg2
      refine hK.out _ _ ?_ (fun hH6 => ?_)
      · (first | exact HKP.out _ hTd | exact HKP.out _ t1 | exact HKP.out _ (t1.alloc _) | exact HKP.out _ t2 | exact HKP.out _ (t2.far (by show B ≠ C; omega) _))
      clear hK K
      (try simp only [Act.put, List.setIfInBounds_toArray, List.set_cons_zero, List.set_cons_succ])
      apply takeH (i := 7) rfl (by kernel_rfl) (by kernel_rfl) (by kernel_rfl) (fun _ _ _ h => h) (by rfl)
      case hy => (intro w hSw; (try dsimp only at hSw); go_simp; try with_reducible rfl)
      case hS => assumption
      (try simp only [Act.put, List.setIfInBounds_toArray, List.set_cons_zero, List.set_cons_succ])
      refine doH (i := 8) rfl (by kernel_rfl) (by rfl) (fun K hK => ?_)
      go_simp
      refine hK.out _ _ ?_ (fun hH8 => ?_)
      · (first | exact HKP.out _ hTd | exact HKP.out _ t1 | exact HKP.out _ (t1.alloc _) | exact HKP.out _ t2 | exact HKP.out _ (t2.far (by show B ≠ C; omega) _))
      clear hK K
      (try simp only [Act.put, List.setIfInBounds_toArray, List.set_cons_zero, List.set_cons_succ])
      refine wpAnyH_done (by kernel_rfl) ?_ _
      simp only [onlyN]
      have t3 := t2.far (p := ⟨C, 2, none⟩) (by show B ≠ C; omega) (.slice (some ⟨g2, 0, none⟩) (F.length + 1) cap2)
      have o3 := o2.far (p := ⟨C, 2, none⟩) (by show B + 1 + 1 ≠ C; omega) (.slice (some ⟨g2, 0, none⟩) (F.length + 1) cap2)
      have a3 := a2.far (p := ⟨C, 2, none⟩) (by show C + 1 ≠ C; omega) (.slice (some ⟨g2, 0, none⟩) (F.length + 1) cap2)
      have n3 := n2.far (p := ⟨C, 2, none⟩) (by show C + 1 + 1 ≠ C; omega) (.slice (some ⟨g2, 0, none⟩) (F.length + 1) cap2)
      have x3 := x2.set_ 2 (.slice (some ⟨g2, 0, none⟩) (F.length + 1) cap2)
      have own3 := own_far7 own2 (p := ⟨C, 2, none⟩) (by show C < _; omega) (.slice (some ⟨g2, 0, none⟩) (F.length + 1) cap2)
      have hBW3 := hBW2.setCell (p := ⟨C, 2, none⟩) (by show w.heap.size ≤ C; omega) (.slice (some ⟨g2, 0, none⟩) (F.length + 1) cap2)
      have hKO : KeepsOthers W (w2'.setCell ⟨C, 2, none⟩ (.slice (some ⟨g2, 0, none⟩) (F.length + 1) cap2)) := (((KeepsOthers.of_grownBy (only_of_below (a := W) hb1 none) (fun _ _ h => by cases h))).trans (keeps_own7 own1 hg2)).trans (KeepsOthers.setCell _ _ _)
      generalize w2'.setCell ⟨C, 2, none⟩ (.slice (some ⟨g2, 0, none⟩) (F.length + 1) cap2) = w3 at *
      gi_wp2
      refine ⟨hKO, ⟨_, t3, o3, x3, by rw [HST.out]; exact own3, a3, n3, Nat.le_trans hsz hKO.size⟩, hBW3⟩
    · go_simp
      refine (HM.out _ hSXd).mono ?_
      rintro e w1 ⟨rfl, hb1'⟩
      have hb1 : Below W.heap.size W w1 := (Below.refl _ _).drew.trans hb1'
      have t1 := hT.below hb1 hT.lt
      have x1 := hX.below hb1 hX.lt
      have o1 := hO.below hb1 hO.lt
      have a1 := hA.below hb1 hA.lt
      have n1 := hN.below hb1 hN.lt
      have own1 : Own w1 (C + 1 + 1 + 1) (.slice ov lv cv) F := hown.below hb1
      have rW1 := ld_sl7 (x1.cell 2)
      have rA1 : (loadVar 30 ⟨C, 2, none⟩).run Try.prog (w1.alloc (.cells #[.string R] 9)) = .ok (.slice ov lv cv) (w1.alloc (.cells #[.string R] 9)) := ld_sl7 ((x1.alloc _).cell 2)
      have hBW1 : Below w.heap.size w w1 := hBW.trans (hb1.mono hBW.size)
      have hsz1 : C + 1 + 1 + 1 ≤ w1.heap.size := Nat.le_trans hsz hb1.size
      go_wp2_with fail
      refine hK.out _ _ ?_ (fun hH4 => ?_)
      · (first | exact HKP.out _ hTd | exact HKP.out _ t1 | exact HKP.out _ (t1.alloc _) | exact HKP.out _ t2 | exact HKP.out _ (t2.far (by show B ≠ C; omega) _))
      clear hK K
      (try simp only [Act.put, List.setIfInBounds_toArray, List.set_cons_zero, List.set_cons_succ])
      refine doH2 (i := 1) (j := 5) rfl rfl (by kernel_rfl) (by rfl) (by rfl) (fun K hK => ?_) (fun K hK => ?_)
      · go_simp
        refine hK.out _ _ ?_ (fun hH1 => ?_)
        · (first | exact HKP.out _ hTd | exact HKP.out _ t1 | exact HKP.out _ (t1.alloc _) | exact HKP.out _ t2 | exact HKP.out _ (t2.far (by show B ≠ C; omega) _))
        clear hK K
        (try simp only [Act.put, List.setIfInBounds_toArray, List.set_cons_zero, List.set_cons_succ])
        refine doH (i := 5) rfl (by kernel_rfl) (by rfl) (fun K hK => ?_)
        go_simp
        refine hK.out _ _ ?_ (fun hH5 => ?_)
        · (first | exact HKP.out _ hTd | exact HKP.out _ t1 | exact HKP.out _ (t1.alloc _) | exact HKP.out _ t2 | exact HKP.out _ (t2.far (by show B ≠ C; omega) _))
        clear hK K
        (try simp only [Act.put, List.setIfInBounds_toArray, List.set_cons_zero, List.set_cons_succ])
        refine doH (i := 6) rfl (by kernel_rfl) (by rfl) (fun K hK => ?_)
        refine wp_append_txt7 rfl _ _ rfl (C + 1 + 1 + 1) (.slice ov lv cv) F rfl own1 R rfl hFL hsz1 ?_
        intro g2 cap2 w2' own2 hg2
        have hne2 : ∀ k, k < C + 1 + 1 + 1 → some k ≠ (Value.slice ov lv cv).ownBlock := fun k hk e => by have := (World.ownsRow.lt own1 k e.symm).1; omega
        have t2 := t1.grown hg2 (hne2 _ (by omega))
        have x2 := x1.grown hg2 (hne2 _ (by omega))
        have o2 := o1.grown hg2 (hne2 _ (by omega))
        have a2 := a1.grown hg2 (hne2 _ (by omega))
        have n2 := n1.grown hg2 (hne2 _ (by omega))
        have c2 : w2'.cell? ⟨C, 2, none⟩ = some (.slice ov lv cv) := x2.cell 2
        have f2 := x2.frozen 2
        have hBW2 := own_below7 hBW1 own1 (by omega) hg2
        refine hK.out _ _ ?_ (fun hH6 => ?_)
        · (first | exact HKP.out _ hTd | exact HKP.out _ t1 | exact HKP.out _ (t1.alloc _) | exact HKP.out _ t2 | exact HKP.out _ (t2.far (by show B ≠ C; omega) _))
        clear hK K
        (try simp only [Act.put, List.setIfInBounds_toArray, List.set_cons_zero, List.set_cons_succ])
        apply takeH (i := 7) rfl (by kernel_rfl) (by kernel_rfl) (by kernel_rfl) (fun _ _ _ h => h) (by rfl)
        case hy => (intro w hSw; (try dsimp only at hSw); go_simp; try with_reducible rfl)
        case hS => assumption
        (try simp only [Act.put, List.setIfInBounds_toArray, List.set_cons_zero, List.set_cons_succ])
        refine doH (i := 8) rfl (by kernel_rfl) (by rfl) (fun K hK => ?_)
        go_simp
        refine hK.out _ _ ?_ (fun hH8 => ?_)
        · (first | exact HKP.out _ hTd | exact HKP.out _ t1 | exact HKP.out _ (t1.alloc _) | exact HKP.out _ t2 | exact HKP.out _ (t2.far (by show B ≠ C; omega) _))
        clear hK K
        (try simp only [Act.put, List.setIfInBounds_toArray, List.set_cons_zero, List.set_cons_succ])
        refine wpAnyH_done (by kernel_rfl) ?_ _
        simp only [onlyN]
        have t3 := t2.far (p := ⟨C, 2, none⟩) (by show B ≠ C; omega) (.slice (some ⟨g2, 0, none⟩) (F.length + 1) cap2)
        have o3 := o2.far (p := ⟨C, 2, none⟩) (by show B + 1 + 1 ≠ C; omega) (.slice (some ⟨g2, 0, none⟩) (F.length + 1) cap2)
        have a3 := a2.far (p := ⟨C, 2, none⟩) (by show C + 1 ≠ C; omega) (.slice (some ⟨g2, 0, none⟩) (F.length + 1) cap2)
        have n3 := n2.far (p := ⟨C, 2, none⟩) (by show C + 1 + 1 ≠ C; omega) (.slice (some ⟨g2, 0, none⟩) (F.length + 1) cap2)
        have x3 := x2.set_ 2 (.slice (some ⟨g2, 0, none⟩) (F.length + 1) cap2)
        have own3 := own_far7 own2 (p := ⟨C, 2, none⟩) (by show C < _; omega) (.slice (some ⟨g2, 0, none⟩) (F.length + 1) cap2)
        have hBW3 := hBW2.setCell (p := ⟨C, 2, none⟩) (by show w.heap.size ≤ C; omega) (.slice (some ⟨g2, 0, none⟩) (F.length + 1) cap2)
        have hKO : KeepsOthers W (w2'.setCell ⟨C, 2, none⟩ (.slice (some ⟨g2, 0, none⟩) (F.length + 1) cap2)) := (((KeepsOthers.of_grownBy (only_of_below (a := W) hb1 none) (fun _ _ h => by cases h))).trans (keeps_own7 own1 hg2)).trans (KeepsOthers.setCell _ _ _)
        generalize w2'.setCell ⟨C, 2, none⟩ (.slice (some ⟨g2, 0, none⟩) (F.length + 1) cap2) = w3 at *
        gi_wp2
        refine ⟨hKO, ⟨_, t3, o3, x3, by rw [HST.out]; exact own3, a3, n3, Nat.le_trans hsz hKO.size⟩, hBW3⟩
      · go_simp
        refine hK.out _ _ ?_ (fun hH5 => ?_)
        · (first | exact HKP.out _ hTd | exact HKP.out _ t1 | exact HKP.out _ (t1.alloc _) | exact HKP.out _ t2 | exact HKP.out _ (t2.far (by show B ≠ C; omega) _))
        clear hK K
        (try simp only [Act.put, List.setIfInBounds_toArray, List.set_cons_zero, List.set_cons_succ])
        refine doH (i := 1) rfl (by kernel_rfl) (by rfl) (fun K hK => ?_)
        go_simp
        refine hK.out _ _ ?_ (fun hH1 => ?_)
        · (first | exact HKP.out _ hTd | exact HKP.out _ t1 | exact HKP.out _ (t1.alloc _) | exact HKP.out _ t2 | exact HKP.out _ (t2.far (by show B ≠ C; omega) _))
        clear hK K
        (try simp only [Act.put, List.setIfInBounds_toArray, List.set_cons_zero, List.set_cons_succ])
        refine doH (i := 6) rfl (by kernel_rfl) (by rfl) (fun K hK => ?_)
        refine wp_append_txt7 rfl _ _ rfl (C + 1 + 1 + 1) (.slice ov lv cv) F rfl own1 R rfl hFL hsz1 ?_
        intro g2 cap2 w2' own2 hg2
        have hne2 : ∀ k, k < C + 1 + 1 + 1 → some k ≠ (Value.slice ov lv cv).ownBlock := fun k hk e => by have := (World.ownsRow.lt own1 k e.symm).1; omega
        have t2 := t1.grown hg2 (hne2 _ (by omega))
        have x2 := x1.grown hg2 (hne2 _ (by omega))
        have o2 := o1.grown hg2 (hne2 _ (by omega))
        have a2 := a1.grown hg2 (hne2 _ (by omega))
        have n2 := n1.grown hg2 (hne2 _ (by omega))
        have c2 : w2'.cell? ⟨C, 2, none⟩ = some (.slice ov lv cv) := x2.cell 2
        have f2 := x2.frozen 2
        have hBW2 := own_below7 hBW1 own1 (by omega) hg2
        refine hK.out _ _ ?_ (fun hH6 => ?_)
        · (first | exact HKP.out _ hTd | exact HKP.out _ t1 | exact HKP.out _ (t1.alloc _) | exact HKP.out _ t2 | exact HKP.out _ (t2.far (by show B ≠ C; omega) _))
        clear hK K
        (try simp only [Act.put, List.setIfInBounds_toArray, List.set_cons_zero, List.set_cons_succ])
        apply takeH (i := 7) rfl (by kernel_rfl) (by kernel_rfl) (by kernel_rfl) (fun _ _ _ h => h) (by rfl)
        case hy => (intro w hSw; (try dsimp only at hSw); go_simp; try with_reducible rfl)
        case hS => assumption
        (try simp only [Act.put, List.setIfInBounds_toArray, List.set_cons_zero, List.set_cons_succ])
        refine doH (i := 8) rfl (by kernel_rfl) (by rfl) (fun K hK => ?_)
        go_simp
        refine hK.out _ _ ?_ (fun hH8 => ?_)
        · (first | exact HKP.out _ hTd | exact HKP.out _ t1 | exact HKP.out _ (t1.alloc _) | exact HKP.out _ t2 | exact HKP.out _ (t2.far (by show B ≠ C; omega) _))
        clear hK K
        (try simp only [Act.put, List.setIfInBounds_toArray, List.set_cons_zero, List.set_cons_succ])
        refine wpAnyH_done (by kernel_rfl) ?_ _
        simp only [onlyN]
        have t3 := t2.far (p := ⟨C, 2, none⟩) (by show B ≠ C; omega) (.slice (some ⟨g2, 0, none⟩) (F.length + 1) cap2)
        have o3 := o2.far (p := ⟨C, 2, none⟩) (by show B + 1 + 1 ≠ C; omega) (.slice (some ⟨g2, 0, none⟩) (F.length + 1) cap2)
        have a3 := a2.far (p := ⟨C, 2, none⟩) (by show C + 1 ≠ C; omega) (.slice (some ⟨g2, 0, none⟩) (F.length + 1) cap2)
        have n3 := n2.far (p := ⟨C, 2, none⟩) (by show C + 1 + 1 ≠ C; omega) (.slice (some ⟨g2, 0, none⟩) (F.length + 1) cap2)
        have x3 := x2.set_ 2 (.slice (some ⟨g2, 0, none⟩) (F.length + 1) cap2)
        have own3 := own_far7 own2 (p := ⟨C, 2, none⟩) (by show C < _; omega) (.slice (some ⟨g2, 0, none⟩) (F.length + 1) cap2)
        have hBW3 := hBW2.setCell (p := ⟨C, 2, none⟩) (by show w.heap.size ≤ C; omega) (.slice (some ⟨g2, 0, none⟩) (F.length + 1) cap2)
        have hKO : KeepsOthers W (w2'.setCell ⟨C, 2, none⟩ (.slice (some ⟨g2, 0, none⟩) (F.length + 1) cap2)) := (((KeepsOthers.of_grownBy (only_of_below (a := W) hb1 none) (fun _ _ h => by cases h))).trans (keeps_own7 own1 hg2)).trans (KeepsOthers.setCell _ _ _)
        generalize w2'.setCell ⟨C, 2, none⟩ (.slice (some ⟨g2, 0, none⟩) (F.length + 1) cap2) = w3 at *
        gi_wp2
        refine ⟨hKO, ⟨_, t3, o3, x3, by rw [HST.out]; exact own3, a3, n3, Nat.le_trans hsz hKO.size⟩, hBW3⟩
  case done =>
    rintro D W hD ⟨⟨v, hT, hO, hX, hown, hA, hN, hsz⟩, hBW⟩ hK
    rw [HCL.out] at hown
    obtain ⟨ov, cv, hv, _⟩ := hown.form
    obtain ⟨lv, hlv⟩ : ∃ lv, (cutL ss l i wd).length = lv := ⟨_, rfl⟩
    rw [hlv] at hv
    subst hv
    have q0 := ld_tile hX
    have s0 : W.cell? ⟨B + 1 + 1, 0, none⟩ = some (.int .i64 0) := hO.cell 0
    have s1 : W.cell? ⟨B + 1 + 1, 1, none⟩ = some (.int .i64 0) := hO.cell 1
    have s2 : W.cell? ⟨B + 1 + 1, 2, none⟩ = some (.slice none 0 0) := hO.cell 2
    have f0 := hO.frozen 0
    have f1 := hO.frozen 1
    have f2 := hO.frozen 2
    have HK2 := Lib.hid ((((KeepsOthers.setCell W ⟨B + 1 + 1, 0, none⟩ (.int .i64 (l : Int))).trans (KeepsOthers.setCell _ ⟨B + 1 + 1, 1, none⟩ (.int .i64 (i : Int)))).trans (KeepsOthers.setCell _ ⟨B + 1 + 1, 2, none⟩ (.slice ov lv cv))).same D _ hK rfl)
    have HRES := Lib.hid (((hO.set_ 0 (.int .i64 (l : Int))).set_ 1 (.int .i64 (i : Int))).set_ 2 (.slice ov lv cv))
    have HOW := Lib.hid (own_far7 (own_far7 (own_far7 hown (p := ⟨B + 1 + 1, 0, none⟩) (by show B + 1 + 1 < _; omega) (.int .i64 (l : Int))) (p := ⟨B + 1 + 1, 1, none⟩) (by show B + 1 + 1 < _; omega) (.int .i64 (i : Int))) (p := ⟨B + 1 + 1, 2, none⟩) (by show B + 1 + 1 < _; omega) (.slice ov lv cv))
    have HBW := Lib.hid (((hBW.setCell (p := ⟨B + 1 + 1, 0, none⟩) (by show w.heap.size ≤ B + 1 + 1; omega) (.int .i64 (l : Int))).setCell (p := ⟨B + 1 + 1, 1, none⟩) (by show w.heap.size ≤ B + 1 + 1; omega) (.int .i64 (i : Int))).setCell (p := ⟨B + 1 + 1, 2, none⟩) (by show w.heap.size ≤ B + 1 + 1; omega) (.slice ov lv cv))
    clear hT hO hX hown hA hN hBW hT3 hO3 hX3 hA3 hN3 hB3 HH hlv
    gi_wp2
    refine ⟨by simp, .inl ⟨_, _, rfl, run_takeDeferred HK2.out, ?_⟩⟩
    refine ⟨_, results_tile rfl _ _ (B + 1 + 1) 40 #[.int .i64 (l : Int), .int .i64 (i : Int), .slice ov lv cv] _ rfl ((World.putObj_heap_other (by omega)).trans HRES.out) Try.underlying40 rfl infoTile, ?_⟩
    rw [HRC.out]
    refine ⟨⟨_, rfl, World.ownsRow.mono (ownsRow_putObj HOW.out _ HK2.out rfl) (by omega)⟩, HBW.out.trans (belowK_b (w := w) (Nat.le_refl _) _ D _ _ (by omega) HK2.out rfl rfl)⟩
end
end Go.Proofs.Ytpapmcdnaplmkaa
