/-
  Requests and heads that are read.
-/
import Derived.Test.YtfbeakakokhfhaaWHead
import Derived.Test.YtfbeakakokhfhaaWCut
namespace Go.Proofs.Ytfbeakakokhfhaa
open Go.RowKit

/-- a reader on its way: block g holds what is not read yet, block rb what was read, block R the result -/
structure RS (w wr : World) (t : TypeId) (g rb R : Nat) (s : ByteArray) (cs zs : Array Value) : Prop where
  cut : Cut wr g s
  blk : Blk wr rb t cs
  res : Blk wr R t zs
  below : Below w.heap.size w wr
  hg : w.heap.size ≤ g
  hb : w.heap.size ≤ rb
  hR : w.heap.size ≤ R
  n1 : rb ≠ g
  n2 : R ≠ g
  n3 : R ≠ rb
section
variable {w wr w' : World} {t : TypeId} {g rb R : Nat} {s s' : ByteArray} {cs zs : Array Value}
theorem RS.call (h : RS w wr t g rb R s cs zs) (hc : Cut w' g s') (hg : wr.grownBy w' (some g)) : RS w w' t g rb R s' cs zs :=
  ⟨hc, h.blk.grown hg (by intro e; injection e with e; exact h.n1 e), h.res.grown hg (by intro e; injection e with e; exact h.n2 e),
    h.below.grown hg h.below.size (fun k hk => by injection hk with hk; have := h.hg; omega), h.hg, h.hb, h.hR, h.n1, h.n2, h.n3⟩
theorem RS.store (h : RS w wr t g rb R s cs zs) (i : Nat) (u : Value) : RS w (wr.setCell ⟨rb, i, none⟩ u) t g rb R s (cs.setIfInBounds i u) zs :=
  ⟨Blk.far h.cut (fun e => h.n1 e.symm) u, h.blk.set_ i u, h.res.far (fun e => h.n3 e) u, h.below.setCell (p := ⟨rb, i, none⟩) h.hb u, h.hg, h.hb, h.hR, h.n1, h.n2, h.n3⟩
theorem RS.under (h : RS w wr t g rb R s cs zs) (hb : Below wr.heap.size wr w') : RS w w' t g rb R s cs zs :=
  ⟨h.cut.below hb, h.blk.below hb h.blk.lt, h.res.below hb h.res.lt, h.below.trans (hb.mono h.below.size), h.hg, h.hb, h.hR, h.n1, h.n2, h.n3⟩
end

def txF (s : ByteArray) : ByteArray := cutF (numV (cutF 4 s) : Nat) (cutR 4 s)
def txR (s : ByteArray) : ByteArray := cutR (numV (cutF 4 s) : Nat) (cutR 4 s)
theorem txR_size (s : ByteArray) : (txR s).size ≤ s.size := Nat.le_trans (cutR_size _ _) (cutR_size _ _)
theorem txF_size (s : ByteArray) : (txF s).size ≤ s.size := Nat.le_trans (cutF_size _ _) (cutR_size _ _)
theorem cutText_any' (g : Nat) (s : ByteArray) (hs : s.size ≤ 9223372036854775807) (w : World) (h : Cut w g s) :
    Calls Try.prog 27 #[.func (.func 32) #[] #[.pointer (some ⟨g, 0, none⟩)]] w fun e w' => e = .returned (.string (txF s)) ∧ Cut w' g (txR s) ∧ w.grownBy w' (some g) := cutText_any g s hs w h
def nF (s : ByteArray) : Nat := numV (cutF 4 s)
theorem cutNumber_any' (g : Nat) (s : ByteArray) (hs : s.size ≤ 9223372036854775807) (w : World) (h : Cut w g s) :
    Calls Try.prog 26 #[.func (.func 32) #[] #[.pointer (some ⟨g, 0, none⟩)]] w fun e w' => e = .returned (.int .i64 (nF s : Nat)) ∧ Cut w' g (cutR 4 s) ∧ w.grownBy w' (some g) := cutNumber_any g s hs w h

/-- what stands in b as a request: client, seq, leaf, key, value -/
def q0 (b : ByteArray) : ByteArray := cutR 1 b
def q1 (b : ByteArray) : ByteArray := cutR 4 (q0 b)
def q2 (b : ByteArray) : ByteArray := cutR 4 (q1 b)
def q3 (b : ByteArray) : ByteArray := txR (q2 b)
def q4 (b : ByteArray) : ByteArray := txR (q3 b)
def rqC (b : ByteArray) : Nat := nF (q0 b)
def rqQ (b : ByteArray) : Nat := nF (q1 b)
def rqL (b : ByteArray) : ByteArray := txF (q2 b)
def rqK (b : ByteArray) : ByteArray := txF (q3 b)
def rqV (b : ByteArray) : ByteArray := txF (q4 b)
def okReq (b : ByteArray) : Bool := rightB (rqC b) (rqQ b) (rqL b) (rqK b) (rqV b) && decide (reqB (rqC b) (rqQ b) (rqL b) (rqK b) (rqV b) = b)
theorem q_sizes (b : ByteArray) : (q0 b).size ≤ b.size ∧ (q1 b).size ≤ b.size ∧ (q2 b).size ≤ b.size ∧ (q3 b).size ≤ b.size ∧ (q4 b).size ≤ b.size ∧ (rqL b).size ≤ b.size ∧ (rqK b).size ≤ b.size ∧ (rqV b).size ≤ b.size := by
  have h0 : (q0 b).size ≤ b.size := cutR_size _ _
  have h1 : (q1 b).size ≤ (q0 b).size := cutR_size _ _
  have h2 : (q2 b).size ≤ (q1 b).size := cutR_size _ _
  have h3 : (q3 b).size ≤ (q2 b).size := txR_size _
  have h4 : (q4 b).size ≤ (q3 b).size := txR_size _
  have h5 : (rqL b).size ≤ (q2 b).size := txF_size _
  have h6 : (rqK b).size ≤ (q3 b).size := txF_size _
  have h7 : (rqV b).size ≤ (q4 b).size := txF_size _
  omega
def zReq : Array Value := #[.int .i64 0, .int .i64 0, .string ⟨#[]⟩, .string ⟨#[]⟩, .string ⟨#[]⟩]
/-- what ReadRequest answers -/
def rdReq (b : ByteArray) : Array Value := if okReq b then #[.agg (reqV (rqC b) (rqQ b) (rqL b) (rqK b) (rqV b)), .int .i64 0] else #[.agg zReq, .int .i64 2]
theorem results_cell_tmp {P : Program} {fn : Func} {p t : Tmp} {ty : TypeId} (h : fn.results = #[.cell p ty, .tmp t]) (tmps : Array Value) (w : World) (g : Nat) (tt : TypeId) (cs : Array Value) (d : TypeDesc)
    (hp : tmps.getD p undef = .pointer (some ⟨g, 0, none⟩)) (hg : Blk w g tt cs)
    (hu : P.underlying ty = some d) (hd : (match d with | .struct _ | .array _ _ => true | _ => false) = true) (hi : (P.info? ty).map (·.size) = some cs.size) :
    (results fn tmps).run P w = .ok (.tuple #[.agg cs, tmps.getD t undef]) w := by
  have hl := run_loadVar_row (P := P) w g tt ty cs (0, 0) d hg hu hd hi
  have hp' : tmps[p]?.getD undef = .pointer (some ⟨g, 0, none⟩) := by simpa using hp
  simp [results, h, hp', asAddr, hl]

set_option maxRecDepth 100000 in
set_option maxHeartbeats 2000000 in
theorem readRequest_any (b : ByteArray) (hb : b.size ≤ 1099511627776) (w : World) :
    Calls Try.prog 13 #[.string b] w fun e w' => e = .returned (.tuple (rdReq b)) ∧ Below w.heap.size w w' := by
  obtain ⟨z0, z1, z2, z3, z4, z5, z6, z7⟩ := q_sizes b
  have H0 := Lib.hid (fun g W hW => cut_any 1 g b (by omega) W hW)
  have H1 := Lib.hid (fun g W hW => cutNumber_any' g (q0 b) (by omega) W hW)
  have H2 := Lib.hid (fun g W hW => cutNumber_any' g (q1 b) (by omega) W hW)
  have H3 := Lib.hid (fun g W hW => cutText_any' g (q2 b) (by omega) W hW)
  have H4 := Lib.hid (fun g W hW => cutText_any' g (q3 b) (by omega) W hW)
  have H5 := Lib.hid (fun g W hW => cutText_any' g (q4 b) (by omega) W hW)
  have H6 := Lib.hid (fun W => right_any (rqC b) (rqQ b) (rqL b) (rqK b) (rqV b) (by omega) (by omega) (by omega) W)
  have H7 := Lib.hid (fun W => request_any (rqC b) (rqQ b) (rqL b) (rqK b) (rqV b) (by omega) (by omega) (by omega) W)
  change Hid (∀ g W, Cut W g b → Calls Try.prog 32 _ W fun e w' => _ ∧ Cut w' g (q0 b) ∧ _) at H0
  change Hid (∀ g W, Cut W g (q0 b) → Calls Try.prog 26 _ W fun e w' => e = .returned (.int .i64 (rqC b : Nat)) ∧ Cut w' g (q1 b) ∧ _) at H1
  change Hid (∀ g W, Cut W g (q1 b) → Calls Try.prog 26 _ W fun e w' => e = .returned (.int .i64 (rqQ b : Nat)) ∧ Cut w' g (q2 b) ∧ _) at H2
  change Hid (∀ g W, Cut W g (q2 b) → Calls Try.prog 27 _ W fun e w' => e = .returned (.string (rqL b)) ∧ Cut w' g (q3 b) ∧ _) at H3
  change Hid (∀ g W, Cut W g (q3 b) → Calls Try.prog 27 _ W fun e w' => e = .returned (.string (rqK b)) ∧ Cut w' g (q4 b) ∧ _) at H4
  change Hid (∀ g W, Cut W g (q4 b) → Calls Try.prog 27 _ W fun e w' => e = .returned (.string (rqV b)) ∧ Cut w' g (txR (q4 b)) ∧ _) at H5
  have HOK := Lib.hid (show rdReq b = if (rightB (rqC b) (rqQ b) (rqL b) (rqK b) (rqV b) && decide (reqB (rqC b) (rqQ b) (rqL b) (rqK b) (rqV b) = b)) then #[.agg (reqV (rqC b) (rqQ b) (rqL b) (rqK b) (rqV b)), .int .i64 0] else #[.agg zReq, .int .i64 2] from rfl)
  generalize rdReq b = RV at *
  generalize rqC b = c at *; generalize rqQ b = q at *; generalize rqL b = l at *; generalize rqK b = k at *; generalize rqV b = v at *
  generalize q0 b = s0 at *; generalize q1 b = s1 at *; generalize q2 b = s2 at *; generalize q3 b = s3 at *; generalize q4 b = s4 at *; generalize txR s4 = s5 at *
  clear z0 z1 z2 z3 z4 z5 z6 z7
  go_enter Try.func13, Try.ntmps13
  go_wp2_with fail
  refine (cutter_any b _).mono ?_
  rintro e w1 ⟨rfl, hc1, hB1⟩
  have hR1 : Blk w1 w.heap.size 23 zReq := (Blk.new w 23 _).below hB1 (by simp)
  have hB1' : Below w.heap.size w w1 := ((Below.refl _ w).alloc (Nat.le_refl _) _).trans (hB1.mono (by simp))
  have hgw : w.heap.size < (w.alloc (.cells #[.int .i64 0, .int .i64 0, .string ⟨#[]⟩, .string ⟨#[]⟩, .string ⟨#[]⟩] 23)).heap.size := by simp
  generalize (w.alloc (.cells #[.int .i64 0, .int .i64 0, .string ⟨#[]⟩, .string ⟨#[]⟩, .string ⟨#[]⟩] 23)).heap.size = g at *
  clear hB1
  go_wp2_with fail
  refine (H0.out _ _ hc1).mono ?_
  rintro e w2 ⟨rfl, hc2, hg2⟩
  have hR2 := hR1.grown hg2 (by intro h; injection h; omega)
  have hB2 := hB1'.grown hg2 hB1'.size (fun j hj => by injection hj; omega)
  clear hc1 hR1 hB1' hg2
  have hS3 : RS w (w2.alloc (.cells #[.int .i64 0, .int .i64 0, .string ⟨#[]⟩, .string ⟨#[]⟩, .string ⟨#[]⟩] 23)) 23 g w2.heap.size w.heap.size s0 zReq zReq :=
    ⟨Blk.alloc hc2 _, Blk.new w2 _ _, hR2.alloc _, hB2.alloc hB2.size _, by omega, hB2.size, Nat.le_refl _, fun e => by have := hc2.lt; omega, by omega, fun e => by have := hR2.lt; omega⟩
  go_wp2_with fail
  refine (H1.out _ _ hS3.cut).mono ?_
  rintro e w4 ⟨rfl, hc4, hg4⟩
  have hS4 := hS3.call hc4 hg4
  generalize w2.heap.size = rb at *
  clear hS3 hc4 hg4 hc2 hR2 hB2
  have c0 : w4.cell? ⟨rb, 0, none⟩ = some (.int .i64 0) := hS4.blk.cell 0
  have f0 := hS4.blk.frozen 0
  go_wp2_with fail
  have hS5 := hS4.store 0 (.int .i64 (c : Int))
  refine (H2.out _ _ hS5.cut).mono ?_
  rintro e w5 ⟨rfl, hc5, hg5⟩
  have hS6 := hS5.call hc5 hg5
  clear hS4 hS5 hc5 hg5 c0 f0
  have c0 : w5.cell? ⟨rb, 1, none⟩ = some (.int .i64 0) := hS6.blk.cell 1
  have f0 := hS6.blk.frozen 1
  go_wp2_with fail
  have hS7 := hS6.store 1 (.int .i64 (q : Int))
  refine (H3.out _ _ hS7.cut).mono ?_
  rintro e w6 ⟨rfl, hc5, hg5⟩
  have hS8 := hS7.call hc5 hg5
  clear hS6 hS7 hc5 hg5 c0 f0
  have c0 : w6.cell? ⟨rb, 2, none⟩ = some (.string ⟨#[]⟩) := hS8.blk.cell 2
  have f0 := hS8.blk.frozen 2
  go_wp2_with fail
  have hS9 := hS8.store 2 (.string l)
  refine (H4.out _ _ hS9.cut).mono ?_
  rintro e w7 ⟨rfl, hc5, hg5⟩
  have hS10 := hS9.call hc5 hg5
  clear hS8 hS9 hc5 hg5 c0 f0
  have c0 : w7.cell? ⟨rb, 3, none⟩ = some (.string ⟨#[]⟩) := hS10.blk.cell 3
  have f0 := hS10.blk.frozen 3
  go_wp2_with fail
  have hS11 := hS10.store 3 (.string k)
  refine (H5.out _ _ hS11.cut).mono ?_
  rintro e w8 ⟨rfl, hc5, hg5⟩
  have hS12 := hS11.call hc5 hg5
  clear hS10 hS11 hc5 hg5 c0 f0
  have c0 : w8.cell? ⟨rb, 4, none⟩ = some (.string ⟨#[]⟩) := hS12.blk.cell 4
  have f0 := hS12.blk.frozen 4
  have hS13 : RS w (w8.setCell ⟨rb, 4, none⟩ (.string v)) 23 g rb w.heap.size s5 (reqV c q l k v) zReq := hS12.store 4 (.string v)
  have c1 : w8.cell? ⟨rb, 0, none⟩ = some (.int .i64 c) := hS12.blk.cell 0
  have c2 : w8.cell? ⟨rb, 1, none⟩ = some (.int .i64 q) := hS12.blk.cell 1
  have c3 : w8.cell? ⟨rb, 2, none⟩ = some (.string l) := hS12.blk.cell 2
  have c4 : w8.cell? ⟨rb, 3, none⟩ = some (.string k) := hS12.blk.cell 3
  clear hS12
  go_wp2_with fail
  refine (H6.out _).mono ?_
  rintro e w9 ⟨rfl, hB9⟩
  have hS14 := hS13.under hB9
  clear hS13 hB9 c0 c1 c2 c3 c4 f0 H0 H1 H2 H3 H4 H5
  have p0 : w9.cell? ⟨rb, 0, none⟩ = some (.int .i64 c) := hS14.blk.cell 0
  have p1 : w9.cell? ⟨rb, 1, none⟩ = some (.int .i64 q) := hS14.blk.cell 1
  have p2 : w9.cell? ⟨rb, 2, none⟩ = some (.string l) := hS14.blk.cell 2
  have p3 : w9.cell? ⟨rb, 3, none⟩ = some (.string k) := hS14.blk.cell 3
  have p4 : w9.cell? ⟨rb, 4, none⟩ = some (.string v) := hS14.blk.cell 4
  have hres := hS14.res
  have hbel := hS14.below
  have HS := Lib.hid hS14
  clear hS14
  generalize rightB (c : Int) (q : Int) l k v = RB at *
  cases RB
  · clear H6 H7
    have HV := Lib.hid (show RV = #[.agg zReq, .int .i64 2] from HOK.out)
    go_wp2_with (refine wpList_store_row rfl 23 _ _ rfl w.heap.size zReq rfl rfl 23 zReq hres (by kernel_rfl) (by kernel_rfl) (by kernel_rfl) ?_)
    refine bodyPost_ret (results_cell_tmp rfl _ _ w.heap.size 23 zReq _ rfl (blk_setRow hres _) Try.underlying23 rfl (by kernel_rfl)) rfl ⟨?_, below_setRow hbel (Nat.le_refl _) _⟩
    rw [HV.out]
    rfl
  · clear H6
    have HL := Lib.hid (show ∀ W, Below w9.heap.size w9 W → W.cell? ⟨rb, 0, none⟩ = some (.int .i64 c) ∧ W.cell? ⟨rb, 1, none⟩ = some (.int .i64 q) ∧ W.cell? ⟨rb, 2, none⟩ = some (.string l) ∧ W.cell? ⟨rb, 3, none⟩ = some (.string k) ∧ W.cell? ⟨rb, 4, none⟩ = some (.string v) ∧ Blk W w.heap.size 23 zReq ∧ Below w.heap.size w W from fun W hW => by
      have h := HS.out.under hW
      exact ⟨h.blk.cell 0, h.blk.cell 1, h.blk.cell 2, h.blk.cell 3, h.blk.cell 4, h.res, h.below⟩)
    obtain ⟨X, hX⟩ : ∃ X, reqB (c : Int) (q : Int) l k v = X := ⟨_, rfl⟩
    rw [hX] at HOK H7
    clear hX
    by_cases hXb : X = b
    · subst hXb
      have HV := Lib.hid (show RV = #[.agg (reqV c q l k v), .int .i64 0] by rw [HOK.out]; simp)
      go_wp2_with fail
      refine (H7.out _).mono ?_
      rintro e w10 ⟨rfl, hB10⟩
      obtain ⟨r0, r1, r2, r3, r4, hres2, hbel2⟩ := HL.out _ hB10
      clear p0 p1 p2 p3 p4 hres hbel HS HL hB10
      go_wp2_with (refine wpList_store_row rfl 23 _ _ rfl w.heap.size (reqV c q l k v) rfl rfl 23 zReq hres2 (by kernel_rfl) (by kernel_rfl) (by kernel_rfl) ?_)
      refine bodyPost_ret (results_cell_tmp rfl _ _ w.heap.size 23 (reqV c q l k v) _ rfl (blk_setRow hres2 _) Try.underlying23 rfl (by kernel_rfl)) rfl ⟨?_, below_setRow hbel2 (Nat.le_refl _) _⟩
      rw [HV.out]
      rfl
    · have hne : (X.toList == b.toList) = false := by
        rw [beq_eq_false_iff_ne, ByteArray.toList_eq, ByteArray.toList_eq]
        intro e
        exact hXb (by cases X; cases b; simp_all)
      have HV := Lib.hid (show RV = #[.agg zReq, .int .i64 2] by rw [HOK.out]; simp [hXb])
      clear hXb
      go_wp2_with fail
      refine (H7.out _).mono ?_
      rintro e w10 ⟨rfl, hB10⟩
      obtain ⟨r0, r1, r2, r3, r4, hres2, hbel2⟩ := HL.out _ hB10
      clear p0 p1 p2 p3 p4 hres hbel HS HL hB10
      go_wp2_with (refine wpList_store_row rfl 23 _ _ rfl w.heap.size zReq rfl rfl 23 zReq hres2 (by kernel_rfl) (by kernel_rfl) (by kernel_rfl) ?_)
      refine bodyPost_ret (results_cell_tmp rfl _ _ w.heap.size 23 zReq _ rfl (blk_setRow hres2 _) Try.underlying23 rfl (by kernel_rfl)) rfl ⟨?_, below_setRow hbel2 (Nat.le_refl _) _⟩
      rw [HV.out]
      rfl
end Go.Proofs.Ytfbeakakokhfhaa
