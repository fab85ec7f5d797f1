/-
  Requests and heads that are read. Lists that are read.
-/
import Derived.Test.YtnbboabaihddbaaGreatWNumWReqYKind
import Derived.Test.YtnbboabaihddbaaGreatWBldWStrsWListWBeWCut
namespace Go.Proofs.YtnbboabaihddbaaGreat
open Go.RowKit

/-- a reader on its way: block g holds what is not read yet, block rb what was read, block R the result -/
structure RS (w wr : World) (t : TypeId) (g rb R : Nat) (s : ByteArray) (cs zs : Array Value) : Prop where
 cut : Cut wr g s
 blk : Blk wr rb t cs
 res : Blk wr R t zs
 below : Below w.heap.size w wr
 hg : w.heap.size ≤ g
 hb : w.heap.size ≤ rb
 hR : w.heap.size ≤ R
 n1 : rb ≠ g
 n2 : R ≠ g
 n3 : R ≠ rb
section
variable {w wr w' : World} {t : TypeId} {g rb R : Nat} {s s' : ByteArray} {cs zs : Array Value}
theorem RS.call (h : RS w wr t g rb R s cs zs) (hc : Cut w' g s') (hg : wr.grownBy w' (some g)) : RS w w' t g rb R s' cs zs :=
 ⟨hc, h.blk.grown hg (by intro e; injection e with e; exact h.n1 e), h.res.grown hg (by intro e; injection e with e; exact h.n2 e),
  h.below.grown hg h.below.size (fun k hk => by injection hk with hk; have := h.hg; omega), h.hg, h.hb, h.hR, h.n1, h.n2, h.n3⟩
theorem RS.store (h : RS w wr t g rb R s cs zs) (i : Nat) (u : Value) : RS w (wr.setCell ⟨rb, i, none⟩ u) t g rb R s (cs.setIfInBounds i u) zs :=
 ⟨Blk.far h.cut (fun e => h.n1 e.symm) u, h.blk.set_ i u, h.res.far (fun e => h.n3 e) u, h.below.setCell (p := ⟨rb, i, none⟩) h.hb u, h.hg, h.hb, h.hR, h.n1, h.n2, h.n3⟩
theorem RS.under (h : RS w wr t g rb R s cs zs) (hb : Below wr.heap.size wr w') : RS w w' t g rb R s cs zs :=
 ⟨h.cut.below hb, h.blk.below hb h.blk.lt, h.res.below hb h.res.lt, h.below.trans (hb.mono h.below.size), h.hg, h.hb, h.hR, h.n1, h.n2, h.n3⟩
end

def txF (s : ByteArray) : ByteArray := cutF (numV (cutF 4 s) : Nat) (cutR 4 s)
def txR (s : ByteArray) : ByteArray := cutR (numV (cutF 4 s) : Nat) (cutR 4 s)
theorem txR_size (s : ByteArray) : (txR s).size ≤ s.size := Nat.le_trans (cutR_size _ _) (cutR_size _ _)
theorem txF_size (s : ByteArray) : (txF s).size ≤ s.size := Nat.le_trans (cutF_size _ _) (cutR_size _ _)
theorem cutText_any' (g : Nat) (s : ByteArray) (hs : s.size ≤ 9223372036854775807) (w : World) (h : Cut w g s) :
 Calls Tryz.prog 86 #[.func (.func 102) #[] #[.pointer (some ⟨g, 0, none⟩)]] w fun e w' => e = .returned (.string (txF s)) ∧ Cut w' g (txR s) ∧ w.grownBy w' (some g) := cutText_any g s hs w h
def nF (s : ByteArray) : Nat := numV (cutF 4 s)
theorem cutNumber_any' (g : Nat) (s : ByteArray) (hs : s.size ≤ 9223372036854775807) (w : World) (h : Cut w g s) :
 Calls Tryz.prog 85 #[.func (.func 102) #[] #[.pointer (some ⟨g, 0, none⟩)]] w fun e w' => e = .returned (.int .i64 (nF s : Nat)) ∧ Cut w' g (cutR 4 s) ∧ w.grownBy w' (some g) := cutNumber_any g s hs w h

/-- what stands in b as a request: client, seq, leaf, key, value -/
def q0 (b : ByteArray) : ByteArray := cutR 1 b
def q1 (b : ByteArray) : ByteArray := cutR 4 (q0 b)
def q2 (b : ByteArray) : ByteArray := cutR 4 (q1 b)
def q3 (b : ByteArray) : ByteArray := txR (q2 b)
def q4 (b : ByteArray) : ByteArray := txR (q3 b)
def rqC (b : ByteArray) : Nat := nF (q0 b)
def rqQ (b : ByteArray) : Nat := nF (q1 b)
def rqL (b : ByteArray) : ByteArray := txF (q2 b)
def rqK (b : ByteArray) : ByteArray := txF (q3 b)
def rqV (b : ByteArray) : ByteArray := txF (q4 b)
def okReq (b : ByteArray) : Bool := rightB (rqC b) (rqQ b) (rqL b) (rqK b) (rqV b) && decide (reqB (rqC b) (rqQ b) (rqL b) (rqK b) (rqV b) = b)
theorem q_sizes (b : ByteArray) : (q0 b).size ≤ b.size ∧ (q1 b).size ≤ b.size ∧ (q2 b).size ≤ b.size ∧ (q3 b).size ≤ b.size ∧ (q4 b).size ≤ b.size ∧ (rqL b).size ≤ b.size ∧ (rqK b).size ≤ b.size ∧ (rqV b).size ≤ b.size := by
 have h0 : (q0 b).size ≤ b.size := cutR_size _ _
 have h1 : (q1 b).size ≤ (q0 b).size := cutR_size _ _
 have h2 : (q2 b).size ≤ (q1 b).size := cutR_size _ _
 have h3 : (q3 b).size ≤ (q2 b).size := txR_size _
 have h4 : (q4 b).size ≤ (q3 b).size := txR_size _
 have h5 : (rqL b).size ≤ (q2 b).size := txF_size _
 have h6 : (rqK b).size ≤ (q3 b).size := txF_size _
 have h7 : (rqV b).size ≤ (q4 b).size := txF_size _
 omega
def zReq : Array Value := #[.int .i64 0, .int .i64 0, .string ⟨#[]⟩, .string ⟨#[]⟩, .string ⟨#[]⟩]
/-- what ReadRequest answers -/
def rdReq (b : ByteArray) : Array Value := if okReq b then #[.agg (reqV (rqC b) (rqQ b) (rqL b) (rqK b) (rqV b)), .int .i64 0] else #[.agg zReq, .int .i64 2]
theorem results_cell_tmp {P : Program} {fn : Func} {p t : Tmp} {ty : TypeId} (h : fn.results = #[.cell p ty, .tmp t]) (tmps : Array Value) (w : World) (g : Nat) (tt : TypeId) (cs : Array Value) (d : TypeDesc)
 (hp : tmps.getD p undef = .pointer (some ⟨g, 0, none⟩)) (hg : Blk w g tt cs)
 (hu : P.underlying ty = some d) (hd : (match d with | .struct _ | .array _ _ => true | _ => false) = true) (hi : (P.info? ty).map (·.size) = some cs.size) :
 (results fn tmps).run P w = .ok (.tuple #[.agg cs, tmps.getD t undef]) w := by
 have hl := run_loadVar_row (P := P) w g tt ty cs (0, 0) d hg hu hd hi
 have hp' : tmps[p]?.getD undef = .pointer (some ⟨g, 0, none⟩) := by simpa using hp
 simp [results, h, hp', asAddr, hl]

set_option maxRecDepth 100000 in
set_option maxHeartbeats 2000000 in
theorem readRequest_any (b : ByteArray) (hb : b.size ≤ 1099511627776) (w : World) :
 Calls Tryz.prog 61 #[.string b] w fun e w' => e = .returned (.tuple (rdReq b)) ∧ Below w.heap.size w w' := by
 obtain ⟨z0, z1, z2, z3, z4, z5, z6, z7⟩ := q_sizes b
 have H0 := Lib.hid (fun g W hW => cut_any 1 g b (by omega) W hW)
 have H1 := Lib.hid (fun g W hW => cutNumber_any' g (q0 b) (by omega) W hW)
 have H2 := Lib.hid (fun g W hW => cutNumber_any' g (q1 b) (by omega) W hW)
 have H3 := Lib.hid (fun g W hW => cutText_any' g (q2 b) (by omega) W hW)
 have H4 := Lib.hid (fun g W hW => cutText_any' g (q3 b) (by omega) W hW)
 have H5 := Lib.hid (fun g W hW => cutText_any' g (q4 b) (by omega) W hW)
 have H6 := Lib.hid (fun W => right_any (rqC b) (rqQ b) (rqL b) (rqK b) (rqV b) (by omega) (by omega) (by omega) W)
 have H7 := Lib.hid (fun W => request_any (rqC b) (rqQ b) (rqL b) (rqK b) (rqV b) (by omega) (by omega) (by omega) W)
 change Hid (∀ g W, Cut W g b → Calls Tryz.prog 102 _ W fun e w' => _ ∧ Cut w' g (q0 b) ∧ _) at H0
 change Hid (∀ g W, Cut W g (q0 b) → Calls Tryz.prog 85 _ W fun e w' => e = .returned (.int .i64 (rqC b : Nat)) ∧ Cut w' g (q1 b) ∧ _) at H1
 change Hid (∀ g W, Cut W g (q1 b) → Calls Tryz.prog 85 _ W fun e w' => e = .returned (.int .i64 (rqQ b : Nat)) ∧ Cut w' g (q2 b) ∧ _) at H2
 change Hid (∀ g W, Cut W g (q2 b) → Calls Tryz.prog 86 _ W fun e w' => e = .returned (.string (rqL b)) ∧ Cut w' g (q3 b) ∧ _) at H3
 change Hid (∀ g W, Cut W g (q3 b) → Calls Tryz.prog 86 _ W fun e w' => e = .returned (.string (rqK b)) ∧ Cut w' g (q4 b) ∧ _) at H4
 change Hid (∀ g W, Cut W g (q4 b) → Calls Tryz.prog 86 _ W fun e w' => e = .returned (.string (rqV b)) ∧ Cut w' g (txR (q4 b)) ∧ _) at H5
 have HOK := Lib.hid (show rdReq b = if (rightB (rqC b) (rqQ b) (rqL b) (rqK b) (rqV b) && decide (reqB (rqC b) (rqQ b) (rqL b) (rqK b) (rqV b) = b)) then #[.agg (reqV (rqC b) (rqQ b) (rqL b) (rqK b) (rqV b)), .int .i64 0] else #[.agg zReq, .int .i64 2] from rfl)
 generalize rdReq b = RV at *
 generalize rqC b = c at *; generalize rqQ b = q at *; generalize rqL b = l at *; generalize rqK b = k at *; generalize rqV b = v at *
 generalize q0 b = s0 at *; generalize q1 b = s1 at *; generalize q2 b = s2 at *; generalize q3 b = s3 at *; generalize q4 b = s4 at *; generalize txR s4 = s5 at *
 clear z0 z1 z2 z3 z4 z5 z6 z7
 go_enter Tryz.func61, Tryz.ntmps61
 go_wp2_with fail
 refine (cutter_any b _).mono ?_
 rintro e w1 ⟨rfl, hc1, hB1⟩
 have hR1 : Blk w1 w.heap.size 58 zReq := (Blk.new w 58 _).below hB1 (by simp)
 have hB1' : Below w.heap.size w w1 := ((Below.refl _ w).alloc (Nat.le_refl _) _).trans (hB1.mono (by simp))
 have hgw : w.heap.size < (w.alloc (.cells #[.int .i64 0, .int .i64 0, .string ⟨#[]⟩, .string ⟨#[]⟩, .string ⟨#[]⟩] 58)).heap.size := by simp
 generalize (w.alloc (.cells #[.int .i64 0, .int .i64 0, .string ⟨#[]⟩, .string ⟨#[]⟩, .string ⟨#[]⟩] 58)).heap.size = g at *
 clear hB1
 go_wp2_with fail
 refine (H0.out _ _ hc1).mono ?_
 rintro e w2 ⟨rfl, hc2, hg2⟩
 have hR2 := hR1.grown hg2 (by intro h; injection h; omega)
 have hB2 := hB1'.grown hg2 hB1'.size (fun j hj => by injection hj; omega)
 clear hc1 hR1 hB1' hg2
 have hS3 : RS w (w2.alloc (.cells #[.int .i64 0, .int .i64 0, .string ⟨#[]⟩, .string ⟨#[]⟩, .string ⟨#[]⟩] 58)) 58 g w2.heap.size w.heap.size s0 zReq zReq :=
  ⟨Blk.alloc hc2 _, Blk.new w2 _ _, hR2.alloc _, hB2.alloc hB2.size _, by omega, hB2.size, Nat.le_refl _, fun e => by have := hc2.lt; omega, by omega, fun e => by have := hR2.lt; omega⟩
 go_wp2_with fail
 refine (H1.out _ _ hS3.cut).mono ?_
 rintro e w4 ⟨rfl, hc4, hg4⟩
 have hS4 := hS3.call hc4 hg4
 generalize w2.heap.size = rb at *
 clear hS3 hc4 hg4 hc2 hR2 hB2
 have c0 : w4.cell? ⟨rb, 0, none⟩ = some (.int .i64 0) := hS4.blk.cell 0
 have f0 := hS4.blk.frozen 0
 go_wp2_with fail
 have hS5 := hS4.store 0 (.int .i64 (c : Int))
 refine (H2.out _ _ hS5.cut).mono ?_
 rintro e w5 ⟨rfl, hc5, hg5⟩
 have hS6 := hS5.call hc5 hg5
 clear hS4 hS5 hc5 hg5 c0 f0
 have c0 : w5.cell? ⟨rb, 1, none⟩ = some (.int .i64 0) := hS6.blk.cell 1
 have f0 := hS6.blk.frozen 1
 go_wp2_with fail
 have hS7 := hS6.store 1 (.int .i64 (q : Int))
 refine (H3.out _ _ hS7.cut).mono ?_
 rintro e w6 ⟨rfl, hc5, hg5⟩
 have hS8 := hS7.call hc5 hg5
 clear hS6 hS7 hc5 hg5 c0 f0
 have c0 : w6.cell? ⟨rb, 2, none⟩ = some (.string ⟨#[]⟩) := hS8.blk.cell 2
 have f0 := hS8.blk.frozen 2
 go_wp2_with fail
 have hS9 := hS8.store 2 (.string l)
 refine (H4.out _ _ hS9.cut).mono ?_
 rintro e w7 ⟨rfl, hc5, hg5⟩
 have hS10 := hS9.call hc5 hg5
 clear hS8 hS9 hc5 hg5 c0 f0
 have c0 : w7.cell? ⟨rb, 3, none⟩ = some (.string ⟨#[]⟩) := hS10.blk.cell 3
 have f0 := hS10.blk.frozen 3
 go_wp2_with fail
 have hS11 := hS10.store 3 (.string k)
 refine (H5.out _ _ hS11.cut).mono ?_
 rintro e w8 ⟨rfl, hc5, hg5⟩
 have hS12 := hS11.call hc5 hg5
 clear hS10 hS11 hc5 hg5 c0 f0
 have c0 : w8.cell? ⟨rb, 4, none⟩ = some (.string ⟨#[]⟩) := hS12.blk.cell 4
 have f0 := hS12.blk.frozen 4
 have hS13 : RS w (w8.setCell ⟨rb, 4, none⟩ (.string v)) 58 g rb w.heap.size s5 (reqV c q l k v) zReq := hS12.store 4 (.string v)
 have c1 : w8.cell? ⟨rb, 0, none⟩ = some (.int .i64 c) := hS12.blk.cell 0
 have c2 : w8.cell? ⟨rb, 1, none⟩ = some (.int .i64 q) := hS12.blk.cell 1
 have c3 : w8.cell? ⟨rb, 2, none⟩ = some (.string l) := hS12.blk.cell 2
 have c4 : w8.cell? ⟨rb, 3, none⟩ = some (.string k) := hS12.blk.cell 3
 clear hS12
 go_wp2_with fail
 refine (H6.out _).mono ?_
 rintro e w9 ⟨rfl, hB9⟩
 have hS14 := hS13.under hB9
 clear hS13 hB9 c0 c1 c2 c3 c4 f0 H0 H1 H2 H3 H4 H5
 have p0 : w9.cell? ⟨rb, 0, none⟩ = some (.int .i64 c) := hS14.blk.cell 0
 have p1 : w9.cell? ⟨rb, 1, none⟩ = some (.int .i64 q) := hS14.blk.cell 1
 have p2 : w9.cell? ⟨rb, 2, none⟩ = some (.string l) := hS14.blk.cell 2
 have p3 : w9.cell? ⟨rb, 3, none⟩ = some (.string k) := hS14.blk.cell 3
 have p4 : w9.cell? ⟨rb, 4, none⟩ = some (.string v) := hS14.blk.cell 4
 have hres := hS14.res
 have hbel := hS14.below
 have HS := Lib.hid hS14
 clear hS14
 generalize rightB (c : Int) (q : Int) l k v = RB at *
 cases RB
 · clear H6 H7
   have HV := Lib.hid (show RV = #[.agg zReq, .int .i64 2] from HOK.out)
   go_wp2_with (refine wpList_store_row rfl 58 _ _ rfl w.heap.size zReq rfl rfl 58 zReq hres (by kernel_rfl) (by kernel_rfl) (by kernel_rfl) ?_)
   refine bodyPost_ret (results_cell_tmp rfl _ _ w.heap.size 58 zReq _ rfl (blk_setRow hres _) Tryz.underlying58 rfl (by kernel_rfl)) rfl ⟨?_, below_setRow hbel (Nat.le_refl _) _⟩
   rw [HV.out]
   rfl
 · clear H6
   have HL := Lib.hid (show ∀ W, Below w9.heap.size w9 W → W.cell? ⟨rb, 0, none⟩ = some (.int .i64 c) ∧ W.cell? ⟨rb, 1, none⟩ = some (.int .i64 q) ∧ W.cell? ⟨rb, 2, none⟩ = some (.string l) ∧ W.cell? ⟨rb, 3, none⟩ = some (.string k) ∧ W.cell? ⟨rb, 4, none⟩ = some (.string v) ∧ Blk W w.heap.size 58 zReq ∧ Below w.heap.size w W from fun W hW => by
    have h := HS.out.under hW
    exact ⟨h.blk.cell 0, h.blk.cell 1, h.blk.cell 2, h.blk.cell 3, h.blk.cell 4, h.res, h.below⟩)
   obtain ⟨X, hX⟩ : ∃ X, reqB (c : Int) (q : Int) l k v = X := ⟨_, rfl⟩
   rw [hX] at HOK H7
   clear hX
   by_cases hXb : X = b
   · subst hXb
     have HV := Lib.hid (show RV = #[.agg (reqV c q l k v), .int .i64 0] by rw [HOK.out]; simp)
     go_wp2_with fail
     refine (H7.out _).mono ?_
     rintro e w10 ⟨rfl, hB10⟩
     obtain ⟨r0, r1, r2, r3, r4, hres2, hbel2⟩ := HL.out _ hB10
     clear p0 p1 p2 p3 p4 hres hbel HS HL hB10
     go_wp2_with (refine wpList_store_row rfl 58 _ _ rfl w.heap.size (reqV c q l k v) rfl rfl 58 zReq hres2 (by kernel_rfl) (by kernel_rfl) (by kernel_rfl) ?_)
     refine bodyPost_ret (results_cell_tmp rfl _ _ w.heap.size 58 (reqV c q l k v) _ rfl (blk_setRow hres2 _) Tryz.underlying58 rfl (by kernel_rfl)) rfl ⟨?_, below_setRow hbel2 (Nat.le_refl _) _⟩
     rw [HV.out]
     rfl
   · have hne : (X.toList == b.toList) = false := by
      rw [beq_eq_false_iff_ne, ByteArray.toList_eq, ByteArray.toList_eq]
      intro e
      exact hXb (by cases X; cases b; simp_all)
     have HV := Lib.hid (show RV = #[.agg zReq, .int .i64 2] by rw [HOK.out]; simp [hXb])
     clear hXb
     go_wp2_with fail
     refine (H7.out _).mono ?_
     rintro e w10 ⟨rfl, hB10⟩
     obtain ⟨r0, r1, r2, r3, r4, hres2, hbel2⟩ := HL.out _ hB10
     clear p0 p1 p2 p3 p4 hres hbel HS HL hB10
     go_wp2_with (refine wpList_store_row rfl 58 _ _ rfl w.heap.size zReq rfl rfl 58 zReq hres2 (by kernel_rfl) (by kernel_rfl) (by kernel_rfl) ?_)
     refine bodyPost_ret (results_cell_tmp rfl _ _ w.heap.size 58 zReq _ rfl (blk_setRow hres2 _) Tryz.underlying58 rfl (by kernel_rfl)) rfl ⟨?_, below_setRow hbel2 (Nat.le_refl _) _⟩
     rw [HV.out]
     rfl
end Go.Proofs.YtnbboabaihddbaaGreat
namespace Go.Proofs.YtnbboabaihddbaaGreat
open Go.RowKit

/-- what is left behind k texts; these texts -/
def restT : Nat → ByteArray → ByteArray
 | 0, s => s
 | k + 1, s => txR (restT k s)
def rdT : Nat → ByteArray → List ByteArray
 | 0, _ => []
 | k + 1, s => rdT k s ++ [txF (restT k s)]
theorem restT_size (s : ByteArray) : ∀ k, (restT k s).size ≤ s.size
 | 0 => Nat.le_refl _
 | k + 1 => Nat.le_trans (txR_size _) (restT_size s k)
theorem rdT_length (s : ByteArray) : ∀ k, (rdT k s).length = k
 | 0 => rfl
 | k + 1 => by rw [rdT, List.length_append, rdT_length s k]; rfl
theorem rdT_txts (s : ByteArray) : ∀ k, (txts (rdT k s)).size ≤ k * (4 + s.size)
 | 0 => Nat.zero_le _
 | k + 1 => by
  have h1 := rdT_txts s k
  have h2 := Nat.le_trans (txF_size (restT k s)) (restT_size s k)
  rw [rdT, txts_append, ByteArray.size_append, show txts [txF (restT k s)] = txt (txF (restT k s)) ++ ⟨#[]⟩ from rfl, append_empty, txt_size, Nat.add_mul]
  omega
/-- how many texts b says it has, and what stands behind that -/
def lsN (b : ByteArray) : Nat := nF (cutR 1 b)
def lsS (b : ByteArray) : ByteArray := cutR 4 (cutR 1 b)
def lsT (b : ByteArray) : List ByteArray := rdT (lsN b) (lsS b)
def okList (b : ByteArray) : Bool := decide (lsN b ≤ 1000) && decide (listB (lsT b) = b)
theorem lsS_size (b : ByteArray) : (lsS b).size ≤ b.size := Nat.le_trans (cutR_size _ _) (cutR_size _ _)
/-- what ReadList answers -/
def RL (b : ByteArray) (w : World) (e : Ending) (w' : World) : Prop :=
 ∃ oa n cap ss, e = .returned (.tuple #[.slice oa n cap, .int .i64 (if okList b then 0 else 2)]) ∧ ss.length = n ∧ (ss = if okList b then lsT b else []) ∧ Strs w' oa ss ∧ Below w.heap.size w w'

set_option maxRecDepth 100000 in
set_option maxHeartbeats 2000000 in
theorem readList_any (b : ByteArray) (hb : b.size ≤ 268435456) (w : World) : Calls Tryz.prog 60 #[.string b] w (RL b w) := by
 have hsS := lsS_size b
 have hc1 := cutR_size 1 b
 have H0 := Lib.hid (fun g W hW => cut_any 1 g b (by omega) W hW)
 have H1 := Lib.hid (fun g W hW => cutNumber_any' g (cutR 1 b) (by omega) W hW)
 change Hid (∀ g W, Cut W g (cutR 1 b) → Calls Tryz.prog 85 _ W fun e w' => e = .returned (.int .i64 (lsN b : Nat)) ∧ Cut w' g (lsS b) ∧ _) at H1
 have HT := Lib.hid (show lsT b = rdT (lsN b) (lsS b) from rfl)
 have HK := Lib.hid (show okList b = (decide (lsN b ≤ 1000) && decide (listB (lsT b) = b)) from rfl)
 have HRL := Lib.hid (show ∀ e w', RL b w e w' = ∃ oa n cap ss, e = .returned (.tuple #[.slice oa n cap, .int .i64 (if okList b then 0 else 2)]) ∧ ss.length = n ∧ (ss = if okList b then lsT b else []) ∧ Strs w' oa ss ∧ Below w.heap.size w w' from fun _ _ => rfl)
 generalize okList b = OK at *
 generalize lsT b = TT at *
 generalize lsN b = n at *
 generalize lsS b = s at *
 generalize RL b w = PO at *
 go_enter Tryz.func60, Tryz.ntmps60
 go_wp2_with fail
 refine (cutter_any b _).mono ?_
 rintro e w1 ⟨rfl, hcu, hB1⟩
 obtain ⟨g, hg⟩ : ∃ g, w.heap.size = g := ⟨_, rfl⟩
 rw [hg] at hcu hB1 ⊢
 have HG := Lib.hid hg
 clear hg
 go_wp2_with fail
 refine (H0.out _ _ hcu).mono ?_
 rintro e w2 ⟨rfl, hcu2, hg2⟩
 have hB2 := hB1.grown hg2 (by have := hB1.size; have := HG.out; omega) (fun j hj => by injection hj; omega)
 clear hcu hB1 hg2
 go_wp2_with fail
 refine (H1.out _ _ hcu2).mono ?_
 rintro e w3 ⟨rfl, hcu3, hg3⟩
 have hB3 := hB2.grown hg3 (by have := hB2.size; have := HG.out; omega) (fun j hj => by injection hj; omega)
 clear hcu2 hB2 hg3 H0 H1
 by_cases hn : n ≤ 1000
 · have hn' : ¬ (1000 : Int) < (n : Int) := by omega
   have HVF := Lib.hid (show OK = decide (listB TT = b) by rw [HK.out]; simp [hn])
   obtain ⟨i0, hi, hz0, hz1, hz2⟩ := info_parts strInfo
   go_wp2
   go_loopw [6, 16] (fun t i wr => ∃ k : Nat, k ≤ n ∧ i = .int .i64 k ∧ Own wr (g + 1) t (rdT k s) ∧ Cut wr g (restT k s) ∧ Below g w wr) (fun _ i _ => n - (intOf i).toNat)
   case atStart => exact ⟨0, by omega, rfl, own_nil _ _, hcu3, hB3⟩
   case round =>
    clear hcu3 hB3
    obtain ⟨k, hk, rfl, hown, hcu, hB⟩ := hrel
    have hgs : g < wr.heap.size := hcu.lt
    by_cases hlt : k < n
    · have hlt' : (k : Int) < (n : Int) := by omega
      have hrs := restT_size s k
      have HX := Lib.hid (fun W hW => cutText_any' g (restT k s) (by omega) W hW)
      have HR1 := Lib.hid (show restT (k + 1) s = txR (restT k s) from rfl)
      have HR2 := Lib.hid (show rdT (k + 1) s = rdT k s ++ [txF (restT k s)] from rfl)
      have HLN := Lib.hid (rdT_length s k)
      generalize txF (restT k s) = x at *
      rw [← HR1.out] at HX
      clear hrs HR1
      go_wp2_with fail
      refine (HX.out _ hcu).mono ?_
      rintro e w5 ⟨rfl, hcu5, hg5⟩
      have hown5 : Own w5 (g + 1) u6 (rdT k s) := World.ownsRow.kept hown hg5 (.inr (fun h => by have := (World.ownsRow.lt hown g h).1; omega))
      have hB5 := hB.grown hg5 (by have := hB.size; have := HG.out; omega) (fun j hj => by injection hj; omega)
      clear hown hcu hB hg5 hgs HX
      go_wp2_with (at_builtin; refine wpList_append_own _ rfl _ _ 86 rfl (g + 1) 9 i0 (.string ⟨#[]⟩) 1 16 Tryz.underlying86 hi hz0 hz1 hz2 rfl (by decide) _ _ _ rfl (hown5.alloc _) ⟨w5.heap.size, 0, none⟩ 1 1 [.string x] rfl rfl ?c1 ?c2 ?c3 ?c4 ?c5 ?_)
      case c1 => exact cell_one_new w5 (.string x) 9
      case c2 => intro u hu; simp at hu; subst hu; rfl
      case c3 => have := HLN.out; unfold maxLen; omega
      case c4 => have := HLN.out; omega
      case c5 => have := hcu5.lt; simp; omega
      intro v6 w6 hown6 hg6 _
      have hcu6 : Cut w6 g (restT (k + 1) s) := Blk.grown (Blk.alloc hcu5 _) hg6 (fun h => by have := (World.ownsRow.lt hown5 g h.symm).1; omega)
      have hB6 := (hB5.alloc (by have := hB5.size; have := HG.out; omega) _).grown hg6 (by have := hB5.size; have := HG.out; simp; omega) (fun j hj => by have := (World.ownsRow.lt hown5 j hj).1; omega)
      have hown7 : Own w6 (g + 1) v6 (rdT (k + 1) s) := by
       rw [HR2.out]
       unfold Own
       rw [List.length_append, List.map_append]
       exact hown6
      clear hown5 hcu5 hB5 hown6 hg6
      go_wp2
      go_roundw
      case rel => exact ⟨k + 1, by omega, by go_num, hown7, hcu6, hB6⟩
      case measure => simp [intOf]; omega
    · obtain rfl : k = n := by omega
      obtain ⟨oa, cap, hv, hst⟩ := hown.form
      rw [rdT_length] at hv
      subst hv
      have hts := rdT_txts s k
      have hmul : k * (4 + s.size) ≤ 1000 * (4 + 268435456) := Nat.mul_le_mul hn (by omega)
      have HL := Lib.hid (fun W hW => list_any oa k cap (rdT k s) (rdT_length s k) (by omega) (by omega) W hW)
      rw [← HT.out] at HL hst
      have HLN := Lib.hid (show TT.length = k by rw [HT.out]; exact rdT_length s k)
      obtain ⟨X, hX⟩ : ∃ X, listB TT = X := ⟨_, rfl⟩
      rw [hX] at HL HVF
      clear hX hlt hts hmul hown
      by_cases hXb : X = b
      · subst hXb
        have HV := Lib.hid (show OK = true by rw [HVF.out]; simp)
        go_wp2_with fail
        refine (HL.out _ hst).mono ?_
        rintro e w7 ⟨rfl, hB7⟩
        have hst7 := hst.below hB7
        have hB8 := hB.trans (hB7.mono (by have := hB.size; have := HG.out; omega))
        go_wp2
        rw [HRL.out]
        exact ⟨oa, k, cap, TT, by rw [HV.out]; rfl, HLN.out, by rw [HV.out]; rfl, hst7, by rw [HG.out]; exact hB8⟩
      · have hne : (X.toList == b.toList) = false := by
         rw [beq_eq_false_iff_ne, ByteArray.toList_eq, ByteArray.toList_eq]
         intro e
         exact hXb (by cases X; cases b; simp_all)
        have HV := Lib.hid (show OK = false by rw [HVF.out]; simp [hXb])
        clear hXb
        go_wp2_with fail
        refine (HL.out _ hst).mono ?_
        rintro e w7 ⟨rfl, hB7⟩
        have hB8 := hB.trans (hB7.mono (by have := hB.size; have := HG.out; omega))
        go_wp2
        rw [HRL.out]
        exact ⟨none, 0, 0, [], by rw [HV.out]; rfl, rfl, by rw [HV.out]; rfl, fun i hi => absurd hi (by simp), by rw [HG.out]; exact hB8⟩
 · have hn' : (1000 : Int) < (n : Int) := by omega
   have HV := Lib.hid (show OK = false by rw [HK.out]; simp [hn])
   clear hn
   go_wp2
   rw [HRL.out]
   exact ⟨none, 0, 0, [], by rw [HV.out]; rfl, rfl, by rw [HV.out]; rfl, fun i hi => absurd hi (by simp), by rw [HG.out]; exact hB3⟩
end Go.Proofs.YtnbboabaihddbaaGreat
