/-
  Entries in memory; keys parted by a bit of their paths. Paths in order: those that begin with the same bits part by their next one. The order of entries: cmp.Compare of texts, cmp.Or, order.
-/
import Derived.Test.YtakgolbgeeoioaaGreatHStepSTreeSConvSPlantSBitSRefASFitP
import Derived.Shelf.SlSorted.Search
import Derived.Shelf.SlSortCmp.InsertionK
namespace Go.Proofs.YtakgolbgeeoioaaGreat
open Go.RowKit Go.Shelf Go.Sort

/-- a path, its key and its value -/
structure Ent where
 path : ByteArray
 key : ByteArray
 val : ByteArray
instance : Inhabited Ent := ⟨⟨⟨#[]⟩, ⟨#[]⟩, ⟨#[]⟩⟩⟩
def Ent.enc (x : Ent) : List Value := [.string x.path, .string x.key, .string x.val]
/-- the entries es lie in block g, from o on -/
def EntB (w : World) (g o : Nat) (es : List Ent) : Prop := g < w.heap.size ∧ ∀ i (h : i < es.length), w.cell? ⟨g, o + i * 3, none⟩ = some (.string es[i].path) ∧ w.cell? ⟨g, o + i * 3 + 1, none⟩ = some (.string es[i].key) ∧ w.cell? ⟨g, o + i * 3 + 2, none⟩ = some (.string es[i].val)
/-- the slice at oa reads as the entries es, which lie below b -/
def Ents (w : World) (b : Nat) (oa : Option Addr) (es : List Ent) : Prop := es = [] ∨ ∃ g o, oa = some ⟨g, o, none⟩ ∧ g < b ∧ EntB w g o es
theorem EntB.below {w w' : World} {B g o : Nat} {es : List Ent} (h : EntB w g o es) (hb : Below B w w') (hg : g < B) : EntB w' g o es :=
 ⟨Nat.lt_of_lt_of_le h.1 hb.size, fun i hi => ⟨(hb.cell (p := ⟨g, o + i * 3, none⟩) hg).trans (h.2 i hi).1, (hb.cell (p := ⟨g, o + i * 3 + 1, none⟩) hg).trans (h.2 i hi).2.1, (hb.cell (p := ⟨g, o + i * 3 + 2, none⟩) hg).trans (h.2 i hi).2.2⟩⟩
theorem Ents.below {w w' : World} {b : Nat} {oa : Option Addr} {es : List Ent} (h : Ents w b oa es) (hb : Below w.heap.size w w') : Ents w' b oa es := by
 rcases h with h | ⟨g, o, h1, h3, h2⟩
 · exact .inl h
 · exact .inr ⟨g, o, h1, h3, h2.below hb h2.1⟩
theorem Ents.far {w w' : World} {b f : Nat} {oa : Option Addr} {es : List Ent} (h : Ents w b oa es) (hb : w.grownBy w' (some f)) (hf : b ≤ f) : Ents w' b oa es := by
 rcases h with h | ⟨g, o, h1, h3, h2⟩
 · exact .inl h
 · have he : ∀ k, w'.cell? ⟨g, k, none⟩ = w.cell? ⟨g, k, none⟩ := fun k => World.cell?_of_block (a := ⟨g, k, none⟩) (hb.block g h2.1 (by intro e; injection e; omega))
   exact .inr ⟨g, o, h1, h3, Nat.lt_of_lt_of_le h2.1 hb.size, fun i hi => by rw [he, he, he]; exact h2.2 i hi⟩
theorem EntB.drop {w : World} {g o : Nat} {es : List Ent} (h : EntB w g o es) (k : Nat) : EntB w g (o + k * 3) (es.drop k) := by
 refine ⟨h.1, fun i hi => ?_⟩
 rw [List.length_drop] at hi
 have := h.2 (k + i) (by omega)
 rw [List.getElem_drop, show o + k * 3 + i * 3 = o + (k + i) * 3 by omega]
 exact this
theorem EntB.take {w : World} {g o : Nat} {es : List Ent} (h : EntB w g o es) (k : Nat) : EntB w g o (es.take k) := by
 refine ⟨h.1, fun i hi => ?_⟩
 rw [List.length_take] at hi
 rw [List.getElem_take]
 exact h.2 i (by omega)
theorem quiet_draw {P : Program} {f : FuncId} {args : Array Value} {w : World} {n : Nat} {v : Value}
 (h : Calls P f args (w.drewN n) fun e w' => e = .returned v ∧ ∃ q, w' = (w.drewN n).drewN q) : Calls P f args (w.drewN n) fun e w'' => e = .returned v ∧ ∃ m, w'' = w.drewN m :=
 h.mono fun _ _ ⟨he, q, hq⟩ => ⟨he, n + q, hq.trans (World.drewN_drewN _ _ _)⟩
set_option maxRecDepth 100000 in
set_option maxHeartbeats 400000 in
theorem partf_any (bf bl c d g o n cap i : Nat) (hd : d < 256) (hi : i < n) (p : ByteArray) (hp : p.size = 32) (w : World)
 (hf : w.cell? ⟨bf, 0, none⟩ = some (.func (.func 116) #[] #[.pointer (some ⟨c, 0, none⟩)])) (hl : w.cell? ⟨bl, 0, none⟩ = some (.slice (some ⟨g, o, none⟩) n cap)) (hc : w.cell? ⟨c, 0, none⟩ = some (.int .i64 d)) (he : w.cell? ⟨g, o + i * 3, none⟩ = some (.string p)) :
 Calls Tryz.prog 115 #[.int .i64 i, .pointer (some ⟨bf, 0, none⟩), .pointer (some ⟨bl, 0, none⟩)] w fun e w' => e = .returned (.bool (bitS p d)) ∧ ∃ q, w' = w.drewN q := by
 have HB := Lib.hid (fun W h => bitf_any c d hd p hp W h)
 have hin : (i : Int) < (n : Int) := by omega
 generalize bitS p d = R at *
 go_enter Tryz.func115, Tryz.ntmps115
 go_wp2
 go_quiet ((go_at_call 116; exact quiet_draw (HB.out _ hc)))
 go_wp2
 go_ret
 exact ⟨rfl, nq, rfl⟩

def sren : Go.Shelf.Ren := ⟨fun | 16 => 114 | n => n, fun | 3 => 3 | 4 => 4 | 35 => 182 | 38 => 102 | n => n, fun | n => n⟩
theorem slays : Go.Proofs.SlLaysO.n16 Tryz.prog sren := {
 mixed := by kernel_rfl
 f16 := Tryz.func114.trans (congrArg some (by kernel_rfl))
 t3 := Tryz.underlying3, a3 := Tryz.isAgg3, z3 := Tryz.sizeOf3, v3 := Tryz.zeroValue3
 t4 := Tryz.underlying4, a4 := Tryz.isAgg4, z4 := Tryz.sizeOf4, v4 := Tryz.zeroValue4
 t35 := Tryz.underlying182, a35 := Tryz.isAgg182, z35 := Tryz.sizeOf182, v35 := Tryz.zeroValue182
 t38 := Tryz.underlying102, a38 := Tryz.isAgg102, z38 := Tryz.sizeOf102, v38 := Tryz.zeroValue102 }

/-- those of whose paths the bit is 0, and the others -/
def zer (d : Nat) (es : List Ent) : List Ent := es.filter fun x => !bitS x.path d
def one (d : Nat) (es : List Ent) : List Ent := es.filter fun x => bitS x.path d
/-- in order, the others are all behind -/
def Mon (d : Nat) (es : List Ent) : Prop := es.Pairwise fun x y => bitS x.path d = true → bitS y.path d = true
theorem mon_split {d : Nat} : ∀ {es : List Ent}, Mon d es → es.take (zer d es).length = zer d es ∧ es.drop (zer d es).length = one d es
 | [], _ => ⟨rfl, rfl⟩
 | x :: r, h => by
  obtain ⟨h1, h2⟩ := List.pairwise_cons.1 h
  by_cases hx : bitS x.path d = true
  · have ha : ∀ y ∈ r, bitS y.path d = true := fun y hy => h1 y hy hx
    have e1 : zer d (x :: r) = [] := by
     unfold zer
     rw [List.filter_eq_nil_iff]
     intro y hy
     rcases List.mem_cons.1 hy with rfl | hy
     · simp [hx]
     · simp [ha y hy]
    have e2 : one d (x :: r) = x :: r := by
     unfold one
     rw [List.filter_eq_self]
     intro y hy
     rcases List.mem_cons.1 hy with rfl | hy
     · exact hx
     · exact ha y hy
    rw [e1, e2]
    exact ⟨rfl, rfl⟩
  · have e1 : zer d (x :: r) = x :: zer d r := by unfold zer; rw [List.filter_cons]; simp [hx]
    have e2 : one d (x :: r) = one d r := by unfold one; rw [List.filter_cons]; simp [hx]
    obtain ⟨i1, i2⟩ := mon_split h2
    rw [e1, e2]
    simp [i1, i2]
theorem zer_count (d : Nat) (es : List Ent) : (List.range es.length).countP (fun i => !bitS (es[i]!).path d) = (zer d es).length := by
 unfold zer
 rw [← List.countP_eq_length_filter]
 have h : es = (List.range es.length).map fun i => es[i]! := by
  apply List.ext_getElem
  · simp
  · intro i h1 h2
    simp [h1]
 conv => rhs; rw [h]
 rw [List.countP_map]
 rfl
theorem mon_at {d : Nat} {es : List Ent} (h : Mon d es) (a b : Nat) (hab : a ≤ b) (hb : b < es.length) (ha : bitS (es[a]!).path d = true) : bitS (es[b]!).path d = true := by
 rcases Nat.lt_or_eq_of_le hab with hlt | rfl
 · have := List.pairwise_iff_getElem.1 h a b (by omega) hb hlt
   rw [getElem!_pos es b hb]
   rw [getElem!_pos es a (by omega)] at ha
   exact this ha
 · exact ha
set_option maxRecDepth 100000 in
theorem eslice_to (oa : Option Addr) (n cap k : Nat) (hk : k ≤ cap) (W : World) : (Instr.slice 134 (.slice oa n cap) none (some (.int .i64 (k : Int))) none).run Tryz.prog W = .ok (.slice oa k cap) W := by
 rw [run_slice_h W _ _ n cap Tryz.underlying134 .i64 (k : Int) (by omega) (by omega)]
 have hs : (sizeOf (Tryz.prog.elem 134)).run Tryz.prog W = .ok 3 W := by kernel_rfl
 rw [hs]
 simp only [Result.andThen_ok, sliced, Int.toNat_natCast, Nat.zero_mul, Nat.sub_zero]
 congr 2
 split
 · rfl
 · cases oa with
   | none => rfl
   | some a => simp [Addr.add]
set_option maxRecDepth 100000 in
theorem eslice_on (oa : Option Addr) (n cap k : Nat) (hk : k ≤ n) (_ : n ≤ cap) (W : World) : (Instr.slice 134 (.slice oa n cap) (some (.int .i64 (k : Int))) none none).run Tryz.prog W = .ok (.slice (if cap = k then oa else oa.map (·.add (k * 3))) (n - k) (cap - k)) W := by
 rw [run_slice_l W _ _ n cap Tryz.underlying134 .i64 (k : Int) (by omega) (by omega)]
 have hs : (sizeOf (Tryz.prog.elem 134)).run Tryz.prog W = .ok 3 W := by kernel_rfl
 rw [hs]
 simp only [Result.andThen_ok, sliced, Int.toNat_natCast]
/-- what part answers -/
def RPs (b d : Nat) (es : List Ent) (w : World) (e : Ending) (w' : World) : Prop :=
 ∃ o1 c1 o2 c2, e = .returned (.tuple #[.slice o1 (zer d es).length c1, .slice o2 (one d es).length c2]) ∧ Ents w' b o1 (zer d es) ∧ Ents w' b o2 (one d es) ∧ (zer d es).length ≤ c1 ∧ (one d es).length ≤ c2 ∧ Below w.heap.size w w'
set_option maxRecDepth 100000 in
set_option maxHeartbeats 1000000 in
theorem part_any {b : Nat} (d c : Nat) (hd : d < 256) (oa : Option Addr) (cap n : Nat) (es : List Ent) (hn : es.length = n) (hsz : n ≤ 1000000) (hcap : n ≤ cap) (hp : ∀ x ∈ es, x.path.size = 32) (hm : Mon d es) (w : World) (hE : Ents w b oa es) (hc : w.cell? ⟨c, 0, none⟩ = some (.int .i64 d)) :
 Calls Tryz.prog 101 #[.slice oa n cap, .func (.func 116) #[] #[.pointer (some ⟨c, 0, none⟩)]] w (RPs b d es w) := by
 obtain ⟨W0, hW0⟩ : ∃ W0, W0 = (w.alloc (.cells #[.slice oa n cap] 134)).alloc (.cells #[.func (.func 116) #[] #[.pointer (some ⟨c, 0, none⟩)]] 166) := ⟨_, rfl⟩
 have hsize : W0.heap.size = w.heap.size + 1 + 1 := by rw [hW0]; simp
 have hB0 : Below w.heap.size w W0 := by rw [hW0]; exact ((Below.refl _ w).alloc (Nat.le_refl _) _).alloc (by simp) _
 have cl : W0.cell? ⟨w.heap.size, 0, none⟩ = some (.slice oa n cap) := by rw [hW0]; exact cell_alloc_sl _ (cell_new_sl w _ _)
 have cf : W0.cell? ⟨w.heap.size + 1, 0, none⟩ = some (.func (.func 116) #[] #[.pointer (some ⟨c, 0, none⟩)]) := by rw [hW0]; have := cell_new_sl (w.alloc (.cells #[.slice oa n cap] 134)) (.func (.func 116) #[] #[.pointer (some ⟨c, 0, none⟩)]) 166; rwa [World.size_alloc] at this
 have cc : W0.cell? ⟨c, 0, none⟩ = some (.int .i64 d) := by rw [hW0]; exact cell_alloc_sl _ (cell_alloc_sl _ hc)
 have hcl := block_lt_of_cell cc
 have eg : ∀ args w, (callFunc 115 args).run Tryz.prog w = .ok (.enter 115 args) w := enters_of Tryz.func115 (by kernel_rfl) rfl
 have hS := Any.sort_Search slays 115 #[.pointer (some ⟨w.heap.size + 1, 0, none⟩), .pointer (some ⟨w.heap.size, 0, none⟩)] n (fun i => bitS (es[i]!).path d) W0 eg (by omega)
  (fun m os i hi => by
   rcases hE with rfl | ⟨g, o, rfl, _, hg⟩
   · rw [← hn] at hi; exact absurd hi (Nat.not_lt_zero _)
   · have hil : i < es.length := by omega
     have hce := (hg.2 i hil).1
     have hce0 : W0.cell? ⟨g, o + i * 3, none⟩ = some (.string es[i].path) := by rw [hW0]; exact cell_alloc_sl _ (cell_alloc_sl _ hce)
     have := partf_any (w.heap.size + 1) w.heap.size c d g o n cap i hd hi es[i].path (hp _ (List.getElem_mem hil)) (grow (W0.drewN m) os) (cell_grown (by show w.heap.size + 1 < W0.heap.size; omega) cf m os) (cell_grown (by show w.heap.size < W0.heap.size; omega) cl m os) (cell_grown hcl cc m os) (cell_grown (block_lt_of_cell hce0) hce0 m os)
     rw [getElem!_pos es i hil]
     exact this.mono fun _ _ ⟨he, q, hq⟩ => ⟨he, q, #[], by rw [hq, grow_empty]⟩)
  (fun a b hab hb h => mon_at hm a b hab (by omega) h)
 rw [← hn, zer_count d es, hn] at hS
 change Calls Tryz.prog 114 _ _ _ at hS
 obtain ⟨t1, t2⟩ := mon_split hm
 have hlen : (zer d es).length + (one d es).length = n := by
  have := congrArg List.length t2
  have h3 : (zer d es).length ≤ es.length := List.length_filter_le _ _
  rw [List.length_drop] at this
  omega
 have hs1 := eslice_to oa n cap (zer d es).length (by omega)
 have hs2 := eslice_on oa n cap (zer d es).length (by omega) hcap
 have HE := Lib.hid hE
 have HT := Lib.hid (And.intro t1 t2)
 have HL := Lib.hid hlen
 have HB0 := Lib.hid hB0
 have HZ := Lib.hid hsize
 have CL := Lib.hid cl
 have HS := Lib.hid hS
 unfold RPs
 generalize zer d es = zs at *
 generalize one d es = os at *
 generalize zs.length = k at *
 clear hE t1 t2 hlen hB0 hsize cl cf cc hS hp hm hc eg hn
 obtain ⟨ob, hob⟩ : ∃ ob, (if cap = k then oa else oa.map (·.add (k * 3))) = ob := ⟨_, rfl⟩
 rw [hob] at hs2
 have HOB := Lib.hid hob
 clear hob
 go_enter Tryz.func101, Tryz.ntmps101
 go_wp2_with fail
 rw [← hW0]
 refine HS.out.mono ?_
 rintro e w2 ⟨rfl, q, os1, hw2⟩
 have hB2 : Below W0.heap.size W0 w2 := by rw [hw2]; exact below_grown_sl _ _ _ _ (Nat.le_refl _)
 have hB3 := HB0.out.trans (hB2.mono HB0.out.size)
 have cl2 : w2.cell? ⟨w.heap.size, 0, none⟩ = some (.slice oa n cap) := (hB2.cell (p := ⟨w.heap.size, 0, none⟩) (by show w.heap.size < W0.heap.size; have := HZ.out; omega)).trans CL.out
 have HB3 := Lib.hid hB3
 clear hw2 hB2 hB3 HS
 go_wp2
 go_quiet (fail)
 go_wp2
 (try simp only [Exit.inBlock, Exit.then]); refine bodyPost_ret (results_tmp2 rfl _ _ _) rfl ?_
 have hE3 := (HE.out.below HB3.out).below (w' := w2.drewN nq) (below_drewN (Below.refl _ _) nq)
 have hl := HL.out
 obtain ⟨t1, t2⟩ := HT.out
 refine ⟨oa, cap, ob, cap - k, by rw [show n - k = os.length by omega]; rfl, ?_, ?_, by omega, by omega, below_drewN HB3.out nq⟩
 · rcases hE3 with rfl | ⟨g, o, h1, h3, h2⟩
   · left; rw [← t1]; simp
   · right; exact ⟨g, o, h1, h3, t1 ▸ h2.take k⟩
 · rcases hE3 with rfl | ⟨g, o, h1, h3, h2⟩
   · left; rw [← t2]; simp
   · by_cases hck : cap = k
     · left
       rw [← t2, List.drop_eq_nil_iff]
       have := congrArg List.length t2
       rw [List.length_drop] at this
       omega
     · right
       refine ⟨g, o + k * 3, ?_, h3, t2 ▸ h2.drop k⟩
       rw [← HOB.out, if_neg hck, h1]
       simp [addr_add]
end Go.Proofs.YtakgolbgeeoioaaGreat
namespace Go.Proofs.YtakgolbgeeoioaaGreat

/-- the order by bytes -/
def lexLe : List Nat → List Nat → Prop
 | [], _ => True
 | _ :: _, [] => False
 | a :: r, b :: s => a < b ∨ (a = b ∧ lexLe r s)
theorem lexLe_at : ∀ (m : Nat) {l s : List Nat}, lexLe l s → (∀ t, t < m → l.getD t 0 = s.getD t 0) → m < l.length → m < s.length → l.getD m 0 ≤ s.getD m 0
 | _, [], _, _, _, h, _ => absurd h (Nat.not_lt_zero _)
 | _, _ :: _, [], h, _, _, _ => h.elim
 | 0, a :: r, b :: s, h, _, _, _ => by
  rcases h with h | ⟨h, _⟩
  · exact Nat.le_of_lt h
  · exact Nat.le_of_eq h
 | m + 1, a :: r, b :: s, h, he, h1, h2 => by
  have h0 : a = b := he 0 (Nat.succ_pos _)
  rcases h with h | ⟨_, h⟩
  · omega
  · exact lexLe_at m h (fun t ht => he (t + 1) (Nat.succ_lt_succ ht)) (Nat.lt_of_succ_lt_succ h1) (Nat.lt_of_succ_lt_succ h2)
theorem top_same (x y : Nat) (hx : x < 256) (hy : y < 256) : ∀ t, t ≤ 8 → (∀ j, j < t → (x / 2 ^ (7 - j) % 2 == 1) = (y / 2 ^ (7 - j) % 2 == 1)) → x / 2 ^ (8 - t) = y / 2 ^ (8 - t)
 | 0, _, _ => by
  rw [Nat.div_eq_of_lt (by simpa using hx), Nat.div_eq_of_lt (by simpa using hy)]
 | t + 1, ht, h => by
  have ih := top_same x y hx hy t (by omega) fun j hj => h j (by omega)
  have hb := h t (by omega)
  rw [show 8 - (t + 1) = 7 - t by omega]
  rw [show 8 - t = (7 - t) + 1 by omega, Nat.pow_succ, ← Nat.div_div_eq_div_mul, ← Nat.div_div_eq_div_mul] at ih
  generalize x / 2 ^ (7 - t) = a at *
  generalize y / 2 ^ (7 - t) = b at *
  have e1 : a % 2 = 0 ∨ a % 2 = 1 := by omega
  have e2 : b % 2 = 0 ∨ b % 2 = 1 := by omega
  rcases e1 with e1 | e1 <;> rcases e2 with e2 | e2 <;> simp [e1, e2] at hb <;> omega
theorem bit_mono (x y : ByteArray) (hx : x.size = 32) (hy : y.size = 32) (hl : lexLe (nums x) (nums y)) (d : Nat) (hd : d < 256) (hs : ∀ j, j < d → bitS x j = bitS y j) (hb : bitS x d = true) : bitS y d = true := by
 have lx : ∀ t, (nums x).getD t 0 < 256 := by
  intro t
  by_cases ht : t < (nums x).length
  · rw [List.getD_eq_getElem?_getD, List.getElem?_eq_getElem ht]; exact nums_lt x _ (List.getElem_mem ht)
  · rw [List.getD_eq_getElem?_getD, List.getElem?_eq_none (by omega)]; decide
 have ly : ∀ t, (nums y).getD t 0 < 256 := by
  intro t
  by_cases ht : t < (nums y).length
  · rw [List.getD_eq_getElem?_getD, List.getElem?_eq_getElem ht]; exact nums_lt y _ (List.getElem_mem ht)
  · rw [List.getD_eq_getElem?_getD, List.getElem?_eq_none (by omega)]; decide
 have hbyte : ∀ t, t < d / 8 → (nums x).getD t 0 = (nums y).getD t 0 := by
  intro t ht
  have := top_same _ _ (lx t) (ly t) 8 (Nat.le_refl _) fun j hj => by
   have := hs (8 * t + j) (by omega)
   unfold bitS at this
   rwa [show (8 * t + j) / 8 = t by omega, show (8 * t + j) % 8 = j by omega] at this
  simpa using this
 have hle := lexLe_at (d / 8) hl hbyte (by rw [nums_length]; omega) (by rw [nums_length]; omega)
 have htop := top_same _ _ (lx (d / 8)) (ly (d / 8)) (d % 8) (by omega) fun j hj => by
  have := hs (8 * (d / 8) + j) (by omega)
  unfold bitS at this
  rwa [show (8 * (d / 8) + j) / 8 = d / 8 by omega, show (8 * (d / 8) + j) % 8 = j by omega] at this
 unfold bitS at hb ⊢
 rw [show 8 - d % 8 = (7 - d % 8) + 1 by omega, Nat.pow_succ, ← Nat.div_div_eq_div_mul, ← Nat.div_div_eq_div_mul] at htop
 have hdv := Nat.div_le_div_right (c := 2 ^ (7 - d % 8)) hle
 generalize (nums x).getD (d / 8) 0 / 2 ^ (7 - d % 8) = a at *
 generalize (nums y).getD (d / 8) 0 / 2 ^ (7 - d % 8) = b at *
 simp only [beq_iff_eq] at hb ⊢
 omega
/-- entries in order, whose paths are the same up to d -/
structure Good (d : Nat) (es : List Ent) : Prop where
 size : ∀ x ∈ es, x.path.size = 32
 sort : es.Pairwise fun x y => lexLe (nums x.path) (nums y.path)
 same : ∀ x ∈ es, ∀ y ∈ es, ∀ j, j < d → bitS x.path j = bitS y.path j
theorem Good.mon {d : Nat} {es : List Ent} (h : Good d es) (hd : d < 256) : Mon d es := by
 refine List.Pairwise.imp_of_mem (fun {x y} hx hy hl hb => ?_) h.sort
 exact bit_mono x.path y.path (h.size x hx) (h.size y hy) hl d hd (h.same x hx y hy) hb
theorem Good.filter {d : Nat} {es : List Ent} (h : Good d es) (f : Ent → Bool) (b : Bool) (hf : ∀ x, f x = true → bitS x.path d = b) : Good (d + 1) (es.filter f) := by
 refine ⟨fun x hx => h.size x (List.mem_filter.1 hx).1, List.Pairwise.filter f h.sort, fun x hx y hy j hj => ?_⟩
 obtain ⟨hx1, hx2⟩ := List.mem_filter.1 hx
 obtain ⟨hy1, hy2⟩ := List.mem_filter.1 hy
 rcases Nat.lt_or_eq_of_le (Nat.le_of_lt_succ hj) with hj | rfl
 · exact h.same x hx1 y hy1 j hj
 · rw [hf x hx2, hf y hy2]
theorem Good.zer {d : Nat} {es : List Ent} (h : Good d es) : Good (d + 1) (zer d es) := h.filter _ false fun x hx => by simpa using hx
theorem Good.one {d : Nat} {es : List Ent} (h : Good d es) : Good (d + 1) (one d es) := h.filter _ true fun _ hx => hx
theorem Good.nil (d : Nat) : Good d [] := ⟨fun _ h => (by cases h), List.Pairwise.nil, fun _ h => (by cases h)⟩
end Go.Proofs.YtakgolbgeeoioaaGreat
namespace Go.Proofs.YtakgolbgeeoioaaGreat
open Go.RowKit Go.Shelf Go.Sort

/-- draws, and blocks behind -/
def GR (w w' : World) : Prop := ∃ q os, w' = grow (w.drewN q) os
theorem GR.refl (w : World) : GR w w := ⟨0, #[], by rw [grow_empty]; rfl⟩
theorem GR.alloc {w w' : World} (h : GR w w') (o : Obj) : GR w (w'.alloc o) := by
 obtain ⟨q, os, rfl⟩ := h
 exact ⟨q, os ++ #[o], by rw [alloc_eq_grow, grow_grow]⟩
theorem GR.drew {w w' : World} (h : GR w w') : GR w w'.drew := by
 obtain ⟨q, os, rfl⟩ := h
 exact ⟨q + 1, os, rfl⟩
theorem GR.cell {w w' : World} {a : Addr} {v : Value} (h : GR w w') (hc : w.cell? a = some v) : w'.cell? a = some v := by
 obtain ⟨q, os, rfl⟩ := h
 exact cell_grown (block_lt_of_cell hc) hc q os
/-- -1, 0 or 1 -/
def cmpS (x y : ByteArray) : Int := if Op.bytesLess x.toList y.toList then -1 else if Op.bytesLess x.toList y.toList || x.toList == y.toList then 0 else 1
set_option maxRecDepth 100000 in
theorem isNaN_any (x : ByteArray) (w : World) : Calls Tryz.prog 131 #[.string x] w fun e w' => e = .returned (.bool false) ∧ w = w' := by
 go_enter Tryz.func131, Tryz.ntmps131
 go_wp2
 go_ret
 exact ⟨boolEq (by simp), rfl⟩
set_option maxRecDepth 100000 in
set_option maxHeartbeats 1000000 in
theorem compare_any (x y : ByteArray) (w : World) : Calls Tryz.prog 119 #[.string x, .string y] w fun e w' => e = .returned (.int .i64 (cmpS x y)) ∧ w = w' := by
 have H1 := Lib.hid (isNaN_any x)
 have H2 := Lib.hid (isNaN_any y)
 unfold cmpS
 cases h1 : Op.bytesLess x.toList y.toList
 · cases h2 : (x.toList == y.toList)
   · go_enter Tryz.func119, Tryz.ntmps119
     go_wp2_with fail
     refine (H1.out _).mono ?_
     rintro e w' ⟨rfl, rfl⟩
     go_wp2_with fail
     refine (H2.out _).mono ?_
     rintro e w' ⟨rfl, rfl⟩
     go_wp2
     go_ret
     exact ⟨rfl, rfl⟩
   · go_enter Tryz.func119, Tryz.ntmps119
     go_wp2_with fail
     refine (H1.out _).mono ?_
     rintro e w' ⟨rfl, rfl⟩
     go_wp2_with fail
     refine (H2.out _).mono ?_
     rintro e w' ⟨rfl, rfl⟩
     go_wp2
     go_ret
     exact ⟨rfl, rfl⟩
 · go_enter Tryz.func119, Tryz.ntmps119
   go_wp2_with fail
   refine (H1.out _).mono ?_
   rintro e w' ⟨rfl, rfl⟩
   go_wp2_with fail
   refine (H2.out _).mono ?_
   rintro e w' ⟨rfl, rfl⟩
   go_wp2
   go_ret
   exact ⟨rfl, rfl⟩
/-- the first that is not 0 -/
def orI (a b : Int) : Int := if a = 0 then b else a
set_option maxRecDepth 100000 in
set_option maxHeartbeats 1000000 in
theorem or_any (g : Nat) (a b : Int) (w : World) (ha : w.cell? ⟨g, 0, none⟩ = some (.int .i64 a)) (hb : w.cell? ⟨g, 1, none⟩ = some (.int .i64 b)) :
 Calls Tryz.prog 118 #[.slice (some ⟨g, 0, none⟩) 2 2] w fun e w' => e = .returned (.int .i64 (orI a b)) ∧ w = w' := by
 unfold orI
 by_cases h1 : a = 0
 · subst h1
   by_cases h2 : b = 0
   · subst h2
     go_enter Tryz.func118, Tryz.ntmps118
     go_wp2
     refine wp_loop_rounds 3 ?_
     rw [rounds_succ]
     go_wp2
     rw [rounds_succ]
     go_wp2
     rw [rounds_succ]
     go_wp2
     go_ret
     exact ⟨rfl, rfl⟩
   · have h2' : (b == 0) = false := by rw [beq_eq_false_iff_ne]; exact h2
     have h3' : (b != 0) = true := by simp [h2]
     go_enter Tryz.func118, Tryz.ntmps118
     go_wp2
     refine wp_loop_rounds 2 ?_
     rw [rounds_succ]
     go_wp2
     rw [rounds_succ]
     go_wp2
     go_ret
     exact ⟨rfl, rfl⟩
 · have h2' : (a == 0) = false := by rw [beq_eq_false_iff_ne]; exact h1
   have h3' : (a != 0) = true := by simp [h1]
   rw [if_neg h1]
   go_enter Tryz.func118, Tryz.ntmps118
   go_wp2
   refine wp_loop_rounds 1 ?_
   rw [rounds_succ]
   go_wp2
   go_ret
   exact ⟨rfl, rfl⟩
end Go.Proofs.YtakgolbgeeoioaaGreat
