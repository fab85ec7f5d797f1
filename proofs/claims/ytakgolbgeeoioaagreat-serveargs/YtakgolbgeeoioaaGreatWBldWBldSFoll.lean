/-
  A strings.Builder at this program: what WriteString and String do. Entries that go a path's way, and the others.
-/
import Derived.Shelf.Strings.BuilderK
import Derived.Test.YtakgolbgeeoioaaGreatBase
import Derived.Test.YtakgolbgeeoioaaGreatSRootSNilRSOrd2SMap
namespace Go.Proofs.YtakgolbgeeoioaaGreat
open Go.Shelf Go.RowKit

def bren : Go.Shelf.Ren := ⟨fun | 169 => 88 | n => n, fun | 70 => 140 | 9 => 9 | 0 => 0 | 72 => 142 | 37 => 119 | 127 => 170 | 3 => 3 | 5 => 5 | n => n, fun | n => n⟩
theorem blays : Go.Proofs.Lays.n169 Tryz.prog bren := {
 mixed := by kernel_rfl
 f169 := Tryz.func88.trans (congrArg some (by kernel_rfl))
 t0 := Tryz.underlying0, a0 := Tryz.isAgg0, z0 := Tryz.sizeOf0, v0 := Tryz.zeroValue0
 t3 := Tryz.underlying3, a3 := Tryz.isAgg3, z3 := Tryz.sizeOf3, v3 := Tryz.zeroValue3
 t9 := Tryz.underlying9, a9 := Tryz.isAgg9, z9 := Tryz.sizeOf9, v9 := Tryz.zeroValue9
 t37 := Tryz.underlying119, a37 := Tryz.isAgg119, z37 := Tryz.sizeOf119, v37 := Tryz.zeroValue119
 t70 := Tryz.underlying140, a70 := Tryz.isAgg140, z70 := Tryz.sizeOf140, v70 := Tryz.zeroValue140
 t72 := Tryz.underlying142, a72 := Tryz.isAgg142, z72 := Tryz.sizeOf142, v72 := Tryz.zeroValue142
 t127 := Tryz.underlying170, a127 := Tryz.isAgg170, z127 := Tryz.sizeOf170, v127 := Tryz.zeroValue170 }
theorem bextra : Builder.Extra Tryz.prog bren := {
 sizeBuilder := by kernel_rfl
 liesBuilder := by kernel_rfl
 t5 := Tryz.underlying5, a5 := Tryz.isAgg5, z5 := Tryz.sizeOf5, v5 := Tryz.zeroValue5
 infoByte := by kernel_rfl
 cellsByte := by kernel_rfl
 sizeByte := by kernel_rfl
 neB5 := by decide }

/-- a builder in block b, from B on, that holds the bytes l -/
def Bld (w : World) (B b : Nat) (l : List UInt8) : Prop := Lib.IsBuilderF 142 5 B b (Lib.byteCells l) w
theorem bld_string (B b : Nat) (l : List UInt8) (w : World) (h : Bld w B b l) (hBw : B ≤ w.heap.size) :
 Calls Tryz.prog 88 #[.pointer (some ⟨b, 0, none⟩)] w fun e w' => e = .returned (.string ⟨l.toArray⟩) ∧ Below B w w' :=
 (Any.Builder_String_any_k blays bextra B b l w h hBw).mono fun _ _ h => ⟨h.1, h.2.2.1⟩

set_option maxRecDepth 100000 in
theorem check_fresh (b : Nat) (w : World) (h0 : w.cell? ⟨b, 0, none⟩ = some (.pointer none)) (hsh : w.shape? b = some (142, 2)) (hfz : w.frozen? ⟨b, 0, none⟩ = false) :
 Calls Tryz.prog 105 #[.pointer (some ⟨b, 0, none⟩)] w fun e w' => e = .returned (.tuple #[]) ∧ w.setCell ⟨b, 0, none⟩ (.pointer (some ⟨b, 0, none⟩)) = w' := by
 obtain ⟨j, hj, hjs⟩ := Option.map_eq_some_iff.1 bextra.sizeBuilder
 go_enter Tryz.func105, Tryz.ntmps105
 go_wp2
 rw [Lib.run_to_unsafe w ⟨b, 0, none⟩ Tryz.underlying140 Tryz.underlying186 hj (by rw [hjs]; decide) hsh (Nat.zero_lt_succ 1)]
 simp only [Result.andThen]
 rw [Oper.upon_value]
 go_wp2
 rw [run_callFunc_extern Tryz.func120 (by kernel_rfl) (by kernel_rfl) (by kernel_rfl) (e := Extern.AbiNoEscape.same) (by kernel_rfl)]
 rw [Lib.run_noEscape]
 simp only [Result.andThen]
 rw [Oper.upon_value]
 go_wp2
 rw [Lib.run_from_unsafe w ⟨b, 0, none⟩ Tryz.underlying186 Tryz.underlying140 hj hsh bextra.liesBuilder]
 simp only [Result.andThen]
 rw [Oper.upon_value]
 go_wp2
 go_end0
 exact ⟨rfl, rfl⟩
set_option maxRecDepth 100000 in
theorem check_used (b : Nat) (w : World) (h0 : w.cell? ⟨b, 0, none⟩ = some (.pointer (some ⟨b, 0, none⟩))) :
 Calls Tryz.prog 105 #[.pointer (some ⟨b, 0, none⟩)] w fun e w' => e = .returned (.tuple #[]) ∧ w = w' := by
 obtain ⟨j, hj, _⟩ := Option.map_eq_some_iff.1 bextra.sizeBuilder
 have hne := Lib.run_neq_ptr_same w ⟨b, 0, none⟩ Tryz.underlying140 hj
 go_enter Tryz.func105, Tryz.ntmps105
 go_wp2
 go_end0
 exact ⟨rfl, rfl⟩
theorem check_any (B b : Nat) (l : List UInt8) (w : World) (h : Bld w B b l) :
 Calls Tryz.prog 105 #[.pointer (some ⟨b, 0, none⟩)] w fun e w' => e = .returned (.tuple #[]) ∧
  Lib.BuilderAtF 142 5 B b (.pointer (some ⟨b, 0, none⟩)) (Lib.byteCells l) w' ∧ Below B w w' := by
 rcases h with h | h
 · exact (check_fresh b w h.cell0 h.shape h.frozen0).mono fun e w' ⟨he, hw⟩ => by subst hw; exact ⟨he, h.used _, (Below.refl B w).setCell (p := ⟨b, 0, none⟩) h.1 _⟩
 · exact (check_used b w h.cell0).mono fun e w' ⟨he, hw⟩ => by subst hw; exact ⟨he, h, Below.refl B _⟩

set_option maxRecDepth 100000 in
set_option maxHeartbeats 1000000 in
theorem bld_write (B b : Nat) (l : List UInt8) (s : ByteArray) (w : World) (h : Bld w B b l) (hlen : l.length + s.size ≤ 70368744177664) (hBw : B ≤ w.heap.size) :
 Calls Tryz.prog 86 #[.pointer (some ⟨b, 0, none⟩), .string s] w fun e w' => e = .returned (.tuple #[.int .i64 s.size, .nilIface]) ∧ Bld w' B b (l ++ s.data.toList) ∧ Below B w w' := by
 obtain ⟨i0, hi, hz0, hz1, hz2⟩ := info_parts bextra.infoByte
 have hbl : (Lib.byteCells l).length = l.length := Lib.byteCells_length l
 have HBL := Lib.hid hbl
 clear hbl
 go_enter Tryz.func86, Tryz.ntmps86
 go_wp2_with fail
 refine (check_any B b l _ h).mono ?_
 rintro e w1 ⟨rfl, h1, hb1⟩
 obtain ⟨hB, v, hbk, hown, hne⟩ := h1
 have k0 : w1.cell? ⟨b, 0, none⟩ = some (.pointer (some ⟨b, 0, none⟩)) := by rw [Lib.cell_of_heap hbk]; rfl
 have k1 : w1.cell? ⟨b, 1, none⟩ = some v := by rw [Lib.cell_of_heap hbk]; rfl
 go_wp2_with (at_builtin; refine Lib.wpList_append_own_stringF _ rfl _ _ 119 9 rfl B 5 i0 Tryz.underlying119 Tryz.underlying9 hi hz0 hz1 hz2 _ _ _ rfl hown s rfl ?s1 ?s2 ?s3 ?_)
 case s1 => have := HBL.out; unfold maxLen; omega
 case s2 => have := HBL.out; omega
 case s3 => have := hb1.size; omega
 intro v2 w2 hown2 hgr _
 have hlt : b < w1.heap.size := (show Blk w1 b 142 _ from hbk).lt
 have hbk2 : w2.heap[b]? = some (.cells #[.pointer (some ⟨b, 0, none⟩), v] 142 (0, 0)) := (hgr.block b hlt (fun e => hne e.symm)).trans hbk
 have m0 : w2.cell? ⟨b, 0, none⟩ = some (.pointer (some ⟨b, 0, none⟩)) := by rw [Lib.cell_of_heap hbk2]; rfl
 have m1 : w2.cell? ⟨b, 1, none⟩ = some v := by rw [Lib.cell_of_heap hbk2]; rfl
 have mf : w2.frozen? ⟨b, 1, none⟩ = false := Lib.frozen_of_heap hbk2 1
 obtain ⟨ao, n2, cap, rfl⟩ : ∃ ao n2 cap, v2 = .slice ao n2 cap := by
  rcases hown2.2 with ⟨hv, _⟩ | ⟨g, cap, cur, fz, hv, _⟩
  · exact ⟨_, _, _, hv⟩
  · exact ⟨_, _, _, hv⟩
 go_wp2
 go_ret2
 refine ⟨rfl, .inr ?_, ?_⟩
 · rw [Lib.byteCells_append, ← Lib.strCells_eq]
   exact Lib.BuilderAtF.put hB hbk2 (by simpa [Lib.strCells_length] using hown2) (by decide)
 · exact (hb1.grown hgr (by have := hb1.size; omega) (fun k hk => (hown.lt k hk).1)).setCell (p := ⟨b, 1, none⟩) hB _
theorem bld_new (w : World) : Bld (w.alloc (.cells #[.pointer none, .slice none 0 0] 142)) w.heap.size w.heap.size [] := by
 refine .inl ⟨Nat.le_refl _, .slice none 0 0, heap_alloc_new w _, ⟨rfl, .inl ⟨rfl, rfl⟩⟩, by simp [Value.ownBlock]⟩
end Go.Proofs.YtakgolbgeeoioaaGreat
namespace Go.Proofs.YtakgolbgeeoioaaGreat
open Go.RowKit

/-- those that go the path's way at its bit d, and those that go the other one -/
def alg (d : Nat) (p : ByteArray) (es : List Ent) : List Ent := if bitS p d then one d es else zer d es
def oth (d : Nat) (p : ByteArray) (es : List Ent) : List Ent := if bitS p d then zer d es else one d es
theorem Good.alg {d : Nat} {es : List Ent} (h : Good d es) (p : ByteArray) : Good (d + 1) (alg d p es) := by
 unfold Go.Proofs.YtakgolbgeeoioaaGreat.alg
 split
 · exact h.one
 · exact h.zer
theorem Good.oth {d : Nat} {es : List Ent} (h : Good d es) (p : ByteArray) : Good (d + 1) (oth d p es) := by
 unfold Go.Proofs.YtakgolbgeeoioaaGreat.oth
 split
 · exact h.zer
 · exact h.one
theorem Fit.alg {d : Nat} {es : List Ent} (h : Fit es) (p : ByteArray) : Fit (alg d p es) := by
 unfold Go.Proofs.YtakgolbgeeoioaaGreat.alg
 split <;> exact h.filter _
theorem Fit.oth {d : Nat} {es : List Ent} (h : Fit es) (p : ByteArray) : Fit (oth d p es) := by
 unfold Go.Proofs.YtakgolbgeeoioaaGreat.oth
 split <;> exact h.filter _
theorem alg_len (d : Nat) (p : ByteArray) (es : List Ent) : (alg d p es).length ≤ es.length := by
 unfold alg
 split <;> exact List.length_filter_le _ _
theorem oth_len (d : Nat) (p : ByteArray) (es : List Ent) : (oth d p es).length ≤ es.length := by
 unfold oth
 split <;> exact List.length_filter_le _ _
/-- what follow answers -/
def RF (b d : Nat) (p : ByteArray) (es : List Ent) (w : World) (e : Ending) (w' : World) : Prop :=
 ∃ o1 c1 o2 c2, e = .returned (.tuple #[.slice o1 (alg d p es).length c1, .slice o2 (oth d p es).length c2]) ∧ Ents w' b o1 (alg d p es) ∧ Ents w' b o2 (oth d p es) ∧ (alg d p es).length ≤ c1 ∧ (oth d p es).length ≤ c2 ∧ Below w.heap.size w w'
set_option maxRecDepth 100000 in
set_option maxHeartbeats 1000000 in
theorem follow_any {b : Nat} (d : Nat) (hd : d < 256) (p : ByteArray) (hps : p.size = 32) (oa : Option Addr) (cap n : Nat) (es : List Ent) (hn : es.length = n) (hsz : n ≤ 1000000) (hcap : n ≤ cap) (hG : Good d es) (w : World) (hE : Ents w b oa es) :
 Calls Tryz.prog 106 #[.slice oa n cap, .string p, .int .i64 d] w (RF b d p es w) := by
 have HP := Lib.hid (fun W c hE' hc => part_any (b := b) d c hd oa cap n es hn hsz hcap hG.size (hG.mon hd) W hE' hc)
 have HF := Lib.hid (fun c W hc => bitf_any c d hd p hps W hc)
 have HE := Lib.hid hE
 unfold RPs at HP
 unfold RF alg oth
 generalize bitS p d = bb at *
 generalize zer d es = zs at *
 generalize one d es = os at *
 have hB0 := (Below.refl _ w).alloc (Nat.le_refl _) (.cells #[.int .i64 d] 3)
 have hcd := (Blk.new w 3 #[.int .i64 d]).cell 0
 clear hE hG hn hps
 go_enter Tryz.func106, Tryz.ntmps106
 go_wp2_with fail
 refine (bitAt_any d _).mono ?_
 rintro e w1 ⟨rfl, rfl⟩
 go_wp2_with fail
 refine (HP.out _ _ (HE.out.below hB0) hcd).mono ?_
 rintro e w2 ⟨o1, c1, o2, c2, rfl, hz, ho, hc1, hc2, hB2⟩
 have hB2' := hB0.trans (hB2.mono hB0.size)
 clear hB0 hB2 HP hcd HE
 go_wp2_with fail
 refine (bitAt_any d _).mono ?_
 rintro e w3 ⟨rfl, hw3⟩
 have hcd : w3.cell? ⟨w2.heap.size, 0, none⟩ = some (.int .i64 d) := by rw [← hw3]; exact (Blk.new w2 3 #[.int .i64 d]).cell 0
 have hB3 : Below w2.heap.size w2 w3 := by rw [← hw3]; exact (Below.refl _ w2).alloc (Nat.le_refl _) _
 have hz3 := hz.below hB3
 have ho3 := ho.below hB3
 have hB3' := hB2'.trans (hB3.mono hB2'.size)
 clear hw3 hz ho hB2' hB3
 go_wp2_with fail
 refine (HF.out _ _ hcd).mono ?_
 rintro e w4 ⟨rfl, q, rfl⟩
 have hB4 : Below w3.heap.size w3 (w3.drewN q) := below_drewN (Below.refl _ _) q
 have hz4 := hz3.below hB4
 have ho4 := ho3.below hB4
 have hB4' := hB3'.trans (hB4.mono hB3'.size)
 clear hz3 ho3 hB3' hB4 hcd HF
 cases bb
 · go_wp2
   go_ret2
   exact ⟨o1, c1, o2, c2, rfl, hz4, ho4, hc1, hc2, hB4'⟩
 · go_wp2
   go_ret2
   exact ⟨o2, c2, o1, c1, rfl, ho4, hz4, hc2, hc1, hB4'⟩

theorem Bld.belowS {w w' : World} {B b : Nat} {l : List UInt8} (h : Bld w B b l) (hb : Below w.heap.size w w') : Bld w' B b l := by
 have key : ∀ p, Lib.BuilderAtF 142 5 B b p (Lib.byteCells l) w → Lib.BuilderAtF 142 5 B b p (Lib.byteCells l) w' := by
  intro p hp
  have hlt := hp.lt
  obtain ⟨hB, v, hbk, hown, hne⟩ := hp
  exact ⟨hB, v, (hb.block b hlt).trans hbk, hown.kept (only_of_below hb none) (by cases hv : v.ownBlock <;> simp), hne⟩
 exact h.elim (fun x => .inl (key _ x)) (fun x => .inr (key _ x))
theorem Bld.farS {w w' : World} {B b g : Nat} {l : List UInt8} (h : Bld w B b l) (hb : w.grownBy w' (some g)) (hg : g < B) : Bld w' B b l := by
 have key : ∀ p, Lib.BuilderAtF 142 5 B b p (Lib.byteCells l) w → Lib.BuilderAtF 142 5 B b p (Lib.byteCells l) w' := by
  intro p hp
  have hlt := hp.lt
  obtain ⟨hB, v, hbk, hown, hne⟩ := hp
  exact ⟨hB, v, (hb.block b hlt (by intro e; injection e; omega)).trans hbk, hown.kept hb (.inr fun e => by have := (hown.lt g e).1; omega), hne⟩
 exact h.elim (fun x => .inl (key _ x)) (fun x => .inr (key _ x))
theorem grown_setCell (w : World) (p : Addr) (u : Value) : w.grownBy (w.setCell p u) (some p.block) :=
 ⟨rfl, rfl, rfl, by simp [World.setCell], fun i _ hne => Below.heap_setCell w p u i (by rintro rfl; exact hne rfl)⟩
end Go.Proofs.YtakgolbgeeoioaaGreat
