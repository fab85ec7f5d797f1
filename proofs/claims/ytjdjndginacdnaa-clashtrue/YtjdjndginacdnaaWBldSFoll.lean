/-
  Entries that go a path's way, and the others.
-/
import Derived.Test.YtjdjndginacdnaaLoadsWBldHStep
import Derived.Test.YtjdjndginacdnaaSRoot
namespace Go.Proofs.Ytjdjndginacdnaa
open Go.RowKit

/-- those that go the path's way at its bit d, and those that go the other one -/
def alg (d : Nat) (p : ByteArray) (es : List Ent) : List Ent := if bitS p d then one d es else zer d es
def oth (d : Nat) (p : ByteArray) (es : List Ent) : List Ent := if bitS p d then zer d es else one d es
theorem Good.alg {d : Nat} {es : List Ent} (h : Good d es) (p : ByteArray) : Good (d + 1) (alg d p es) := by
  unfold Go.Proofs.Ytjdjndginacdnaa.alg
  split
  · exact h.one
  · exact h.zer
theorem Good.oth {d : Nat} {es : List Ent} (h : Good d es) (p : ByteArray) : Good (d + 1) (oth d p es) := by
  unfold Go.Proofs.Ytjdjndginacdnaa.oth
  split
  · exact h.zer
  · exact h.one
theorem Fit.alg {d : Nat} {es : List Ent} (h : Fit es) (p : ByteArray) : Fit (alg d p es) := by
  unfold Go.Proofs.Ytjdjndginacdnaa.alg
  split <;> exact h.filter _
theorem Fit.oth {d : Nat} {es : List Ent} (h : Fit es) (p : ByteArray) : Fit (oth d p es) := by
  unfold Go.Proofs.Ytjdjndginacdnaa.oth
  split <;> exact h.filter _
theorem alg_len (d : Nat) (p : ByteArray) (es : List Ent) : (alg d p es).length ≤ es.length := by
  unfold alg
  split <;> exact List.length_filter_le _ _
theorem oth_len (d : Nat) (p : ByteArray) (es : List Ent) : (oth d p es).length ≤ es.length := by
  unfold oth
  split <;> exact List.length_filter_le _ _
/-- what follow answers -/
def RF (b d : Nat) (p : ByteArray) (es : List Ent) (w : World) (e : Ending) (w' : World) : Prop :=
  ∃ o1 c1 o2 c2, e = .returned (.tuple #[.slice o1 (alg d p es).length c1, .slice o2 (oth d p es).length c2]) ∧ Ents w' b o1 (alg d p es) ∧ Ents w' b o2 (oth d p es) ∧ (alg d p es).length ≤ c1 ∧ (oth d p es).length ≤ c2 ∧ Below w.heap.size w w'
set_option maxRecDepth 100000 in
set_option maxHeartbeats 1000000 in
theorem follow_any {b : Nat} (d : Nat) (hd : d < 256) (p : ByteArray) (hps : p.size = 32) (oa : Option Addr) (cap n : Nat) (es : List Ent) (hn : es.length = n) (hsz : n ≤ 1000000) (hcap : n ≤ cap) (hG : Good d es) (w : World) (hE : Ents w b oa es) :
    Calls Try.prog 59 #[.slice oa n cap, .string p, .int .i64 d] w (RF b d p es w) := by
  have HP := Lib.hid (fun W c hE' hc => part_any (b := b) d c hd oa cap n es hn hsz hcap hG.size (hG.mon hd) W hE' hc)
  have HF := Lib.hid (fun c W hc => bitf_any c d hd p hps W hc)
  have HE := Lib.hid hE
  unfold RPs at HP
  unfold RF alg oth
  generalize bitS p d = bb at *
  generalize zer d es = zs at *
  generalize one d es = os at *
  have hB0 := (Below.refl _ w).alloc (Nat.le_refl _) (.cells #[.int .i64 d] 3)
  have hcd := (Blk.new w 3 #[.int .i64 d]).cell 0
  clear hE hG hn hps
  go_enter Try.func59, Try.ntmps59
  go_wp2_with fail
  refine (bitAt_any d _).mono ?_
  rintro e w1 ⟨rfl, rfl⟩
  go_wp2_with fail
  refine (HP.out _ _ (HE.out.below hB0) hcd).mono ?_
  rintro e w2 ⟨o1, c1, o2, c2, rfl, hz, ho, hc1, hc2, hB2⟩
  have hB2' := hB0.trans (hB2.mono hB0.size)
  clear hB0 hB2 HP hcd HE
  go_wp2_with fail
  refine (bitAt_any d _).mono ?_
  rintro e w3 ⟨rfl, hw3⟩
  have hcd : w3.cell? ⟨w2.heap.size, 0, none⟩ = some (.int .i64 d) := by rw [← hw3]; exact (Blk.new w2 3 #[.int .i64 d]).cell 0
  have hB3 : Below w2.heap.size w2 w3 := by rw [← hw3]; exact (Below.refl _ w2).alloc (Nat.le_refl _) _
  have hz3 := hz.below hB3
  have ho3 := ho.below hB3
  have hB3' := hB2'.trans (hB3.mono hB2'.size)
  clear hw3 hz ho hB2' hB3
  go_wp2_with fail
  refine (HF.out _ _ hcd).mono ?_
  rintro e w4 ⟨rfl, q, rfl⟩
  have hB4 : Below w3.heap.size w3 (w3.drewN q) := below_drewN (Below.refl _ _) q
  have hz4 := hz3.below hB4
  have ho4 := ho3.below hB4
  have hB4' := hB3'.trans (hB4.mono hB3'.size)
  clear hz3 ho3 hB3' hB4 hcd HF
  cases bb
  · go_wp2
    go_ret2
    exact ⟨o1, c1, o2, c2, rfl, hz4, ho4, hc1, hc2, hB4'⟩
  · go_wp2
    go_ret2
    exact ⟨o2, c2, o1, c1, rfl, ho4, hz4, hc2, hc1, hB4'⟩

theorem Bld.belowS {w w' : World} {B b : Nat} {l : List UInt8} (h : Bld w B b l) (hb : Below w.heap.size w w') : Bld w' B b l := by
  have key : ∀ p, Lib.BuilderAtF 107 5 B b p (Lib.byteCells l) w → Lib.BuilderAtF 107 5 B b p (Lib.byteCells l) w' := by
    intro p hp
    have hlt := hp.lt
    obtain ⟨hB, v, hbk, hown, hne⟩ := hp
    exact ⟨hB, v, (hb.block b hlt).trans hbk, hown.kept (only_of_below hb none) (by cases hv : v.ownBlock <;> simp), hne⟩
  exact h.elim (fun x => .inl (key _ x)) (fun x => .inr (key _ x))
theorem Bld.farS {w w' : World} {B b g : Nat} {l : List UInt8} (h : Bld w B b l) (hb : w.grownBy w' (some g)) (hg : g < B) : Bld w' B b l := by
  have key : ∀ p, Lib.BuilderAtF 107 5 B b p (Lib.byteCells l) w → Lib.BuilderAtF 107 5 B b p (Lib.byteCells l) w' := by
    intro p hp
    have hlt := hp.lt
    obtain ⟨hB, v, hbk, hown, hne⟩ := hp
    exact ⟨hB, v, (hb.block b hlt (by intro e; injection e; omega)).trans hbk, hown.kept hb (.inr fun e => by have := (hown.lt g e).1; omega), hne⟩
  exact h.elim (fun x => .inl (key _ x)) (fun x => .inr (key _ x))
theorem grown_setCell (w : World) (p : Addr) (u : Value) : w.grownBy (w.setCell p u) (some p.block) :=
  ⟨rfl, rfl, rfl, by simp [World.setCell], fun i _ hne => Below.heap_setCell w p u i (by rintro rfl; exact hne rfl)⟩
end Go.Proofs.Ytjdjndginacdnaa
