/-
  A digest's filled and mix.
-/
import Derived.Test.YtbkmclgddknijaaDig
import Derived.Test.YtbkmclgddknijaaWords
import Derived.Deep.MidRow
import Derived.Deep.RegionHeld3
import Derived.Deep.DeepCutAuto
namespace Go.Proofs.Ytbkmclgddknijaa
open Go.RowKit

theorem filled_any (g n : Nat) (hn : n < 9223372036854775808) (w : World) (hc : w.cell? ⟨g, 136, none⟩ = some (.int .u64 (n : Nat))) :
    Calls Try.prog 57 #[.pointer (some ⟨g, 0, none⟩)] w fun e w' => e = .returned (.int .i64 ((n % 64 : Nat) : Int)) ∧ w = w' := by
  go_enter Try.func57, Try.ntmps57
  go_wp2
  go_ret
  exact ⟨rfl, rfl⟩

theorem wpStill_load_mid {P : Program} {ops : Array Oper} {rest : List Oper} {op : Oper} {a : Act} {w : World} {Q : Act → Prop} (hgd : op.guard = none) (ty : TypeId) (x : Operand) (ho : op.op = .load ty x)
    (b o : Nat) (hx : a.eval x = .pointer (some ⟨b, o, none⟩)) (cs : List Value) (d : TypeDesc) (hc : w.rangeAt b o cs)
    (hu : P.underlying ty = some d) (hd : d.isRow = true) (hi : (P.info? ty).map (·.size) = some cs.length)
    (h : wpStill P ops w Q rest (a.put op.dst (.agg cs.toArray))) : wpStill P ops w Q (op :: rest) a := by
  unfold wpStill
  rw [if_pos (by simp [Region.wanted, hgd])]
  unfold Oper.still execOp
  simp only [ho, hx, Instr.loadAt, Instr.sureAddr, Sem.run_bind, Sem.run_pure, Result.andThen_ok, run_loadVar_mid w b o ty cs d hc hu hd hi, Oper.stillUpon_value]
  exact h

theorem range_h {w : World} {g : Nat} {hl bs : List Nat} {n : Nat} (h8 : hl.length = 8) (hb : Blk w g 96 (digA hl bs n)) : w.rangeAt g 64 (hl.map U32) := by
  intro j v hv
  rw [hb.cell]
  have hj : j < 8 := by
    have := (List.getElem?_eq_some_iff.1 hv).1
    simpa [h8] using this
  rw [digA_h h8 j hj, ← hv]
  simp [List.getD_eq_getElem?_getD, List.getElem?_eq_getElem (show j < hl.length by omega)]

theorem below_reads {W w1 : World} (hb : Below W.heap.size W w1) : (∀ b o, b < W.heap.size → w1.cell? ⟨b, o, none⟩ = W.cell? ⟨b, o, none⟩) ∧ (∀ b o, b < W.heap.size → w1.frozen? ⟨b, o, none⟩ = W.frozen? ⟨b, o, none⟩) :=
  ⟨fun b o h => hb.cell (p := ⟨b, o, none⟩) h, fun b o h => hb.frozen (p := ⟨b, o, none⟩) h⟩
theorem add_spell (x y : Nat) : IntKind.u32.wrap ((x : Int) + (y : Int)) = (((x + y) % 4294967296 : Nat) : Int) := by rw [IntKind.wrap_u32']; omega
theorem only_set {a w : World} {g : Nat} (h : a.grownBy w (some g)) (i : Nat) (u : Value) : a.grownBy (w.setCell ⟨g, i, none⟩ u) (some g) :=
  ⟨h.os, h.tape, h.output, by simpa [World.setCell] using h.size, fun k hk hne => (Below.heap_setCell w _ u k (by rintro rfl; exact hne rfl)).trans (h.block k hk hne)⟩
theorem z8lit_run (w : World) : (zeroValue 25).run Try.prog w = .ok (.agg #[.int .u32 0, .int .u32 0, .int .u32 0, .int .u32 0, .int .u32 0, .int .u32 0, .int .u32 0, .int .u32 0]) w := by kernel_rfl

set_option maxRecDepth 100000 in
set_option maxHeartbeats 1000000 in
theorem mix_s (g : Nat) (s : S8) (bs : List Nat) (n : Nat) (h64 : bs.length = 64) (hs : s.ok) (hbt : ∀ x ∈ bs, x < 256) (w : World) (hb : Blk w g 96 (digA s.list bs n)) :
    Calls Try.prog 58 #[.pointer (some ⟨g, 0, none⟩)] w fun e w' => e = .returned (.tuple #[]) ∧ Blk w' g 96 (digA (mixed s.list fun i => bs.getD i 0) bs n) ∧ w.grownBy w' (some g) := by
  have h8 := s.list_length
  have hz := z64w_run
  have hz8 := z8lit_run
  go_enter Try.func58, Try.ntmps58
  go_wp2_with fail
  refine (words_any g 72 (fun i => bs.getD i 0) (fun i => getD_lt hbt (by decide) i) w hb.lt (fun i hi => by rw [hb.cell, digA_b h8 h64 i hi]; rfl)).mono ?_
  rintro e w1 ⟨rfl, hB1⟩
  have hsz : (padded U32 64 (wl (fun i => bs.getD i 0) 64)).size = 64 := padded_size U32 (by rw [wl_length]; omega)
  have hone := padded_one 64 (wl (fun i => bs.getD i 0) 64)
  have hW : ∀ j, j < 64 → (padded U32 64 (wl (fun i => bs.getD i 0) 64))[j]? = some (U32 ((wl (fun i => bs.getD i 0) 64).getD j 0)) := fun j hj => padded_at U32 (by rw [wl_length]; exact hj)
  have HM := Lib.hid (show mixed s.list (fun i => bs.getD i 0) = addTo s.list (rnds (fun i => stdK.getD i 0) (fun i => (wl (fun i => bs.getD i 0) 64).getD i 0) s 64).list 8 from rfl)
  have hwlt := wl_lt (fun i => getD_lt hbt (by decide) i) 64
  generalize hwl : wl (fun i => bs.getD i 0) 64 = ws at *
  clear hwl
  obtain ⟨T, hT⟩ : ∃ T, padded U32 64 ws = T := ⟨_, rfl⟩
  rw [hT] at hsz hone hW ⊢
  clear hT
  have HI := Lib.hid (show (Try.prog.info? 24).map (·.size) = some T.size by rw [hsz]; kernel_rfl)
  have HO := Lib.hid (show z64w.size = T.size by rw [hsz]; simp [z64w])
  have H1 := Lib.hid hone
  have HW := Lib.hid hW
  clear hsz hone hW
  go_wp2_with (refine wpList_store_row rfl 24 _ _ rfl w1.heap.size T rfl rfl 24 z64w (Blk.new _ _ _) HI.out HO.out H1.out ?_)
  rw [World.setRow_alloc_new]
  obtain ⟨w2, hw2⟩ : ∃ w2, w1.alloc (Obj.cells T 24) = w2 := ⟨_, rfl⟩
  rw [hw2]
  have b1 : Blk w2 w1.heap.size 24 T := by rw [← hw2]; exact Blk.new _ _ _
  have hB2 : Below w.heap.size w w2 := by rw [← hw2]; exact hB1.alloc hB1.size _
  have hs2 : w1.heap.size < w2.heap.size := b1.lt
  have b0 := hb.below hB2 hb.lt
  clear hw2
  have keepS : ∀ x, Below w2.heap.size w2 x → x.cell? ⟨g, 64, none⟩ = some (.int .u32 (s.a : Nat)) ∧ x.cell? ⟨g, 65, none⟩ = some (.int .u32 (s.b : Nat)) ∧ x.cell? ⟨g, 66, none⟩ = some (.int .u32 (s.c : Nat)) ∧ x.cell? ⟨g, 67, none⟩ = some (.int .u32 (s.d : Nat)) ∧ x.cell? ⟨g, 68, none⟩ = some (.int .u32 (s.e : Nat)) ∧ x.cell? ⟨g, 69, none⟩ = some (.int .u32 (s.f : Nat)) ∧ x.cell? ⟨g, 70, none⟩ = some (.int .u32 (s.g : Nat)) ∧ x.cell? ⟨g, 71, none⟩ = some (.int .u32 (s.h : Nat)) ∧ Below w2.heap.size w2 x := fun x hx => by
    have c := b0.below hx b0.lt
    exact ⟨(c.cell 64).trans (digA_h h8 0 (by omega)), (c.cell 65).trans (digA_h h8 1 (by omega)), (c.cell 66).trans (digA_h h8 2 (by omega)), (c.cell 67).trans (digA_h h8 3 (by omega)), (c.cell 68).trans (digA_h h8 4 (by omega)), (c.cell 69).trans (digA_h h8 5 (by omega)), (c.cell 70).trans (digA_h h8 6 (by omega)), (c.cell 71).trans (digA_h h8 7 (by omega)), hx⟩
  obtain ⟨S, hS⟩ : ∃ S, rnds (fun i => stdK.getD i 0) (fun i => ws.getD i 0) s 64 = S := ⟨_, rfl⟩
  have rc : ∀ x, Below w2.heap.size w2 x → Calls Try.prog 63 #[.agg #[.int .u32 (s.a : Nat), .int .u32 (s.b : Nat), .int .u32 (s.c : Nat), .int .u32 (s.d : Nat), .int .u32 (s.e : Nat), .int .u32 (s.f : Nat), .int .u32 (s.g : Nat), .int .u32 (s.h : Nat)], .pointer (some ⟨g, 0, none⟩), .pointer (some ⟨w1.heap.size, 0, none⟩)] x fun e w' =>
      e = .returned (.agg #[.int .u32 (S.a : Nat), .int .u32 (S.b : Nat), .int .u32 (S.c : Nat), .int .u32 (S.d : Nat), .int .u32 (S.e : Nat), .int .u32 (S.f : Nat), .int .u32 (S.g : Nat), .int .u32 (S.h : Nat)]) ∧ Below x.heap.size x w' := by
    intro x hx
    have c0 := b0.below hx b0.lt
    have c1 := b1.below hx hs2
    have := rounds_any s hs g w1.heap.size (fun i => stdK.getD i 0) (fun i => ws.getD i 0) (fun i => stdK_lt i) (fun i => getD_lt hwlt (by decide) i) x c0.lt c1.lt
      (fun j hj => by rw [c0.cell, digA_k j hj]; rfl) (fun j hj => by rw [c1.cell, HW.out j hj]; rfl)
    rw [hS] at this
    exact this
  rw [hS] at HM
  have HR := Lib.hid rc
  have HK := Lib.hid keepS
  clear hS rc keepS
  go_simp
  go_upto_region 1 with fail
  go_cut [3] (fun s3 wx => ∃ ga : Nat, s3 = .pointer (some ⟨ga, 0, none⟩) ∧ w2.heap.size ≤ ga ∧ Blk wx ga 25 S.vals ∧ Below w2.heap.size w2 wx)
  case first =>
    go_region_held3 (fun w' => w'.cell? ⟨g, 64, none⟩ = some (.int .u32 (s.a : Nat)) ∧ w'.cell? ⟨g, 65, none⟩ = some (.int .u32 (s.b : Nat)) ∧ w'.cell? ⟨g, 66, none⟩ = some (.int .u32 (s.c : Nat)) ∧ w'.cell? ⟨g, 67, none⟩ = some (.int .u32 (s.d : Nat)) ∧ w'.cell? ⟨g, 68, none⟩ = some (.int .u32 (s.e : Nat)) ∧ w'.cell? ⟨g, 69, none⟩ = some (.int .u32 (s.f : Nat)) ∧ w'.cell? ⟨g, 70, none⟩ = some (.int .u32 (s.g : Nat)) ∧ w'.cell? ⟨g, 71, none⟩ = some (.int .u32 (s.h : Nat)) ∧ Below w2.heap.size w2 w')
      ((refine HK.out _ ?_; repeat (first | with_reducible exact Below.refl _ _ | with_reducible exact hB4' | with_reducible refine Below.drew ?_ | ((with_reducible refine Below.setCell ?_ ?_ _); rotate_left; simp) | ((with_reducible refine Below.alloc ?_ ?_ _); rotate_left; (first | exact Nat.le_refl _ | exact hB4'.size | simp)))))
      (first | (go_at_call 63; refine (HR.out _ (by first | exact (Below.refl _ _).drew | exact ((Below.refl _ _).drew).alloc (Nat.le_refl _) _)).mono ?_; rintro e w4 ⟨rfl, hB4⟩; obtain ⟨hc4, hf4⟩ := below_reads hB4; have hB4' : Below w2.heap.size w2 w4 := (by first | exact (Below.refl _ _).drew.trans hB4 | exact (((Below.refl _ _).drew).alloc (Nat.le_refl _) _).trans (hB4.mono (by simp)))))
    · go_wp2_with fail
      go_meet
      exact ⟨w4.heap.size, rfl, hB4'.size, Blk.new _ _ _, hB4'.alloc hB4'.size _⟩
    · go_wp2_with fail
      go_meet
      have k : Blk w4 w2.heap.size 25 #[.int .u32 0, .int .u32 0, .int .u32 0, .int .u32 0, .int .u32 0, .int .u32 0, .int .u32 0, .int .u32 0] := Blk.below (Blk.new _ _ _).drew hB4 (by simp [World.drew])
      refine ⟨w2.heap.size, rfl, Nat.le_refl _, ?_, ?_⟩
      · exact (((((((k.set_ 0 _).set_ 1 _).set_ 2 _).set_ 3 _).set_ 4 _).set_ 5 _).set_ 6 _).set_ 7 _
      · exact (((((((hB4'.setCell (Nat.le_refl _) _).setCell (Nat.le_refl _) _).setCell (Nat.le_refl _) _).setCell (Nat.le_refl _) _).setCell (Nat.le_refl _) _).setCell (Nat.le_refl _) _).setCell (Nat.le_refl _) _).setCell (Nat.le_refl _) _
  case rest =>
    obtain ⟨ga, rfl, hga, b2, hBc⟩ := hcut
    have b0 := b0.below hBc b0.lt
    have hBw : Below w.heap.size w wc := hB2.trans (hBc.mono hB2.size)
    have hgl := hb.lt
    have hne : g ≠ ga := by have := hB2.size; omega
    have hgw : w.grownBy wc (some g) := ⟨hBw.os, hBw.tape, hBw.output, hBw.size, fun i hi _ => hBw.block i hi⟩
    clear b1 hBc hB1 hz hz8 HR HK
    go_wp2
    go_loopw [17] (fun i wr => ∃ k : Nat, k ≤ 8 ∧ i = .int .i64 k ∧ Blk wr g 96 (digA (addTo s.list S.list k) bs n) ∧ Blk wr ga 25 S.vals ∧ w.grownBy wr (some g))
      (fun i _ => 8 - (intOf i).toNat)
    case atStart => exact ⟨0, by omega, rfl, by rw [addTo_zero _ h8]; exact b0, b2, hgw⟩
    case round =>
      clear b0 b2 hgw hBw
      obtain ⟨k, hk, rfl, b0, b2, hgw⟩ := hrel
      by_cases hlt : k < 8
      · have hlt' : (k : Int) < 8 := by omega
        have c0 : wr.cell? ⟨g, 64 + k, none⟩ = some (.int .u32 (s.list.getD k 0 : Nat)) := (b0.cell (64 + k)).trans (by rw [digA_h (addTo_length _ _ _) k hlt, addTo_at _ _ _ hlt]; rfl)
        have c1 : wr.cell? ⟨ga, k, none⟩ = some (.int .u32 (S.list.getD k 0 : Nat)) := (b2.cell k).trans (by rw [S8.vals_list, map_at (show k < S.list.length from hlt)]; rfl)
        have f0 := b0.frozen (64 + k)
        have HA := Lib.hid (addTo_succ s.list S.list k hlt)
        generalize s.list.getD k 0 = x at *
        generalize S.list.getD k 0 = y at *
        go_wp2
        go_still_tail 13, (by kernel_rfl)
        change wpList _ _ _ _ _ wr.drew
        obtain ⟨w5, hw5⟩ : ∃ w5, wr.drew = w5 := ⟨_, rfl⟩
        rw [hw5]
        have b0' : Blk w5 g 96 (digA (addTo s.list S.list k) bs n) := by rw [← hw5]; exact b0
        have b2' : Blk w5 ga 25 S.vals := by rw [← hw5]; exact b2
        have hgw' : w.grownBy w5 (some g) := by rw [← hw5]; exact ⟨hgw.os, hgw.tape, hgw.output, hgw.size, hgw.block⟩
        have c0' : w5.cell? ⟨g, 64 + k, none⟩ = some (.int .u32 (x : Nat)) := by rw [← hw5]; exact c0
        have f0' : w5.frozen? ⟨g, 64 + k, none⟩ = false := by rw [← hw5]; exact f0
        clear hw5
        rw [add_spell x y]
        obtain ⟨z, hz⟩ : ∃ z, (x + y) % 4294967296 = z := ⟨_, rfl⟩
        rw [hz] at HA ⊢
        clear hz
        go_wp2
        go_roundw
        case rel =>
          refine ⟨k + 1, by omega, by go_num, ?_, b2'.far (by simpa using Ne.symm hne) _, only_set hgw' _ _⟩
          rw [← HA.out, ← digA_setH (addTo_length _ _ _) k z hlt]
          exact b0'.set_ (64 + k) (U32 z)
        case measure => simp [intOf]; omega
      · obtain rfl : k = 8 := by omega
        go_wp2
        go_end0
        exact ⟨rfl, by rw [HM.out]; exact b0, hgw⟩

theorem mix_any (g : Nat) (hl bs : List Nat) (n : Nat) (h8 : hl.length = 8) (h64 : bs.length = 64) (hlt : ∀ x ∈ hl, x < 4294967296) (hbt : ∀ x ∈ bs, x < 256) (w : World) (hb : Blk w g 96 (digA hl bs n)) :
    Calls Try.prog 58 #[.pointer (some ⟨g, 0, none⟩)] w fun e w' => e = .returned (.tuple #[]) ∧ Blk w' g 96 (digA (mixed hl fun i => bs.getD i 0) bs n) ∧ w.grownBy w' (some g) := by
  have := mix_s g (S8.of hl) bs n h64 (S8.of_ok hlt) hbt w
  rw [S8.of_list h8] at this
  exact this hb
end Go.Proofs.Ytbkmclgddknijaa
