/-
  strings.Join with nothing between.
-/
import Derived.Test.YtbkmclgddknijaaOMath
import Derived.Test.YtbkmclgddknijaaWStrs
import Derived.Shelf.Strings.Builder2
namespace Go.Proofs.Ytbkmclgddknijaa
open Go.Shelf Go.RowKit

def gren : Go.Shelf.Ren := ⟨fun | 241 => 60 | 277 => 64 | n => n, fun | 70 => 61 | 9 => 9 | 0 => 0 | 72 => 63 | 37 => 41 | 127 => 81 | 3 => 3 | 5 => 5 | n => n, fun | n => n⟩
theorem glays : Go.Proofs.Lays.n241 Try.prog gren := {
  mixed := by kernel_rfl
  f241 := Try.func60.trans (congrArg some (by kernel_rfl))
  f277 := Try.func64.trans (congrArg some (by kernel_rfl))
  t0 := Try.underlying0, a0 := Try.isAgg0, z0 := Try.sizeOf0, v0 := Try.zeroValue0
  t3 := Try.underlying3, a3 := Try.isAgg3, z3 := Try.sizeOf3, v3 := Try.zeroValue3
  t37 := Try.underlying41, a37 := Try.isAgg41, z37 := Try.sizeOf41, v37 := Try.zeroValue41
  t70 := Try.underlying61, a70 := Try.isAgg61, z70 := Try.sizeOf61, v70 := Try.zeroValue61
  t72 := Try.underlying63, a72 := Try.isAgg63, z72 := Try.sizeOf63, v72 := Try.zeroValue63 }
theorem gextra : Builder.Extra Try.prog gren := {
  sizeBuilder := by kernel_rfl
  liesBuilder := by kernel_rfl
  t5 := Try.underlying5, a5 := Try.isAgg5, z5 := Try.sizeOf5, v5 := Try.zeroValue5
  infoByte := by kernel_rfl
  cellsByte := by kernel_rfl
  sizeByte := by kernel_rfl
  neB5 := by decide }
theorem bgrow (B b n : Nat) (w : World) (hB : B ≤ b) (hbk : w.heap[b]? = some (.cells #[.pointer (some ⟨b, 0, none⟩), .slice none 0 0] 63 (0, 0))) (hBw : B ≤ w.heap.size) (hn : n ≤ 281474976710656) :
    Calls Try.prog 60 #[.pointer (some ⟨b, 0, none⟩), .int .i64 n] w fun e w' => e = .returned (.tuple #[]) ∧ Bld w' B b [] ∧ Below B w w' :=
  (Any.Builder_grow_fresh glays gextra B b n w hB hbk hBw hn).mono fun _ _ h => ⟨h.1, .inr (Lib.BuilderAtF.of h.2.1), h.2.2⟩

set_option maxRecDepth 100000 in
set_option maxHeartbeats 1000000 in
theorem bGrow (B b n : Nat) (w : World) (hB : B ≤ b) (hbk : w.heap[b]? = some (.cells #[.pointer none, .slice none 0 0] 63 (0, 0))) (hBw : B ≤ w.heap.size) (hn0 : 0 < n) (hn : n ≤ 281474976710656) :
    Calls Try.prog 53 #[.pointer (some ⟨b, 0, none⟩), .int .i64 n] w fun e w' => e = .returned (.tuple #[]) ∧ Bld w' B b [] ∧ Below B w w' := by
  have hbk1 : (w.setCell ⟨b, 0, none⟩ (.pointer (some ⟨b, 0, none⟩))).heap[b]? = some (.cells #[.pointer (some ⟨b, 0, none⟩), .slice none 0 0] 63 (0, 0)) := by
    simp [World.setCell, Array.getElem?_modify, hbk]
  have c1 : (w.setCell ⟨b, 0, none⟩ (.pointer (some ⟨b, 0, none⟩))).cell? ⟨b, 1, none⟩ = some (.slice none 0 0) := by rw [Lib.cell_of_heap hbk1]; rfl
  have hb1 : Below B w (w.setCell ⟨b, 0, none⟩ (.pointer (some ⟨b, 0, none⟩))) := (Below.refl B w).setCell (p := ⟨b, 0, none⟩) hB _
  have HG := Lib.hid (fun W h1 h2 => bgrow B b n W hB h1 h2 hn)
  have HC := Lib.hid (check_fresh b w (by rw [Lib.cell_of_heap hbk]; rfl) (by simp [World.shape?, hbk]) (Lib.frozen_of_heap hbk 0))
  have HBK := Lib.hid hbk1
  have HB1 := Lib.hid hb1
  have HBW := Lib.hid hBw
  have hn1 : ¬ (n : Int) < 0 := by omega
  have hn2 : (0 : Int) < (n : Int) := by omega
  clear hbk hbk1 hb1
  go_enter Try.func53, Try.ntmps53
  go_wp2_with fail
  refine HC.out.mono ?_
  rintro e w' ⟨rfl, rfl⟩
  have hsz : (w.setCell ⟨b, 0, none⟩ (.pointer (some ⟨b, 0, none⟩))).heap.size = w.heap.size := by simp [World.setCell]
  have HSZ := Lib.hid hsz
  clear hsz
  generalize w.setCell ⟨b, 0, none⟩ (.pointer (some ⟨b, 0, none⟩)) = w1 at *
  go_wp2
  go_quiet (fail)
  go_wp2_with fail
  refine (HG.out _ ?h1 ?h2).mono ?_
  case h1 => exact HBK.out
  case h2 => show B ≤ w1.heap.size; have := HSZ.out; have := HBW.out; omega
  rintro e w2 ⟨rfl, h2, h3⟩
  have h4 := (below_drewN HB1.out _).trans h3
  go_wp2
  go_end0
  exact ⟨rfl, h2, h4⟩

theorem cat_take (ss : List ByteArray) (k : Nat) (h : k < ss.length) : catB (ss.take (k + 1)) = catB (ss.take k) ++ ss.getD k ByteArray.empty := by
  rw [List.take_succ_eq_append_getElem h, catB_append, catB_one, List.getD_eq_getElem?_getD, List.getElem?_eq_getElem h]
  rfl
theorem cat_take_size (ss : List ByteArray) (k : Nat) : (catB (ss.take k)).size ≤ (catB ss).size := by
  have := catB_append (ss.take k) (ss.drop k)
  rw [List.take_append_drop] at this
  rw [this, ByteArray.size_append]
  omega

set_option maxRecDepth 100000 in
set_option maxHeartbeats 2000000 in
theorem sjoin_any (g n cap : Nat) (ss : List ByteArray) (hn : ss.length = n) (hn2 : 2 ≤ n) (hn3 : n ≤ 1099511627776) (hcap : n ≤ cap) (hsz : (catB ss).size ≤ 1099511627776) (hpos : 0 < (catB ss).size) (w : World) (hc : Row w g 0 ss) :
    Calls Try.prog 47 #[.slice (some ⟨g, 0, none⟩) n cap, .string ⟨#[]⟩] w fun e w' => e = .returned (.string (catB ss)) ∧ Below w.heap.size w w' := by
  have HC := Lib.hid hc
  have HN := Lib.hid hn
  have hn0 : ((n : Int) == 0) = false := by rw [beq_eq_false_iff_ne]; omega
  have hn1 : ((n : Int) == 1) = false := by rw [beq_eq_false_iff_ne]; omega
  have hsl := slice_from g 0 n cap 1 (by omega) hcap
  rw [show ((1 : Nat) : Int) = 1 from rfl, Nat.zero_add] at hsl
  clear hc hn
  go_enter Try.func47, Try.ntmps47
  go_wp2
  go_loop [5, 41] (fun t i => ∃ k : Nat, k ≤ n ∧ i = .int .i64 k ∧ t = .int .i64 (catB (ss.take k)).size) (fun _ i => n - (intOf i).toNat)
  case atStart => exact ⟨0, by omega, rfl, rfl⟩
  case round =>
    obtain ⟨k, hk, rfl, rfl⟩ := hrel
    by_cases hlt : k < n
    · have hlt' : (k : Int) < (n : Int) := by omega
      have hkl : k < ss.length := by have := HN.out; omega
      have hc := HC.out.2 k hkl
      rw [Nat.zero_add] at hc
      have HT := Lib.hid (cat_take ss k hkl)
      have htk := cat_take_size ss (k + 1)
      rw [HT.out, ByteArray.size_append] at htk
      generalize ss.getD k ByteArray.empty = x at *
      have HL := Lib.hid (show (catB (ss.take (k + 1))).size = (catB (ss.take k)).size + x.size by rw [HT.out, ByteArray.size_append])
      generalize (catB (ss.take k)).size = t at *
      have hb : ¬ (9223372036854775807 : Int) - (t : Int) < (x.size : Int) := by omega
      go_wp2
      go_round
      case rel => exact ⟨k + 1, by omega, by go_num, by rw [HL.out]; go_num⟩
      case measure => simp [intOf]; omega
    · obtain rfl : k = n := by omega
      have hall : ss.take k = ss := by rw [List.take_of_length_le]; have := HN.out; omega
      rw [hall]
      clear hlt hall hk
      have hbk : (w.alloc (.cells #[.pointer none, .slice none 0 0] 63)).heap[w.heap.size]? = some (.cells #[.pointer none, .slice none 0 0] 63 (0, 0)) := heap_alloc_new w _
      have HB0 := Lib.hid ((Below.refl _ w).alloc (Nat.le_refl _) (.cells #[.pointer none, .slice none 0 0] 63))
      have HG := Lib.hid (bGrow w.heap.size w.heap.size (catB ss).size (w.alloc (.cells #[.pointer none, .slice none 0 0] 63)) (Nat.le_refl _) hbk (by simp) hpos (by omega))
      clear hbk
      have HSZ := Lib.hid hsz
      go_wp2_with fail
      refine HG.out.mono ?_
      rintro e w1 ⟨rfl, hb1, hB1⟩
      have hB1' := HB0.out.trans hB1
      have h0l : 0 < ss.length := by have := HN.out; omega
      have hc := (hB1'.cell (p := ⟨g, 0, none⟩) HC.out.1).trans (HC.out.2 0 h0l)
      have HT0 := Lib.hid (cat_take ss 0 h0l)
      have htk := cat_take_size ss 1
      rw [HT0.out, show catB (ss.take 0) = ⟨#[]⟩ from rfl, empty_append] at htk
      have HT1 : Hid (catB (ss.take 1) = ss.getD 0 ByteArray.empty) := Lib.hid (by rw [HT0.out, show catB (ss.take 0) = ⟨#[]⟩ from rfl, empty_append])
      obtain ⟨x0, hx0⟩ : ∃ x0, ss.getD 0 ByteArray.empty = x0 := ⟨_, rfl⟩
      rw [hx0] at hc htk HT1
      clear HG HB0 HT0 hx0 hB1 h0l
      go_wp2_with fail
      refine (bld_write w.heap.size w.heap.size [] x0 _ hb1 (by show 0 + _ ≤ _; omega) hB1'.size).mono ?_
      rintro e w2 ⟨rfl, hb2, hB2⟩
      have hB2' := hB1'.trans hB2
      rw [List.nil_append, ← HT1.out] at hb2
      clear hb1 hB1' hB2 hc htk HT1
      obtain ⟨m, hm⟩ : ∃ m, k - 1 = m := ⟨_, rfl⟩
      rw [hm] at hsl
      have HM := Lib.hid (show k = m + 1 by omega)
      have hm2 : m ≤ 1099511627776 := by omega
      clear hm hn0 hn1 hn2 hcap hn3
      go_wp2
      go_loopw [65] (fun i wr => ∃ j : Nat, j ≤ m ∧ i = .int .i64 j ∧ Bld wr w.heap.size w.heap.size (catB (ss.take (j + 1))).data.toList ∧ Below w.heap.size w wr) (fun i _ => m - (intOf i).toNat)
      case atStart => exact ⟨0, by omega, rfl, hb2, hB2'⟩
      case round =>
        clear hb2 hB2'
        obtain ⟨j, hj, rfl, hb, hB⟩ := hrel
        by_cases hlt : j < m
        · have hlt' : (j : Int) < (m : Int) := by omega
          have hjl : j + 1 < ss.length := by have := HN.out; have := HM.out; omega
          have hc := (hB.cell (p := ⟨g, 0 + (j + 1), none⟩) HC.out.1).trans (HC.out.2 (j + 1) hjl)
          rw [Nat.zero_add, Nat.add_comm j 1] at hc
          have HT := Lib.hid (cat_take ss (j + 1) hjl)
          have htk := cat_take_size ss (j + 1 + 1)
          rw [HT.out, ByteArray.size_append] at htk
          have HLN := Lib.hid (show (catB (ss.take (j + 1))).data.toList.length = (catB (ss.take (j + 1))).size from Array.length_toList)
          rw [Nat.add_comm 1 j] at hc
          generalize ss.getD (j + 1) ByteArray.empty = x at *
          rw [Nat.add_comm j 1] at hc
          have HTK := Lib.hid htk
          clear hjl htk hsz
          go_wp2_with fail
          refine (bld_write w.heap.size w.heap.size _ ⟨#[]⟩ _ hb (by rw [HLN.out]; show _ + 0 ≤ _; have := HTK.out; have := HSZ.out; omega) hB.size).mono ?_
          rintro e w5 ⟨rfl, hb5, hB5⟩
          have hB5' := hB.trans hB5
          rw [show (⟨#[]⟩ : ByteArray).data.toList = [] from rfl, List.append_nil] at hb5
          clear hb hB hB5 hc
          go_wp2_with fail
          refine (bld_write w.heap.size w.heap.size _ x _ hb5 (by rw [HLN.out]; have := HTK.out; have := HSZ.out; omega) hB5'.size).mono ?_
          rintro e w6 ⟨rfl, hb6, hB6⟩
          have hB6' := hB5'.trans hB6
          rw [← toList_append, ← HT.out] at hb6
          clear hb5 hB5' hB6
          go_wp2
          go_roundw
          case rel => exact ⟨j + 1, by omega, by go_num, hb6, hB6'⟩
          case measure => simp [intOf]; omega
        · obtain rfl : j = m := by omega
          have hall : ss.take (j + 1) = ss := by rw [List.take_of_length_le]; have := HN.out; have := HM.out; omega
          rw [hall] at hb
          clear hall hlt
          go_wp2_with fail
          refine (bld_string w.heap.size w.heap.size _ _ hb hB.size).mono ?_
          rintro e w7 ⟨rfl, hB7⟩
          have hB7' := hB.trans hB7
          rw [of_toList]
          go_wp2
          go_ret
          exact ⟨rfl, hB7'⟩
end Go.Proofs.Ytbkmclgddknijaa
