/-
  The reference's Same of one list twice; the walk of the law WireLists.
-/
import Derived.Test.YtfbeakakokhfhaaWMath
import Derived.Laws.MakeOwn
namespace Go.Proofs.Ytfbeakakokhfhaa
open Go.RowKit

set_option maxRecDepth 100000 in
set_option maxHeartbeats 1000000 in
theorem rsame_eq (oa ob : Option Addr) (n cap cap' : Nat) (ss : List ByteArray) (hn : ss.length = n) (hm : n ≤ 1099511627776) (w : World) (ha : Strs w oa ss) (hb : Strs w ob ss) :
    Calls Try.prog 23 #[.slice oa n cap, .slice ob n cap'] w fun e w' => e = .returned (.bool true) ∧ Below w.heap.size w w' := by
  have HA := Lib.hid ha
  have HB := Lib.hid hb
  have HN := Lib.hid hn
  clear ha hb hn
  go_enter Try.func23, Try.ntmps23
  go_wp2
  go_loopw [5] (fun i wr => ∃ k : Nat, k ≤ n ∧ i = .int .i64 k ∧ Below w.heap.size w wr) (fun i _ => n - (intOf i).toNat)
  case atStart => exact ⟨0, by omega, rfl, Below.refl _ _⟩
  case round =>
    obtain ⟨k, hk, rfl, hB⟩ := hrel
    by_cases hlt : k < n
    · have hlt' : (k : Int) < (n : Int) := by omega
      have hkl : k < ss.length := by have := HN.out; omega
      obtain ⟨a, rfl, hab, hc0⟩ := HA.out k hkl
      obtain ⟨b, rfl, hbb, hd0⟩ := HB.out k hkl
      have hc : wr.cell? (a.add k) = some (.string (ss.getD k ByteArray.empty)) := (hB.cell (by rw [add_block]; exact hab)).trans hc0
      have hd : wr.cell? (b.add k) = some (.string (ss.getD k ByteArray.empty)) := (hB.cell (by rw [add_block]; exact hbb)).trans hd0
      have HBD := Lib.hid (fun q => below_drewN hB q)
      generalize ss.getD k ByteArray.empty = x at *
      clear hc0 hd0 hkl hB
      go_wp2
      go_quiet (fail)
      go_wp2
      go_roundw
      case rel => exact ⟨k + 1, by omega, by go_num, HBD.out _⟩
      case measure => simp [intOf]; omega
    · go_wp2
      go_ret
      exact ⟨rfl, hB⟩

/-- a list that was written, and read -/
def RB (ss : List ByteArray) (n : Nat) (w : World) (e : Ending) (w' : World) : Prop :=
  ∃ oa cap, e = .returned (.tuple #[.slice oa n cap, .int .i64 0]) ∧ Strs w' oa ss ∧ Below w.heap.size w w'
theorem readBack (ss : List ByteArray) (n : Nat) (hn : ss.length = n) (h1 : n ≤ 1000) (hs : ∀ s ∈ ss, s.size ≤ 2147483647) (hsz : (txts ss).size ≤ 1048576) (w : World) :
    Calls Try.prog 20 #[.string (listB ss)] w (RB ss n w) := by
  have hok : okList (listB ss) = true := by rw [okList_written ss hs (by omega), decide_eq_true_iff]; omega
  have hT := (list_read ss hs (by omega)).2
  refine (readList_any (listB ss) (by rw [listB_size]; omega) w).mono ?_
  rintro e w' ⟨oa, m, cap, tt, rfl, hm, htt, hst, hB⟩
  rw [hok] at htt ⊢
  have e1 : tt = ss := htt.trans hT
  subst e1
  have e2 : m = n := by omega
  subst e2
  exact ⟨oa, cap, rfl, hst, hB⟩
/-- one of too many texts -/
def RN (w : World) (e : Ending) (w' : World) : Prop := e = .returned (.tuple #[.slice none 0 0, .int .i64 2]) ∧ Below w.heap.size w w'
theorem made_get (k i : Nat) (h : i < k) : (madeCells (Value.string ⟨#[]⟩).cells k)[i]? = some (.string ⟨#[]⟩) := by
  unfold madeCells
  rw [Array.getElem?_map, Array.getElem?_range]
  simp [h, Value.cells, Nat.mod_one]
theorem strs_made (w : World) (k : Nat) : Strs (w.alloc (.cells (madeCells (Value.string ⟨#[]⟩).cells k) 9)) (some ⟨w.heap.size, 0, none⟩) (List.replicate k ⟨#[]⟩) := by
  intro i hi
  rw [List.length_replicate] at hi
  refine ⟨_, rfl, by simp, ?_⟩
  have e : (⟨w.heap.size, 0, none⟩ : Addr).add i = ⟨w.heap.size, i, none⟩ := by unfold Addr.add; split <;> simp_all
  rw [e, (Blk.new w 9 _).cell, made_get k i hi]
  simp [List.getD_eq_getElem?_getD, hi]
theorem make_strs (k : Nat) (hk : k ≤ 1099511627776) (W : World) : (Instr.makeSlice 39 (.int .i64 (k : Int)) (.int .i64 (k : Int))).run Try.prog W = .ok (.slice (some ⟨W.heap.size, 0, none⟩) k k) (W.alloc (.cells (madeCells (Value.string ⟨#[]⟩).cells k) 9)) := by
  obtain ⟨i0, hi, hz0, hz1, hz2⟩ := info_parts strInfo
  have := run_make (P := Try.prog) W 39 9 i0 (.string ⟨#[]⟩) Try.underlying39 hi hz0 .i64 .i64 (k : Int) (k : Int) (by omega) (by omega) (by rw [hz2]; omega) (by omega)
  rw [this, hz1]
  simp
theorem txts_empties : ∀ k, (txts (List.replicate k (⟨#[]⟩ : ByteArray))).size = 4 * k
  | 0 => rfl
  | k + 1 => by
    rw [List.replicate_succ]
    show (txt ⟨#[]⟩ ++ txts _).size = _
    rw [ByteArray.size_append, txt_size, txts_empties k]
    show 4 + 0 + 4 * k = _
    omega
/-- what comes of so many empty ones -/
def RE (k : Nat) (w : World) (e : Ending) (w' : World) : Prop :=
  ∃ oa n cap f, e = .returned (.tuple #[.slice oa n cap, .int .i64 f]) ∧ (k ≤ 1000 → n = k ∧ f = 0) ∧ (1000 < k → f = 2) ∧ Below w.heap.size w w'
theorem readEmpties (k : Nat) (hk : k ≤ 1200) (w : World) : Calls Try.prog 20 #[.string (listB (List.replicate k ⟨#[]⟩))] w (RE k w) := by
  have hs : ∀ s ∈ List.replicate k (⟨#[]⟩ : ByteArray), s.size ≤ 2147483647 := by
    intro s hs
    rw [(List.mem_replicate.1 hs).2]
    decide
  have hl : (List.replicate k (⟨#[]⟩ : ByteArray)).length = k := List.length_replicate
  have hok := okList_written (List.replicate k ⟨#[]⟩) hs (by omega)
  have hT := (list_read (List.replicate k ⟨#[]⟩) hs (by omega)).2
  rw [hl] at hok
  refine (readList_any _ (by rw [listB_size, txts_empties]; omega) w).mono ?_
  rintro e w' ⟨oa, m, cap, tt, rfl, hm, htt, hst, hB⟩
  refine ⟨oa, m, cap, _, rfl, fun h => ?_, fun h => ?_, hB⟩
  · rw [hok, decide_eq_true h] at htt ⊢
    have e1 : tt = _ := htt.trans hT
    rw [← hm, e1, hl]
    exact ⟨rfl, rfl⟩
  · rw [hok, decide_eq_false (by omega)]
    rfl
theorem txts_le {ss : List ByteArray} {c : Nat} (h : ∀ s ∈ ss, s.size ≤ c) : (txts ss).size ≤ ss.length * (4 + c) := by
  induction ss with
  | nil => exact Nat.zero_le _
  | cons x r ih =>
    have h1 := ih (fun s hs => h s (by simp [hs]))
    have h2 := h x (by simp)
    show (txt x ++ txts r).size ≤ _
    rw [ByteArray.size_append, txt_size, List.length_cons, Nat.add_mul]
    omega

set_option maxRecDepth 100000 in
set_option maxHeartbeats 2000000 in
theorem law_lists (oa : Option Addr) (n cap : Nat) (ss : List ByteArray) (hn : ss.length = n) (hm : n ≤ 9223372036854775807) (hz : ∀ s ∈ ss, s.size ≤ 9223372036854775807) (u : Int) (hu : 0 ≤ u ∧ u ≤ 65535) (w : World) (hc : Strs w oa ss) :
    Calls Try.prog 8 #[.slice oa n cap, .int .u16 u] w fun e w' => e = .returned (.bool true) ∧ Below w.heap.size w w' := by
  obtain ⟨U, rfl⟩ : ∃ U : Nat, u = U := ⟨u.toNat, by omega⟩
  have HC := Lib.hid hc
  have HN := Lib.hid hn
  have HZ := Lib.hid hz
  clear hc hn hz
  by_cases hn40 : n ≤ 40
  · have hn40' : ¬ (40 : Int) < (n : Int) := by omega
    go_enter Try.func8, Try.ntmps8
    go_wp2_with fail
    refine (wawake_any _).mono ?_
    rintro e w1 ⟨rfl, hB1⟩
    go_wp2
    go_loop [5] (fun i => ∃ k : Nat, k ≤ n ∧ i = .int .i64 k ∧ Hid (∀ j, j < k → (ss.getD j ByteArray.empty).size ≤ 100)) (fun i => n - (intOf i).toNat)
    case atStart => exact ⟨0, by omega, rfl, Lib.hid (fun j hj => by omega)⟩
    case round =>
      obtain ⟨k, hk, rfl, HJ⟩ := hrel
      by_cases hlt : k < n
      · have hlt' : (k : Int) < (n : Int) := by omega
        have hkl : k < ss.length := by have := HN.out; omega
        obtain ⟨a, rfl, hab, hc0⟩ := HC.out k hkl
        have hc : w1.cell? (a.add k) = some (.string (ss.getD k ByteArray.empty)) := (hB1.cell (by rw [add_block]; exact hab)).trans hc0
        have hzk : (ss.getD k ByteArray.empty).size ≤ 9223372036854775807 := by
          rw [List.getD_eq_getElem?_getD, List.getElem?_eq_getElem hkl]
          exact HZ.out _ (List.getElem_mem hkl)
        obtain ⟨x, hx⟩ : ∃ x, ss.getD k ByteArray.empty = x := ⟨_, rfl⟩
        rw [hx] at hc hzk
        have HX := Lib.hid hx
        clear hc0 hx
        by_cases hx : x.size ≤ 100
        · have hx' : ¬ (100 : Int) < (x.size : Int) := by omega
          clear hkl
          go_wp2
          go_round
          case rel =>
            refine ⟨k + 1, by omega, by go_num, Lib.hid (fun j hj => ?_)⟩
            by_cases e : j = k
            · subst e; rw [HX.out]; exact hx
            · exact HJ.out j (by omega)
          case measure => simp [intOf]; omega
        · have hx' : (100 : Int) < (x.size : Int) := by omega
          clear hkl hx
          go_wp2
          go_ret
          exact ⟨rfl, hB1⟩
      · obtain rfl : k = n := by omega
        have hall : ∀ s ∈ ss, s.size ≤ 100 := by
          intro s hs
          obtain ⟨j, hj, rfl⟩ := List.mem_iff_getElem.1 hs
          have := HJ.out j (by have := HN.out; omega)
          rw [List.getD_eq_getElem?_getD, List.getElem?_eq_getElem hj] at this
          exact this
        have hts := txts_le hall
        have hts2 : (txts ss).size ≤ 4160 := Nat.le_trans hts (by rw [HN.out]; exact Nat.le_trans (Nat.mul_le_mul_right _ hn40) (by decide))
        have hge : ¬ (k : Int) < (k : Int) := by omega
        have HL := Lib.hid (fun W hW => list_any oa k cap ss HN.out (by omega) (by omega) W hW)
        have HRL := Lib.hid (fun W hW => rlist_any oa k cap ss HN.out (by omega) (by omega) W hW)
        have HBK := Lib.hid (fun W => readBack ss k HN.out (by omega) (fun s hs => Nat.le_trans (hall s hs) (by decide)) (by omega) W)
        obtain ⟨K, hK⟩ : ∃ K, U % 1200 = K := ⟨_, rfl⟩
        have hK2 : K < 1200 := by omega
        have HKU := Lib.hid hK
        have hKU : (U : Int) % 1200 = (K : Int) := by omega
        have hmk := make_strs K (by omega)
        have HL2 := Lib.hid (fun c W hW => list_any c K K (List.replicate K ⟨#[]⟩) List.length_replicate (by rw [txts_empties]; omega) (by omega) W hW)
        have HBE := Lib.hid (fun W => readEmpties K (by omega) W)
        have HSM := Lib.hid (strs_made (k := K))
        generalize listB ss = X at *
        generalize listB (List.replicate K ⟨#[]⟩) = Y at *
        clear hall hts hts2 hlt hK
        go_wp2_with fail
        refine (HL.out _ (HC.out.below hB1)).mono ?_
        rintro e w2 ⟨rfl, hB2⟩
        have hB2' := hB1.trans (hB2.mono hB1.size)
        clear hB1 hB2
        go_wp2_with fail
        refine (HBK.out _).mono ?_
        rintro e w3 ⟨ob, capb, rfl, hsb, hB3⟩
        have hB3' := hB2'.trans (hB3.mono hB2'.size)
        clear hB2' hB3
        go_wp2_with fail
        refine (HL2.out _ _ (HSM.out _)).mono ?_
        rintro e w4 ⟨rfl, hB4⟩
        have hB4' := (hB3'.alloc hB3'.size _).trans (hB4.mono (by have := hB3'.size; simp; omega))
        have hsb4 : Strs w4 ob ss := by
          have : Below w3.heap.size w3 w4 := ((Below.refl _ w3).alloc (Nat.le_refl _) _).trans (hB4.mono (by simp))
          exact hsb.below this
        clear hB3' hB4 hsb hmk
        go_wp2_with fail
        refine (HBE.out _).mono ?_
        rintro e w5 ⟨oc, nc, capc, f, rfl, hf1, hf2, hB5⟩
        have HF1 := Lib.hid hf1
        have HF2 := Lib.hid hf2
        have hB5' := hB4'.trans (hB5.mono hB4'.size)
        have hsb5 := hsb4.below hB5
        clear hB4' hB5 hsb4 hf1 hf2
        go_wp2_with fail
        refine (HL.out _ (HC.out.below hB5')).mono ?_
        rintro e w6 ⟨rfl, hB6⟩
        have hB6' := hB5'.trans (hB6.mono hB5'.size)
        have hsb6 := hsb5.below hB6
        clear hB5' hB6 hsb5
        go_wp2_with fail
        refine (HRL.out _ (HC.out.below hB6')).mono ?_
        rintro e w7 ⟨rfl, hB7⟩
        have hB7' := hB6'.trans (hB7.mono hB6'.size)
        have hsb7 := hsb6.below hB7
        clear hB6' hB7 hsb6
        go_wp2_with fail
        refine (rsame_eq ob oa k capb cap ss HN.out (by omega) _ hsb7 (HC.out.below hB7')).mono ?_
        rintro e w8 ⟨rfl, hB8⟩
        have hB8' := hB7'.trans (hB8.mono hB7'.size)
        clear hB7' hB8 hsb7
        by_cases hK3 : K ≤ 1000
        · obtain ⟨h1, h2⟩ := HF1.out hK3
          subst h1 h2
          go_wp2
          go_ret
          exact ⟨rfl, hB8'⟩
        · have h2 := HF2.out (by omega)
          subst h2
          have HK3 := Lib.hid (show decide ((K : Int) ≤ 1000) = false from decide_eq_false (by omega))
          have hK3' : ¬ (K : Int) ≤ 1000 := by omega
          clear hK3
          go_wp2
          go_ret
          exact ⟨boolEq (by rw [HK3.out]; rfl), hB8'⟩
  · have hn40' : (40 : Int) < (n : Int) := by omega
    go_enter Try.func8, Try.ntmps8
    go_wp2_with fail
    refine (wawake_any _).mono ?_
    rintro e w1 ⟨rfl, hB1⟩
    go_wp2_with fail
    refine (wawake_any _).mono ?_
    rintro e w2 ⟨rfl, hB2⟩
    have hB2' := hB1.trans (hB2.mono hB1.size)
    go_wp2
    go_ret
    exact ⟨rfl, hB2'⟩
end Go.Proofs.Ytfbeakakokhfhaa
