/-
  Few, Leaves: the reference's.
-/
import Derived.Test.YtpapmcdnaplmkaaMRoot
namespace Go.Proofs.Ytpapmcdnaplmkaa
open Go.RowKit

/-- texts of a size that is looked at -/
def fewM (ss : List ByteArray) (k sz : Nat) : Bool := decide (ss.length ≤ k ∧ ∀ i, i < ss.length → i < 300 → (ss.getD i ByteArray.empty).size ≤ sz)
theorem fewM_true {ss : List ByteArray} {k sz : Nat} (hk : k ≤ 300) (h : fewM ss k sz = true) : ss.length ≤ k ∧ ∀ x ∈ ss, x.size ≤ sz := by
  unfold fewM at h
  rw [decide_eq_true_iff] at h
  refine ⟨h.1, fun x hx => ?_⟩
  obtain ⟨i, hi, rfl⟩ := List.getElem_of_mem hx
  have := h.2 i hi (by omega)
  rwa [List.getD_eq_getElem?_getD, List.getElem?_eq_getElem hi] at this
set_option maxRecDepth 100000 in
set_option maxHeartbeats 1000000 in
theorem few_any (oa : Option Addr) (n cap : Nat) (ss : List ByteArray) (hn : ss.length = n) (hm : n ≤ 9223372036854775807) (hsz : ∀ s ∈ ss, s.size ≤ 9223372036854775807) (k sz : Nat) (w : World) (hc : Strs w oa ss) :
    Calls Try.prog 12 #[.slice oa n cap, .int .i64 k, .int .i64 sz] w fun e w' => e = .returned (.bool (fewM ss k sz)) ∧ w' = w := by
  have HN := Lib.hid hn
  have HC := Lib.hid hc
  have HSZ := Lib.hid (show ∀ i, (ss.getD i ByteArray.empty).size ≤ 9223372036854775807 from fun i => by
    rw [List.getD_eq_getElem?_getD]
    cases e : ss[i]? with
    | none => exact Nat.zero_le _
    | some x => exact hsz x (List.mem_of_getElem? e))
  obtain ⟨FM, hFM⟩ : ∃ FM, fewM ss k sz = FM := ⟨_, rfl⟩
  rw [hFM]
  have HFM := Lib.hid hFM
  clear hn hc hsz hFM
  go_enter Try.func12, Try.ntmps12
  go_wp2
  go_loop [7] (fun i => ∃ j : Nat, j ≤ n ∧ j ≤ 300 ∧ i = .int .i64 j ∧ ∀ q, q < j → (ss.getD q ByteArray.empty).size ≤ sz) (fun i => 300 - (intOf i).toNat)
  case atStart => exact ⟨0, by omega, by omega, rfl, fun q hq => absurd hq (by omega)⟩
  case round =>
    obtain ⟨j, hj, hj3, rfl, hall⟩ := hrel
    have HA := Lib.hid hall
    clear hall
    by_cases hlt : j < n ∧ j < 300
    · have hlt1 : (j : Int) < (n : Int) := by omega
      have hlt2 : (j : Int) < 300 := by omega
      obtain ⟨a, rfl, hab, hcell⟩ := HC.out j (by have := HN.out; omega)
      have hxz := HSZ.out j
      by_cases hz : (ss.getD j ByteArray.empty).size ≤ sz
      · have hz' : ¬ (sz : Int) < ((ss.getD j ByteArray.empty).size : Int) := by omega
        have HZ := Lib.hid hz
        clear hz
        obtain ⟨x, hx⟩ : ∃ x, ss.getD j ByteArray.empty = x := ⟨_, rfl⟩
        rw [hx] at hcell hz' hxz HZ
        have HX := Lib.hid hx
        clear hx
        go_wp2
        go_round
        case rel =>
          refine ⟨j + 1, by omega, by omega, by go_num, fun q hq => ?_⟩
          rcases Nat.lt_or_ge q j with h | h
          · exact HA.out q h
          · obtain rfl : q = j := by omega
            rw [HX.out]; exact HZ.out
        case measure => simp [intOf]; omega
      · have hz' : (sz : Int) < ((ss.getD j ByteArray.empty).size : Int) := by omega
        have HF := Lib.hid (show fewM ss k sz = false by
          unfold fewM
          rw [decide_eq_false_iff_not]
          exact fun h => hz (h.2 j (by have := HN.out; omega) hlt.2))
        clear hz
        generalize ss.getD j ByteArray.empty = x at *
        go_wp2
        go_ret
        exact ⟨boolEq (HF.out.symm.trans HFM.out), rfl⟩
    · have HF := Lib.hid (show fewM ss k sz = decide (n ≤ k) by
        unfold fewM
        rw [HN.out]
        refine decide_eq_decide.2 ⟨fun h => by omega, fun h => ⟨by omega, fun i h1 h2 => HA.out i (by omega)⟩⟩)
      by_cases h1 : j < n
      · have h1' : (j : Int) < (n : Int) := by omega
        have h2' : ¬ (j : Int) < 300 := by omega
        go_wp2
        go_ret
        exact ⟨boolEq (HF.out.symm.trans HFM.out), rfl⟩
      · have h1' : ¬ (j : Int) < (n : Int) := by omega
        go_wp2
        go_ret
        exact ⟨boolEq (HF.out.symm.trans HFM.out), rfl⟩

theorem leaves_take (ss : List ByteArray) (k : Nat) (h : k < ss.length) : (ss.take (k + 1)).map leafM = (ss.take k).map leafM ++ [leafM (ss.getD k ByteArray.empty)] := by
  rw [List.take_succ_eq_append_getElem h, List.map_append, List.getD_eq_getElem?_getD, List.getElem?_eq_getElem h]
  rfl
set_option maxRecDepth 100000 in
set_option maxHeartbeats 1000000 in
theorem rleaves_any (oa : Option Addr) (n cap : Nat) (ss : List ByteArray) (hn : ss.length = n) (hm : n ≤ 1048576) (hz : Sz ss) (w : World) (hc : Strs w oa ss) :
    Calls Try.prog 14 #[.slice oa n cap] w (RT (ss.map leafM) w) := by
  have HRT := Lib.hid (show ∀ e w', RT (ss.map leafM) w e w' = ∃ v, e = .returned v ∧ Own w' w.heap.size v (ss.map leafM) ∧ Below w.heap.size w w' from fun _ _ => rfl)
  have HF0 := Lib.hid (show (ss.take 0).map leafM = [] from rfl)
  have HFN := Lib.hid (show (ss.take n).map leafM = ss.map leafM by rw [List.take_of_length_le (by omega)])
  have HFS := Lib.hid (leaves_take ss)
  have HFL := Lib.hid (show ∀ k, k ≤ n → ((ss.take k).map leafM).length = k from fun k hk => by rw [List.length_map, List.length_take]; omega)
  have HJ := Lib.hid (fun (k : Nat) (W : World) => rh4_any (⟨#[0]⟩ ++ ss.getD k ByteArray.empty) (by simp only [ByteArray.size_append]; have := hz.get k; have : (⟨#[0]⟩ : ByteArray).size = 1 := rfl; omega) W)
  change Hid (∀ (k : Nat) W, Calls Try.prog 31 _ W fun e w' => e = .returned (.string (leafM (ss.getD k ByteArray.empty))) ∧ Below W.heap.size W w') at HJ
  have HZ := Lib.hid hz
  have HN := Lib.hid hn
  have HC := Lib.hid hc
  generalize RT (ss.map leafM) w = PO at *
  generalize ss.map leafM = L at *
  generalize hF : (fun k => (ss.take k).map leafM) = F at *
  have hF' : ∀ k, (ss.take k).map leafM = F k := fun k => by rw [← hF]
  simp only [hF'] at HF0 HFN HFS HFL
  clear hF hF' hz hn hc
  go_enter Try.func14, Try.ntmps14
  go_wp2
  go_loopw [3, 4] (fun v i wr => ∃ k : Nat, k ≤ n ∧ i = .int .i64 k ∧ Own wr w.heap.size v (F k) ∧ Below w.heap.size w wr) (fun _ i _ => n - (intOf i).toNat)
  case atStart => exact ⟨0, by omega, rfl, by rw [HF0.out]; exact own_nil _ _, Below.refl _ _⟩
  case round =>
    obtain ⟨k, hk, rfl, hown, hB⟩ := hrel
    by_cases hlt : k < n
    · have hlt' : (k : Int) < (n : Int) := by omega
      have hkl : k < ss.length := by have := HN.out; omega
      obtain ⟨a, rfl, hab, hc0⟩ := HC.out k hkl
      have hc : wr.cell? (a.add k) = some (.string (ss.getD k ByteArray.empty)) := (hB.cell (by rw [add_block]; exact hab)).trans hc0
      have HJK := Lib.hid (HJ.out k)
      have HFK := Lib.hid (HFS.out k hkl)
      have HFKL := Lib.hid (HFL.out k hk)
      have hlen : (F k).length ≤ 1073741824 := by rw [HFL.out k hk]; omega
      have hxz := HZ.out.get k
      have z0 : (⟨#[0]⟩ : ByteArray).size = 1 := rfl
      generalize ss.getD k ByteArray.empty = x at *
      have a1 : ¬ (⟨#[0]⟩ : ByteArray).size + x.size > 9223372036854775807 := by omega
      generalize leafM x = R at *
      clear hc0 hkl z0 hxz hab
      go_wp2_with fail
      refine (HJK.out _).mono ?_
      rintro e w1 ⟨rfl, hb1⟩
      have hown1 := hown.below hb1
      have hB1 := hB.trans (hb1.mono hB.size)
      clear hown hB hb1 hc
      go_wp2_with (at_builtin; refine wpList_append_txt rfl _ _ rfl w.heap.size u3 (F k) rfl hown1 R rfl hlen hB1.size ?_)
      intro g5 c5 w5 hown5 hg5
      rw [HFKL.out, ← HFK.out] at hown5
      have hB5 := hB1.grown hg5 hB1.size (fun z hz => (World.ownsRow.lt hown1 z hz).1)
      clear hown1 hB1 hg5
      rw [HFKL.out]
      go_wp2
      go_roundw
      case rel => exact ⟨k + 1, by omega, by go_num, hown5, hB5⟩
      case measure => simp [intOf]; omega
    · obtain rfl : k = n := by omega
      have hlt' : ¬ (k : Int) < (k : Int) := by omega
      rw [HFN.out] at hown
      clear hlt hk
      go_wp2
      rw [HRT.out]
      exact ⟨_, rfl, hown, hB⟩
end Go.Proofs.Ytpapmcdnaplmkaa
