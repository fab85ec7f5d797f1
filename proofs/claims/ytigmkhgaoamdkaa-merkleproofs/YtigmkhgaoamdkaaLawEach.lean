/-
  The walk of the law MerkleEach.
-/
import Derived.Test.YtigmkhgaoamdkaaMAwake
import Derived.Test.YtigmkhgaoamdkaaMRefU
import Derived.Deep.WholeRow
namespace Go.Proofs.Ytigmkhgaoamdkaa
open Go.RowKit

theorem Own.formc {w : World} {B : Nat} {v : Value} {ss : List ByteArray} (h : Own w B v ss) : ∃ oa cap, v = .slice oa ss.length cap ∧ Strs w oa ss ∧ ss.length ≤ cap := by
  obtain ⟨oa, cap, hv, hs⟩ := h.form
  refine ⟨oa, cap, hv, hs, ?_⟩
  rcases h.2 with ⟨h1, hn⟩ | ⟨g, cap', cur, h1, hg, hk, hc1, _⟩
  · omega
  · rw [h1] at hv
    injection hv with _ _ h3
    omega
theorem sz_leaves (ss : List ByteArray) : Sz (ss.map leafM) := by
  intro x hx
  obtain ⟨y, _, rfl⟩ := List.mem_map.1 hx
  show (hB _).size ≤ _
  rw [hB_size]
  decide
/-- the sizes of a proof's hashes -/
theorem incM_sz {l : List ByteArray} (h : Sz l) (i : Nat) : Sz (incM l i) := by
  induction hn : l.length using Nat.strongRecOn generalizing l i with
  | _ n ih =>
    subst hn
    rw [incM]
    split
    · rename_i h2
      split
      · intro x hx
        rcases List.mem_append.1 hx with hx | hx
        · exact ih _ (kM_lt h2) (h.take _) i (len_take h2) x hx
        · rw [List.mem_singleton] at hx; subst hx; exact rootM_sz (h.drop _)
      · intro x hx
        rcases List.mem_append.1 hx with hx | hx
        · exact ih _ (by have := kM_pos l.length; omega) (h.drop _) _ (len_drop l) x hx
        · rw [List.mem_singleton] at hx; subst hx; exact rootM_sz (h.take _)
    · intro x hx; simp at hx
theorem depth_below (n i : Nat) (hi : i < n) (hn : n ≤ 64) (w : World) : Calls Try.prog 17 #[.int .i64 i, .int .i64 n] w fun e w' => e = .returned (.int .i64 (depM i n : Nat)) ∧ Below w.heap.size w w' :=
  (depth_any n i hi hn w).mono fun _ _ h => ⟨h.1, by rw [h.2]; exact Below.refl _ _⟩
/-- a leaf's own proof is taken -/
theorem included_own (l : List ByteArray) (i n : Nat) (ob : Option Addr) (m cap : Nat) (hn : l.length = n) (hi : i < n) (hn2 : n ≤ 64) (hz : Sz l) (hm : (incM l i).length = m) (hcap : m ≤ cap) (w : World) (hc : Strs w ob (incM l i)) :
    Calls Try.prog 16 #[.agg tabV, .string (l.getD i ByteArray.empty), .int .i64 i, .int .i64 n, .slice ob m cap, .string (rootM l)] w fun e w' => e = .returned (.bool true) ∧ Below w.heap.size w w' := by
  have hd := incM_length l i
  have hle := depM_lt l.length i
  have h := included_in (l.getD i ByteArray.empty) (rootM l) i n ob m cap (incM l i) (hz.get i) hi hn2 hm (by omega) hcap (incM_sz hz i) w hc
  subst hn
  rw [rebM_inc l i hi, decide_eq_true ⟨hd, rfl⟩] at h
  exact h
section
attribute [-go_sem] loadVar
set_option maxRecDepth 100000 in
set_option maxHeartbeats 8000000 in
theorem law_each (oa : Option Addr) (m cap : Nat) (ss : List ByteArray) (hm : ss.length = m) (hm2 : m ≤ 9223372036854775807) (hsz : ∀ s ∈ ss, s.size ≤ 9223372036854775807) (_hcap : m ≤ cap) (w : World) (hc : Strs w oa ss) :
    Calls Try.prog 4 #[.slice oa m cap] w fun e w' => e = .returned (.bool true) ∧ Below w.heap.size w w' := by
  have HA := Lib.hid (fun W => awake4_any W)
  have HMK := Lib.hid (fun W => make_std W)
  have HF : Hid (∀ W, Strs W oa ss → Calls Try.prog 9 #[.slice oa m cap, .int .i64 40, .int .i64 40] W fun e w' => e = .returned (.bool (fewM ss 40 40)) ∧ w' = W) := Lib.hid (fun W hW => few_any oa m cap ss hm hm2 hsz 40 40 W hW)
  have HFT := Lib.hid (show fewM ss 40 40 = true → m ≤ 40 ∧ Sz ss from fun h => by rw [← hm]; exact few_sz (by decide) (by decide) h)
  have HM := Lib.hid hm
  have HC := Lib.hid hc
  have z1 := zeroTable
  clear hsz hc hm
  go_enter Try.func4, Try.ntmps4
  go_wp2_with fail
  refine (HA.out _).mono ?_
  rintro e w3 ⟨rfl, hB3⟩
  have hc3 := HC.out.below hB3
  clear HC
  go_wp2_with fail
  refine (HF.out _ hc3).mono ?_
  rintro e w' ⟨rfl, hw⟩
  rw [hw]
  clear hw
  by_cases hfew : fewM ss 40 40 = true
  · obtain ⟨hm40, hz⟩ := HFT.out hfew
    rw [hfew]
    clear hfew
    have HLV := Lib.hid (fun W hW => rleaves_any oa m cap ss HM.out (by omega) hz W hW)
    have hzl := sz_leaves ss
    have HLL := Lib.hid (show (ss.map leafM).length = m by rw [List.length_map]; exact HM.out)
    generalize ss.map leafM = L at *
    go_wp2_with fail
    refine (HMK.out _).mono ?_
    rintro e w4 ⟨rfl, hb4⟩
    have hc4 := hc3.below hb4
    have hB4 := hB3.trans (hb4.mono hB3.size)
    clear hB3 hb4 hc3
    have hB5 := hB4.alloc hB4.size (.cells tabV 30)
    have hT5 : Blk (w4.alloc (.cells tabV 30)) w4.heap.size 30 tabV := Blk.new _ _ _
    have hc5 := hc4.below ((Below.refl _ w4).alloc (Nat.le_refl _) (.cells tabV 30))
    go_wp2_with (refine wpList_store_row rfl 30 _ _ rfl w4.heap.size tabV rfl rfl 30 zero72 (Blk.new _ _ _) (by rw [tabV_size]; exact infoTable) (by kernel_rfl) (by kernel_rfl) ?_; rw [World.setRow_alloc_new])
    generalize w4.alloc (.cells tabV 30) = w5 at *
    generalize w4.heap.size = gt at *
    clear hB4 hc4 z1
    refine (HLV.out _ hc5).mono ?_
    rintro e w6 ⟨v, rfl, hown, hb6⟩
    obtain ⟨ob, capl, hv, hs6, hcl⟩ := hown.formc
    rw [HLL.out] at hv hcl
    subst hv
    have hB6 := hB5.trans (hb6.mono hB5.size)
    have hT6 := hT5.below hb6 hT5.lt
    have HRO := Lib.hid (fun W hW => mroot_any m ob capl L HLL.out (by omega) hcl hzl W hW)
    have hR6 := tab_run hT6
    clear hown hb6 hB5 hT5 hc5 HLV
    go_wp2_with fail
    refine (HRO.out _ hs6).mono ?_
    rintro e w7 ⟨rfl, hb7⟩
    have hB7 := hB6.trans (hb7.mono hB6.size)
    have hT7 := hT6.below hb7 hT6.lt
    have hs7 := hs6.below hb7
    clear hR6 hB6 hT6 hs6 hb7 HRO
    have HIO := Lib.hid (fun i hi ob' m' cap' hm' hcap' W hW => included_own L i m ob' m' cap' HLL.out hi (by omega) hzl hm' hcap' W hW)
    have HIN := Lib.hid (fun i hi W hW => inclusion_in i ob m capl L HLL.out (by omega) hcl hi hzl W hW)
    have HDP := Lib.hid (fun i hi W => depth_below m i hi (by omega) W)
    have HLEN := Lib.hid (show ∀ i, (incM L i).length = depM i m from fun i => by rw [incM_length, HLL.out])
    have HDL := Lib.hid (fun i => depM_lt m i)
    generalize rootM L = RT0 at *
    go_wp2
    go_loopw [6] (fun i wr => ∃ k : Nat, k ≤ m ∧ i = .int .i64 k ∧ Strs wr ob L ∧ Blk wr gt 30 tabV ∧ Below w.heap.size w wr) (fun i _ => m - (intOf i).toNat)
    case atStart => exact ⟨0, by omega, rfl, hs7, hT7, hB7⟩
    case round =>
      clear hs7 hT7 hB7
      obtain ⟨k, hk, rfl, hs, hT, hB⟩ := hrel
      by_cases hlt : k < m
      · have hlt' : (k : Int) < (m : Int) := by omega
        have hk0 : (0 : Int) ≤ (k : Int) := by omega
        have hR := tab_run hT
        have HINK := Lib.hid (HIN.out k hlt)
        have HIOK := Lib.hid (HIO.out k hlt)
        have HDK := Lib.hid (HDP.out k hlt)
        have HLK := Lib.hid (HLEN.out k)
        have hdl := HDL.out k
        obtain ⟨a, rfl, hab, hcell⟩ := hs k (by rw [HLL.out]; exact hlt)
        generalize incM L k = P at *
        go_wp2_with fail
        refine (HINK.out _ hs).mono ?_
        rintro e w8 ⟨v, rfl, hown, hb8⟩
        obtain ⟨oc, capp, hv, hp8, hcp⟩ := hown.formc
        rw [HLK.out] at hv hcp
        subst hv
        have HINC := Lib.hid (fun W hW => HIOK.out oc (depM k m) capp HLK.out hcp W hW)
        generalize depM k m = d at *
        have hB8 := hB.trans (hb8.mono hB.size)
        have hT8 := hT.below hb8 hT.lt
        have hs8 := hs.below hb8
        have hc8 := (hb8.cell (p := a.add k) (by rw [add_block]; exact hab)).trans hcell
        have hab8 : a.block < w8.heap.size := Nat.lt_of_lt_of_le hab hb8.size
        generalize L.getD k ByteArray.empty = x at *
        have HP8 := Lib.hid hp8
        have HKP : Hid (∀ W, Below w8.heap.size w8 W → ((loadVar 30 ⟨gt, 0, none⟩).run Try.prog W = .ok (.agg tabV) W ∧ (loadVar 9 (a.add k)).run Try.prog W = .ok (.string x) W) ∧ Below w8.heap.size w8 W) :=
          Lib.hid fun W hW => ⟨⟨tab_run (hT8.below hW hT8.lt), txt_load ((hW.cell (by rw [add_block]; exact hab8)).trans hc8)⟩, hW⟩
        have HT8 := Lib.hid hT8
        have HS8 := Lib.hid hs8
        have hdm : d ≤ 9223372036854775807 := by omega
        clear hown hp8 hb8 hB hT hs hcell hc8 hR hab hab8 hT8 hs8 HINK HIOK
        go_wp2
        go_region_held3 (fun w' => ((loadVar 30 ⟨gt, 0, none⟩).run Try.prog w' = .ok (.agg tabV) w' ∧ (loadVar 9 (a.add k)).run Try.prog w' = .ok (.string x) w') ∧ Below w8.heap.size w8 w')
          ((refine HKP.out _ ?_; first | exact hB10' | exact hB9' | exact (Below.refl _ _).drew | exact Below.refl _ _))
          (first
            | (have := hB9'; go_at_call 17; refine (HDK.out _).mono ?_; rintro e w10 ⟨rfl, hb10⟩; have hB10' : Below w8.heap.size w8 w10 := hB9'.trans (hb10.mono hB9'.size))
            | (go_at_call 16; refine (HINC.out _ (HP8.out.below (Below.refl _ _).drew)).mono ?_; rintro e w9 ⟨rfl, hb9⟩; have hB9' : Below w8.heap.size w8 w9 := (Below.refl _ _).drew.trans hb9))
        have hB10 := hB8.trans (hB10'.mono hB8.size)
        have hT10 := HT8.out.below hB10' HT8.out.lt
        have hs10 := HS8.out.below hB10'
        clear hB8 hB10' hB9' hb9 hb10 HKP HP8 HT8 HS8 HINC HDK
        rename_i hHeld
        clear hHeld
        go_wp2
        go_roundw
        case rel => exact ⟨k + 1, by omega, by go_num, hs10, hT10, hB10⟩
        case measure => simp [intOf]; omega
      · have hlt' : ¬ (k : Int) < (m : Int) := by omega
        go_wp2
        go_ret
        exact ⟨rfl, hB⟩
  · rw [Bool.not_eq_true] at hfew
    rw [hfew]
    clear hfew
    go_wp2_with fail
    refine (HA.out _).mono ?_
    rintro e w4 ⟨rfl, hb4⟩
    have hB4 := hB3.trans (hb4.mono hB3.size)
    clear hB3 hb4
    go_wp2
    go_ret
    exact ⟨rfl, hB4⟩
end
end Go.Proofs.Ytigmkhgaoamdkaa
