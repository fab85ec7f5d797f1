/-
  The walk of the law MerkleChain.
-/
import Derived.Test.YtigmkhgaoamdkaaLawEach
import Derived.Test.YtigmkhgaoamdkaaLoads
namespace Go.Proofs.Ytigmkhgaoamdkaa
open Go.RowKit

/-- the sizes of a proof's hashes -/
theorem conM_sz {l : List ByteArray} (h : Sz l) (m : Nat) (b : Bool) : Sz (conM l m b) := by
  induction hn : l.length using Nat.strongRecOn generalizing l m b with
  | _ n ih =>
    subst hn
    rw [conM]
    split
    · split
      · intro x hx; simp at hx
      · intro x hx; rw [List.mem_singleton] at hx; subst hx; exact rootM_sz h
    · split
      · rename_i h2
        split
        · intro x hx
          rcases List.mem_append.1 hx with hx | hx
          · exact ih _ (kM_lt h2) (h.take _) m b (len_take h2) x hx
          · rw [List.mem_singleton] at hx; subst hx; exact rootM_sz (h.drop _)
        · intro x hx
          rcases List.mem_append.1 hx with hx | hx
          · exact ih _ (by have := kM_pos l.length; omega) (h.drop _) _ _ (len_drop l) x hx
          · rw [List.mem_singleton] at hx; subst hx; exact rootM_sz (h.take _)
      · intro x hx; simp at hx
/-- a beginning's own proof is taken -/
theorem consistent_own (l : List ByteArray) (m n : Nat) (ob : Option Addr) (q cap : Nat) (hn : l.length = n) (hm1 : 1 ≤ m) (hmn : m ≤ n) (hn2 : n ≤ 64) (hz : Sz l) (hq : (conM l m true).length = q) (hcap : q ≤ cap) (w : World) (hc : Strs w ob (conM l m true)) :
    Calls Try.prog 13 #[.agg tabV, .int .i64 m, .int .i64 n, .string (rootM (l.take m)), .string (rootM l), .slice ob q cap] w fun e w' => e = .returned (.bool true) ∧ Below w.heap.size w w' := by
  have hd := conM_length l m true
  have hle := lenM_le l.length m true
  have h := consistent_in (rootM (l.take m)) (rootM l) m n ob q cap (conM l m true) (rootM_sz (hz.take m)) hm1 hmn hn2 hq (by omega) hcap (conM_sz hz m true) w hc
  subst hn
  rw [botM_con l m true _ hm1 hmn (fun _ => rfl), decide_eq_true ⟨hd, rfl, rfl⟩] at h
  exact h
def at3 (a b c : Nat) (i : Nat) : Nat := [a, b, c].getD i 0
theorem at3_le {a b c : Nat} (ha : a ≤ 255) (hb : b ≤ 255) (hc : c ≤ 255) (i : Nat) : at3 a b c i ≤ 255 := by
  unfold at3
  match i with
  | 0 => exact ha
  | 1 => exact hb
  | 2 => exact hc
  | _ + 3 => exact Nat.zero_le _
theorem at3_cell {w : World} {g : Nat} {t : TypeId} {a b c : Nat} (h : Blk w g t #[.int .u8 (a : Nat), .int .u8 (b : Nat), .int .u8 (c : Nat)]) {i : Nat} (hi : i < 3) : w.cell? ⟨g, i, none⟩ = some (.int .u8 (at3 a b c i : Nat)) := by
  rw [h.cell]
  match i, hi with
  | 0, _ => rfl
  | 1, _ => rfl
  | 2, _ => rfl
section
attribute [-go_sem] loadVar
set_option maxRecDepth 100000 in
set_option maxHeartbeats 8000000 in
theorem law_chain (oa : Option Addr) (m cap : Nat) (ss : List ByteArray) (hm : ss.length = m) (hm2 : m ≤ 9223372036854775807) (hsz : ∀ s ∈ ss, s.size ≤ 9223372036854775807) (_hcap : m ≤ cap)
    (a b c : Int) (hab : (0 ≤ a ∧ a ≤ 255) ∧ (0 ≤ b ∧ b ≤ 255) ∧ (0 ≤ c ∧ c ≤ 255)) (w : World) (hc : Strs w oa ss) :
    Calls Try.prog 3 #[.slice oa m cap, .agg #[.int .u8 a, .int .u8 b, .int .u8 c]] w fun e w' => e = .returned (.bool true) ∧ Below w.heap.size w w' := by
  obtain ⟨a, rfl⟩ : ∃ n : Nat, a = n := ⟨a.toNat, by omega⟩
  obtain ⟨b, rfl⟩ : ∃ n : Nat, b = n := ⟨b.toNat, by omega⟩
  obtain ⟨c, rfl⟩ : ∃ n : Nat, c = n := ⟨c.toNat, by omega⟩
  have HA3 := Lib.hid (fun i => at3_le (a := a) (b := b) (c := c) (by omega) (by omega) (by omega) i)
  have HA := Lib.hid (fun W => awake4_any W)
  have HMK := Lib.hid (fun W => make_std W)
  have HF : Hid (∀ W, Strs W oa ss → Calls Try.prog 9 #[.slice oa m cap, .int .i64 64, .int .i64 40] W fun e w' => e = .returned (.bool (fewM ss 64 40)) ∧ w' = W) := Lib.hid (fun W hW => few_any oa m cap ss hm hm2 hsz 64 40 W hW)
  have HFT := Lib.hid (show fewM ss 64 40 = true → m ≤ 64 ∧ Sz ss from fun h => by rw [← hm]; exact few_sz (by decide) (by decide) h)
  have HM := Lib.hid hm
  have hB0 := (Below.refl _ w).alloc (Nat.le_refl _) (.cells #[.int .u8 (a : Nat), .int .u8 (b : Nat), .int .u8 (c : Nat)] 23)
  have hX : Blk (w.alloc (.cells #[.int .u8 (a : Nat), .int .u8 (b : Nat), .int .u8 (c : Nat)] 23)) w.heap.size 23 #[.int .u8 (a : Nat), .int .u8 (b : Nat), .int .u8 (c : Nat)] := Blk.new _ _ _
  have hc0 := hc.below hB0
  have z1 := zeroTable
  clear hsz hc hm hab
  go_enter Try.func3, Try.ntmps3
  go_wp2_with fail
  generalize w.alloc (.cells #[.int .u8 (a : Nat), .int .u8 (b : Nat), .int .u8 (c : Nat)] 23) = w0 at *
  obtain ⟨B, hBB⟩ : ∃ B, w.heap.size = B := ⟨_, rfl⟩
  rw [hBB] at hX ⊢
  have HBB := Lib.hid hBB
  clear hBB
  refine (HA.out _).mono ?_
  rintro e w3 ⟨rfl, hb3⟩
  have hc3 := hc0.below hb3
  have hX3 := hX.below hb3 hX.lt
  have hB3 := hB0.trans (hb3.mono hB0.size)
  clear hc0 hX hB0 hb3
  go_wp2_with fail
  refine (HF.out _ hc3).mono ?_
  rintro e w' ⟨rfl, hw⟩
  rw [hw]
  clear hw
  by_cases hfew : fewM ss 64 40 = true
  · obtain ⟨hm64, hz⟩ := HFT.out hfew
    rw [hfew]
    clear hfew
    by_cases h0 : m = 0
    · have h0' : ((m : Int) == 0) = true := by rw [beq_iff_eq]; omega
      go_wp2_with fail
      refine (HA.out _).mono ?_
      rintro e w4 ⟨rfl, hb4⟩
      have hB4 := hB3.trans (hb4.mono hB3.size)
      clear hB3 hb4
      go_wp2
      go_ret
      exact ⟨rfl, hB4⟩
    · have h0' : ((m : Int) == 0) = false := by rw [beq_eq_false_iff_ne]; omega
      have HLV := Lib.hid (fun W hW => rleaves_any oa m cap ss HM.out (by omega) hz W hW)
      have hzl := sz_leaves ss
      have HLL := Lib.hid (show (ss.map leafM).length = m by rw [List.length_map]; exact HM.out)
      generalize ss.map leafM = L at *
      go_wp2_with fail
      refine (HMK.out _).mono ?_
      rintro e w4 ⟨rfl, hb4⟩
      have hc4 := hc3.below hb4
      have hX4 := hX3.below hb4 hX3.lt
      have hB4 := hB3.trans (hb4.mono hB3.size)
      clear hB3 hb4 hc3 hX3
      have hB5 := hB4.alloc hB4.size (.cells tabV 30)
      have hT5 : Blk (w4.alloc (.cells tabV 30)) w4.heap.size 30 tabV := Blk.new _ _ _
      have hX5 := hX4.alloc (.cells tabV 30)
      have hc5 := hc4.below ((Below.refl _ w4).alloc (Nat.le_refl _) (.cells tabV 30))
      go_wp2_with (refine wpList_store_row rfl 30 _ _ rfl w4.heap.size tabV rfl rfl 30 zero72 (Blk.new _ _ _) (by rw [tabV_size]; exact infoTable) (by kernel_rfl) (by kernel_rfl) ?_; rw [World.setRow_alloc_new])
      generalize w4.alloc (.cells tabV 30) = w5 at *
      generalize w4.heap.size = gt at *
      clear hB4 hc4 z1 hX4
      refine (HLV.out _ hc5).mono ?_
      rintro e w6 ⟨v, rfl, hown, hb6⟩
      obtain ⟨ob, capl, hv, hs6, hcl⟩ := hown.formc
      rw [HLL.out] at hv hcl
      subst hv
      have hB6 := hB5.trans (hb6.mono hB5.size)
      have hT6 := hT5.below hb6 hT5.lt
      have hX6 := hX5.below hb6 hX5.lt
      clear hown hb6 hB5 hT5 hc5 HLV hX5
      go_wp2
      go_loopw [7] (fun i wr => ∃ j : Nat, j ≤ 3 ∧ i = .int .i64 j ∧ Strs wr ob L ∧ Blk wr gt 30 tabV ∧ Blk wr B 23 #[.int .u8 (a : Nat), .int .u8 (b : Nat), .int .u8 (c : Nat)] ∧ Below w.heap.size w wr) (fun i _ => 3 - (intOf i).toNat)
      case atStart => exact ⟨0, by omega, rfl, hs6, hT6, hX6, hB6⟩
      case round =>
        clear hs6 hT6 hX6 hB6
        obtain ⟨j, hj, rfl, hs, hT, hX, hB⟩ := hrel
        by_cases hlt : j < 3
        · have hlt' : (j : Int) < 3 := by omega
          go_wp2
          go_loopw [8] (fun i wr => ∃ k : Nat, k ≤ 3 ∧ i = .int .i64 k ∧ Strs wr ob L ∧ Blk wr gt 30 tabV ∧ Blk wr B 23 #[.int .u8 (a : Nat), .int .u8 (b : Nat), .int .u8 (c : Nat)] ∧ Below w.heap.size w wr) (fun i _ => 3 - (intOf i).toNat)
          case atStart => exact ⟨0, by omega, rfl, hs, hT, hX, hB⟩
          case round =>
            clear hs hT hX hB
            obtain ⟨k, hk, rfl, hs, hT, hX, hB⟩ := hrel
            by_cases hltk : k < 3
            · have hltk' : (k : Int) < 3 := by omega
              have hj0 : (0 : Int) ≤ (j : Int) := by omega
              have hk0 : (0 : Int) ≤ (k : Int) := by omega
              have c1 := at3_cell hX hlt
              have c2 := at3_cell hX hltk
              have z1 := HA3.out j
              have z2 := HA3.out k
              generalize at3 a b c j = p at *
              generalize at3 a b c k = q at *
              obtain ⟨p1, hp1⟩ : ∃ p1, p % m = p1 := ⟨_, rfl⟩
              obtain ⟨q1, hq1⟩ : ∃ q1, q % m = q1 := ⟨_, rfl⟩
              have hpm : p1 < m := by rw [← hp1]; exact Nat.mod_lt _ (by omega)
              have hqm : q1 < m := by rw [← hq1]; exact Nat.mod_lt _ (by omega)
              have e1 : (p : Int).tmod (m : Int) = (p1 : Int) := by rw [Int.tmod_eq_emod_of_nonneg (by omega), ← hp1]; rfl
              have e2 : (q : Int).tmod (m : Int) = (q1 : Int) := by rw [Int.tmod_eq_emod_of_nonneg (by omega), ← hq1]; rfl
              have e3 : IntKind.i64.wrap (p : Int) = (p : Int) := by rw [IntKind.wrap_i64]; omega
              have e4 : IntKind.i64.wrap (q : Int) = (q : Int) := by rw [IntKind.wrap_i64]; omega
              obtain ⟨mm, hmm⟩ : ∃ mm, p1 + 1 = mm := ⟨_, rfl⟩
              obtain ⟨nn, hnn⟩ : ∃ nn, q1 + 1 = nn := ⟨_, rfl⟩
              have e5 : IntKind.i64.wrap (1 + (p1 : Int)) = (mm : Int) := by rw [IntKind.wrap_i64]; omega
              have e6 : IntKind.i64.wrap (1 + (q1 : Int)) = (nn : Int) := by rw [IntKind.wrap_i64]; omega
              have hm1 : 1 ≤ mm := by omega
              have hmL : mm ≤ m := by omega
              have hnL : nn ≤ m := by omega
              clear hmm hnn
              have hm0 : (m : Int) ≠ 0 := by omega
              clear hp1 hq1
              have HKP : Hid (∀ W, Below wr.heap.size wr W → ((loadVar 5 ⟨B, j, none⟩).run Try.prog W = .ok (.int .u8 p) W ∧ (loadVar 5 ⟨B, k, none⟩).run Try.prog W = .ok (.int .u8 q) W) ∧ Below wr.heap.size wr W) :=
                Lib.hid fun W hW => ⟨⟨byte_load ((hW.cell (p := ⟨B, j, none⟩) hX.lt).trans c1), byte_load ((hW.cell (p := ⟨B, k, none⟩) hX.lt).trans c2)⟩, hW⟩
              have HS := Lib.hid hs
              have HT := Lib.hid hT
              have HX := Lib.hid hX
              have HB := Lib.hid hB
              clear hs hT hX hB c1 c2
              go_wp2
              go_region_held3 (fun w' => ((loadVar 5 ⟨B, j, none⟩).run Try.prog w' = .ok (.int .u8 p) w' ∧ (loadVar 5 ⟨B, k, none⟩).run Try.prog w' = .ok (.int .u8 q) w') ∧ Below wr.heap.size wr w')
                ((refine HKP.out _ ?_; first | exact (Below.refl _ _).drew | exact Below.refl _ _))
                (fail)
              have hbd : Below wr.heap.size wr wr.drew := (Below.refl _ _).drew
              have hs8 := HS.out.below hbd
              have hT8 := HT.out.below hbd HT.out.lt
              have hX8 := HX.out.below hbd HX.out.lt
              have hB8 := HB.out.trans (hbd.mono HB.out.size)
              rename_i hHeld
              clear hHeld HKP hbd HS HT HX HB e1 e2 e3 e4 e5 e6
              generalize wr.drew = w8 at *
              by_cases hgt : nn < mm
              · have hgt' : (nn : Int) < (mm : Int) := by omega
                go_wp2
                go_roundw
                case rel => exact ⟨k + 1, by omega, by go_num, hs8, hT8, hX8, hB8⟩
                case measure => simp [intOf]; omega
              · have hgt' : ¬ (nn : Int) < (mm : Int) := by omega
                have hlen : (L.take nn).length = nn := by rw [List.length_take, HLL.out]; omega
                have hlen2 : (L.take mm).length = mm := by rw [List.length_take, HLL.out]; omega
                have htt : (L.take nn).take mm = L.take mm := by rw [List.take_take, Nat.min_eq_left (by omega)]
                have HCY := Lib.hid (fun W hW => consistency_in mm ob nn capl (L.take nn) hlen (by omega) (by omega) hm1 (by omega) (hzl.take _) W hW)
                have HR1 := Lib.hid (fun W hW => mroot_any mm ob capl (L.take mm) hlen2 (by omega) (by omega) (hzl.take _) W hW)
                have HR2 := Lib.hid (fun W hW => mroot_any nn ob capl (L.take nn) hlen (by omega) (by omega) (hzl.take _) W hW)
                have HCO := Lib.hid (fun oc pl pcap hq hcp W hW => consistent_own (L.take nn) mm nn oc pl pcap hlen hm1 (by omega) (by omega) (hzl.take _) hq hcp W hW)
                rw [htt] at HCO
                have hsl1 := slice_to ob m capl mm (by omega)
                have hsl2 := slice_to ob m capl nn (by omega)
                have HS1 := Lib.hid (hs8.take mm)
                have HS2 := Lib.hid (hs8.take nn)
                have HS8 := Lib.hid hs8
                have HT8 := Lib.hid hT8
                have HX8 := Lib.hid hX8
                have HPL := Lib.hid (show (conM (L.take nn) mm true).length ≤ 1073741824 by rw [conM_length, hlen]; have := lenM_le nn mm true; omega)
                generalize conM (L.take nn) mm true = P at *
                generalize rootM (L.take mm) = R1 at *
                generalize rootM (L.take nn) = R2 at *
                generalize L.take mm = L1 at *
                generalize L.take nn = L2 at *
                have HKP : Hid (∀ W, Below w8.heap.size w8 W → (loadVar 30 ⟨gt, 0, none⟩).run Try.prog W = .ok (.agg tabV) W ∧ Below w8.heap.size w8 W) := Lib.hid fun W hW => ⟨tab_run (hT8.below hW hT8.lt), hW⟩
                clear hs8 hT8 hX8 htt hlen hlen2
                go_wp2
                go_region_held3 (fun w' => (loadVar 30 ⟨gt, 0, none⟩).run Try.prog w' = .ok (.agg tabV) w' ∧ Below w8.heap.size w8 w')
                  ((refine HKP.out _ ?_; first | exact hB9' | exact (Below.refl _ _).drew | exact Below.refl _ _))
                  (first | (go_at_call 12; refine (HCY.out _ (HS2.out.below (Below.refl _ _).drew)).mono ?_; rintro e w9 ⟨v, rfl, hown, hb9⟩; have hB9' : Below w8.heap.size w8 w9 := (Below.refl _ _).drew.trans hb9))
                rename_i hHeld
                clear hHeld
                obtain ⟨oc, capp, hv, hp9, hcp⟩ := hown.formc
                subst hv
                have HIN := Lib.hid (fun W hW => HCO.out oc P.length capp rfl hcp W hW)
                have hpl := HPL.out
                generalize P.length = d at *
                have HP9 := Lib.hid hp9
                have HS1b := Lib.hid (HS1.out.below hB9')
                have HS2b := Lib.hid (HS2.out.below hB9')
                have HS9 := Lib.hid (HS8.out.below hB9')
                have HT9 := Lib.hid (HT8.out.below hB9' HT8.out.lt)
                have HX9 := Lib.hid (HX8.out.below hB9' HX8.out.lt)
                have hB9 := hB8.trans (hB9'.mono hB8.size)
                have HKP2 : Hid (∀ W, Below w9.heap.size w9 W → (loadVar 30 ⟨gt, 0, none⟩).run Try.prog W = .ok (.agg tabV) W ∧ Below w9.heap.size w9 W) := Lib.hid fun W hW => ⟨tab_run (HT9.out.below hW HT9.out.lt), hW⟩
                clear hown hb9 hB9' hB8 hp9 HCO HCY HPL HKP HS1 HS2 HS8 HT8 HX8
                go_wp2
                go_region_held3 (fun w' => (loadVar 30 ⟨gt, 0, none⟩).run Try.prog w' = .ok (.agg tabV) w' ∧ Below w9.heap.size w9 w')
                  ((refine HKP2.out _ ?_; first | exact hB12' | exact hB11' | exact hB10' | exact (Below.refl _ _).drew | exact Below.refl _ _))
                  (first
                    | (have := hB11'; go_at_call 13; refine (HIN.out _ (HP9.out.below hB11')).mono ?_; rintro e w12 ⟨rfl, hb12⟩; have hB12' : Below w9.heap.size w9 w12 := hB11'.trans (hb12.mono hB11'.size))
                    | (have := hB10'; go_at_call 14; refine (HR2.out _ (HS2b.out.below hB10')).mono ?_; rintro e w11 ⟨rfl, hb11⟩; have hB11' : Below w9.heap.size w9 w11 := hB10'.trans (hb11.mono hB10'.size))
                    | (go_at_call 14; refine (HR1.out _ (HS1b.out.below (Below.refl _ _).drew)).mono ?_; rintro e w10 ⟨rfl, hb10⟩; have hB10' : Below w9.heap.size w9 w10 := (Below.refl _ _).drew.trans hb10))
                have hs12 := HS9.out.below hB12'
                have hT12 := HT9.out.below hB12' HT9.out.lt
                have hX12 := HX9.out.below hB12' HX9.out.lt
                have hB12 := hB9.trans (hB12'.mono hB9.size)
                rename_i hHeld2
                clear hB12' hB11' hB10' hb10 hb11 hb12 HKP2 HIN HP9 HS1b HS2b HS9 HT9 HX9 hHeld2
                go_wp2
                go_roundw
                case rel => exact ⟨k + 1, by omega, by go_num, hs12, hT12, hX12, hB12⟩
                case measure => simp [intOf]; omega
            · have hltk' : ¬ (k : Int) < 3 := by omega
              go_wp2
              go_roundw
              case rel => exact ⟨j + 1, by omega, by go_num, hs, hT, hX, hB⟩
              case measure => simp [intOf]; omega
        · have hlt' : ¬ (j : Int) < 3 := by omega
          go_wp2
          go_ret
          exact ⟨rfl, hB⟩
  · rw [Bool.not_eq_true] at hfew
    rw [hfew]
    clear hfew
    go_wp2_with fail
    refine (HA.out _).mono ?_
    rintro e w4 ⟨rfl, hb4⟩
    have hB4 := hB3.trans (hb4.mono hB3.size)
    clear hB3 hb4
    go_wp2
    go_ret
    exact ⟨rfl, hB4⟩
end
end Go.Proofs.Ytigmkhgaoamdkaa
