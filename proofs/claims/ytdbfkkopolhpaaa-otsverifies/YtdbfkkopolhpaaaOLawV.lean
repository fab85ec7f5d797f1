/-
  The walk of the law OtsVerifies.
-/
import Derived.Test.YtdbfkkopolhpaaaOLawK
import Derived.StillTailTactics
namespace Go.Proofs.Ytdbfkkopolhpaaa
open Go.RowKit

theorem front_low {p m s : ByteArray} (h : verB p m s = true) : s.size = 2244 ∧ (nums s).getD 3 0 = frontB s := by
  obtain ⟨h1, h2, _⟩ := of_decide_eq_true h
  refine ⟨h1, ?_⟩
  unfold frontB at h2 ⊢
  omega
/-- []byte(s): its cells may be written -/
theorem run_bytes_row {P : Program} (w : World) (src dst e : TypeId) (s : ByteArray) (hs : P.underlying src = some .string) (hd : P.underlying dst = some (.slice e)) (he : P.underlying e = some (.int .u8)) :
    ∃ w' cap, (convert src dst (.string s)).run P w = .ok (.slice (some ⟨w.heap.size, 0, none⟩) s.size cap) w' ∧ s.size ≤ cap ∧ (∀ j, j < s.size → w'.cell? ⟨w.heap.size, j, none⟩ = some (U8 ((nums s).getD j 0)) ∧ w'.frozen? ⟨w.heap.size, j, none⟩ = false) ∧ w.heap.size < w'.heap.size ∧ Below w.heap.size w w' := by
  refine ⟨_, _, run_bytes_of_string (P := P) w src dst e s hs hd he, grownCap_ge w s.size 0 e, ?_, by show w.heap.size < (w.heap.push _).size; simp, ((Below.refl _ w).drew).alloc (Nat.le_refl _) _⟩
  have hge := grownCap_ge w s.size 0 e
  generalize grownCap w s.size 0 e = cap at *
  have hsz : (bytesRow s cap).size = cap := by simp [bytesRow]; omega
  have hblk : (w.drew.alloc (.cells (bytesRow s cap) e ((bytesRow s cap).size, (bytesRow s cap).size + 1))).heap[w.heap.size]? = some (.cells (bytesRow s cap) e ((bytesRow s cap).size, (bytesRow s cap).size + 1)) := heap_alloc_new w.drew _
  rw [hsz] at hblk ⊢
  have hcell : ∀ j, (w.drew.alloc (.cells (bytesRow s cap) e (cap, cap + 1))).cell? ⟨w.heap.size, j, none⟩ = (bytesRow s cap)[j]? := fun j => cell_of_row _ _ _ _ _ _ hblk
  intro j hj
  constructor
  · rw [hcell]
    unfold bytesRow
    rw [Array.getElem?_append_left (by simpa using hj)]
    simp [nums, U8, List.getD_eq_getElem?_getD, hj]
  · simp only [World.frozen?, hblk]
    simp
    omega
/-- the bytes, one of them otherwise -/
def bentB (s : ByteArray) (i y : Nat) : ByteArray := strN ((nums s).set i y)
theorem bentB_size (s : ByteArray) (i y : Nat) : (bentB s i y).size = s.size := by unfold bentB; rw [strN_size, List.length_set, nums_length]
theorem conv_bent (w : World) (g cap i y : Nat) (s : ByteArray) (hi : i < s.size) (hc : ∀ j, j < s.size → w.cell? ⟨g, j, none⟩ = some (U8 ((nums s).getD j 0))) (W : World) (hW : w.setCell ⟨g, i, none⟩ (.int .u8 (y : Int)) = W) :
    (convert 47 9 (.slice (some ⟨g, 0, none⟩) s.size cap)).run Try.prog W = .ok (.string (bentB s i y)) W := by
  subst hW
  have hl : ((nums s).set i y).length = s.size := by rw [List.length_set, nums_length]
  have := conv_cells (P := Try.prog) (w.setCell ⟨g, i, none⟩ (.int .u8 (y : Int))) 47 5 9 Try.underlying47 Try.underlying5 Try.underlying9 g cap ((nums s).set i y) (fun j hj => by
    rw [hl] at hj
    by_cases e : i = j
    · subst e
      rw [World.cell?_setCell_same' w ⟨g, i, none⟩ (.int .u8 (y : Int)) (by rw [hc i hi]; rfl), List.getD_eq_getElem?_getD, List.getElem?_set_self (by rw [nums_length]; exact hi)]
      rfl
    · rw [World.cell?_setCell_other _ _ _ _ (by intro h; injection h with _ h2; exact e h2), hc j hj, List.getD_eq_getElem?_getD, List.getD_eq_getElem?_getD, List.getElem?_set_ne e])
  rw [hl] at this
  exact this
theorem xor_byte (a : Nat) (ha : a < 256) (b : Nat) (hb : b < 256) : ∃ y : Nat, bits .xor .u8 (a : Int) (b : Int) = (y : Int) ∧ y < 256 :=
  ⟨a ^^^ b, u8_xor_nat a b ha hb, Nat.xor_lt_two_pow (n := 8) ha hb⟩
theorem half_load {w : World} {p : Addr} {x : Int} (h : w.cell? p = some (.int .u16 x)) : (loadVar 45 p).run Try.prog w = .ok (.int .u16 x) w := by
  go_simp

set_option maxRecDepth 100000 in
set_option maxHeartbeats 4000000 in
theorem law_verifies (seed : ByteArray) (hs : seed.size ≤ 9223372036854775807) (m0 m1 : ByteArray) (hm : m0.size ≤ 9223372036854775807 ∧ m1.size ≤ 9223372036854775807) (x0 x1 x2 : Int) (hx : (0 ≤ x0 ∧ x0 ≤ 65535) ∧ (0 ≤ x1 ∧ x1 ≤ 65535) ∧ (0 ≤ x2 ∧ x2 ≤ 65535)) (w : World) :
    Calls Try.prog 6 #[.string seed, .agg #[.string m0, .string m1], .agg #[.int .u16 x0, .int .u16 x1, .int .u16 x2]] w fun e w' => e = .returned (.bool true) ∧ Below w.heap.size w w' := by
  obtain ⟨hm0, hm1⟩ := hm
  obtain ⟨n0, rfl⟩ : ∃ n : Nat, x0 = n := ⟨x0.toNat, by omega⟩
  obtain ⟨n1, rfl⟩ : ∃ n : Nat, x1 = n := ⟨x1.toNat, by omega⟩
  obtain ⟨n2, rfl⟩ : ∃ n : Nat, x2 = n := ⟨x2.toNat, by omega⟩
  have hn0 : n0 ≤ 65535 := by omega
  have hn1 : n1 ≤ 65535 := by omega
  have hn2 : n2 ≤ 65535 := by omega
  have hB0 := ((Below.refl _ w).alloc (Nat.le_refl _) (.cells #[.string m0, .string m1] 22)).alloc (by simp) (.cells #[.int .u16 n0, .int .u16 n1, .int .u16 n2] 46)
  have hM : Blk ((w.alloc (.cells #[.string m0, .string m1] 22)).alloc (.cells #[.int .u16 n0, .int .u16 n1, .int .u16 n2] 46)) w.heap.size 22 #[.string m0, .string m1] := (Blk.new _ _ _).alloc _
  have hX : Blk ((w.alloc (.cells #[.string m0, .string m1] 22)).alloc (.cells #[.int .u16 n0, .int .u16 n1, .int .u16 n2] 46)) (w.heap.size + 1) 46 #[.int .u16 n0, .int .u16 n1, .int .u16 n2] := Blk.new_at (by simp)
  go_enter Try.func6, Try.ntmps6
  go_wp2
  generalize (w.alloc (.cells #[.string m0, .string m1] 22)).alloc (.cells #[.int .u16 n0, .int .u16 n1, .int .u16 n2] 46) = w0 at *
  obtain ⟨B, hBB⟩ : ∃ B, w.heap.size = B := ⟨_, rfl⟩
  rw [hBB] at hB0 hM hX ⊢
  have HBB := Lib.hid hBB
  have HKP : Hid (∀ W, Below w0.heap.size w0 W → (W.cell? ⟨B, 0, none⟩ = some (.string m0) ∧ W.cell? ⟨B, 1, none⟩ = some (.string m1)) ∧ Below w0.heap.size w0 W) :=
    Lib.hid fun W hW => ⟨⟨cell2 (hM.below hW hM.lt) (show 0 < 2 by decide), cell2 (hM.below hW hM.lt) (show 1 < 2 by decide)⟩, hW⟩
  clear hBB
  go_region_held3 (fun w' => (w'.cell? ⟨B, 0, none⟩ = some (.string m0) ∧ w'.cell? ⟨B, 1, none⟩ = some (.string m1)) ∧ Below w0.heap.size w0 w')
    ((refine HKP.out _ ?_; first | exact (Below.refl _ _).drew | exact Below.refl _ _))
    (fail)
  have hX1 : Blk w0.drew (B + 1) 46 #[.int .u16 n0, .int .u16 n1, .int .u16 n2] := hX
  have hB1 := hB0.drew
  have hBs : B ≤ w0.drew.heap.size := Nat.le_of_lt hM.lt
  rename_i hHeld
  generalize w0.drew = w1 at *
  clear hHeld HKP hX hM hB0 hx
  by_cases hls : seed.size ≤ 50
  · have hls' : ¬ (50 : Int) < (seed.size : Int) := by omega
    by_cases hl0 : m0.size ≤ 50
    · have hl0' : ¬ (50 : Int) < (m0.size : Int) := by omega
      by_cases hl1 : m1.size ≤ 50
      · have hl1' : ¬ (50 : Int) < (m1.size : Int) := by omega
        have z1 := zeroTable
        have HPB := Lib.hid (fun W => public_any seed (by omega) W)
        obtain ⟨q, hq⟩ : ∃ q, n0 % 8 = q := ⟨_, rfl⟩
        have e0 : (n0 : Int) % 8 = (q : Int) := by omega
        have HRS := Lib.hid (fun W => rsign_any seed m0 (by omega) (by omega) q (by omega) W)
        have HSZ := Lib.hid (signB_size seed q m0)
        generalize signB seed q m0 = SB at *
        generalize nodeB seed 3 0 = PB at *
        clear hq
        go_wp2_with fail
        refine (awake3_any _).mono ?_
        rintro e w2 ⟨rfl, hb2⟩
        have hX2 := hX1.below hb2 hX1.lt
        have hB2 := hB1.trans (hb2.mono hBs)
        clear hX1 hB1 hb2 hBs
        go_wp2_with fail
        refine (make_std _).mono ?_
        rintro e w3 ⟨rfl, hb3⟩
        have hX3 := hX2.below hb3 hX2.lt
        have hB3 := hB2.trans (hb3.mono (by have := hX2.lt; omega))
        clear hX2 hB2 hb3
        go_wp2_with (first
          | (refine wpList_store_row rfl 29 _ _ rfl w3.heap.size tabV rfl rfl 29 zero72 (Blk.new _ _ _) (by rw [tabV_size]; exact infoTable) (by kernel_rfl) (by kernel_rfl) ?_; rw [World.setRow_alloc_new])
          | (refine wpList_load_row rfl 29 _ rfl w3.heap.size rfl 29 tabV (0, 0) _ (Blk.new _ _ _) Try.underlying29 rfl (by rw [tabV_size]; exact infoTable) ?_))
        have hB4 := hB3.alloc (by have := hX3.lt; omega) (.cells tabV 29)
        have hT4 : Blk (w3.alloc (.cells tabV 29)) w3.heap.size 29 tabV := Blk.new _ _ _
        have hX4 := hX3.alloc (.cells tabV 29)
        generalize w3.alloc (.cells tabV 29) = w4 at *
        generalize w3.heap.size = gt at *
        clear hB3 hX3 z1
        refine (HPB.out _).mono ?_
        rintro e w5 ⟨rfl, hb5⟩
        have hX5 := hX4.below hb5 hX4.lt
        have hT5 := hT4.below hb5 hT4.lt
        have hB5 := hB4.trans (hb5.mono (by have := hX4.lt; omega))
        have c0 : w5.cell? ⟨B + 1, 0, none⟩ = some (.int .u16 n0) := hX5.cell 0
        clear hX4 hT4 hB4 hb5 HPB
        go_wp2_with fail
        refine (HRS.out _).mono ?_
        rintro e w6 ⟨rfl, hb6⟩
        have hX6 := hX5.below hb6 hX5.lt
        have hT6 := hT5.below hb6 hT5.lt
        have hB6 := hB5.trans (hb6.mono (by have := hX5.lt; omega))
        clear hX5 hT5 hB5 hb6 c0 HRS
        obtain ⟨w7, cap, hrun, hcap, hcells, hgl, hb7⟩ := run_bytes_row (P := Try.prog) w6 9 47 5 SB Try.underlying9 Try.underlying47 Try.underlying5
        have hX7 := hX6.below hb7 hX6.lt
        have hT7 := hT6.below hb7 hT6.lt
        have hB7 := hB6.trans (hb7.mono (by have := hX6.lt; omega))
        have hgX : B + 1 < w6.heap.size := hX6.lt
        have hgT : gt < w6.heap.size := hT6.lt
        generalize w6.heap.size = gb at *
        have HCL := Lib.hid hcells
        clear hX6 hT6 hB6 hb7 hcells
        go_wp2
        clear hrun
        obtain ⟨i, hi⟩ : ∃ i, n1 % 2244 = i := ⟨_, rfl⟩
        have hil : i < SB.size := by rw [HSZ.out]; omega
        have e1 : (n1 : Int).tmod 2244 = (i : Int) := by rw [Int.tmod_eq_emod_of_nonneg (by omega)]; omega
        have e3 : IntKind.i64.wrap (n1 : Int) = (n1 : Int) := by rw [IntKind.wrap_i64]; omega
        have hil' : (i : Int) < 2244 := by omega
        have hi0 : (0 : Int) ≤ (i : Int) := by omega
        rw [HSZ.out]
        obtain ⟨hci, hfi⟩ := HCL.out i hil
        have ha := nums_getD_lt SB i
        obtain ⟨y, hy, hyl⟩ := xor_byte ((nums SB).getD i 0) ha (n2 % 256) (by omega)
        have e2 : IntKind.u8.wrap (n2 : Int) = ((n2 % 256 : Nat) : Int) := by rw [IntKind.wrap_u8']; omega
        unfold U8 at hci
        have l1 : w7.cell? ⟨B + 1, 1, none⟩ = some (.int .u16 n1) := hX7.cell 1
        have l2 : w7.cell? ⟨B + 1, 2, none⟩ = some (.int .u16 n2) := hX7.cell 2
        generalize (nums SB).getD i 0 = a at *
        generalize n2 % 256 = z at *
        go_still_tail 14, (by kernel_rfl)
        change wpList _ _ _ _ _ w7.drew
        have hX8 : Blk w7.drew (B + 1) 46 #[.int .u16 n0, .int .u16 n1, .int .u16 n2] := hX7
        have hT8 : Blk w7.drew gt 29 tabV := hT7
        have hB8 := hB7.drew
        have HC8 : Hid (∀ j, j < SB.size → w7.drew.cell? ⟨gb, j, none⟩ = some (U8 ((nums SB).getD j 0))) := Lib.hid (fun j hj => (HCL.out j hj).1)
        have c8 : w7.drew.cell? ⟨gb, i, none⟩ = some (.int .u8 a) := hci
        have f8 : w7.drew.frozen? ⟨gb, i, none⟩ = false := hfi
        generalize w7.drew = w8 at *
        have hX9 := hX8.far (p := ⟨gb, i, none⟩) (by show B + 1 ≠ gb; omega) (.int .u8 y)
        have hT9 := hT8.far (p := ⟨gb, i, none⟩) (by show gt ≠ gb; omega) (.int .u8 y)
        have hB9 := hB8.setCell (p := ⟨gb, i, none⟩) (by show B ≤ gb; omega) (.int .u8 y)
        have hcv := conv_bent w8 gb cap i y SB hil HC8.out _ rfl
        rw [HSZ.out] at hcv
        have HS0 := Lib.hid ((bentB_size SB i y).trans HSZ.out)
        generalize bentB SB i y = S0 at *
        have c2 : (w8.setCell ⟨gb, i, none⟩ (.int .u8 y)).cell? ⟨B + 1, 2, none⟩ = some (.int .u16 n2) := hX9.cell 2
        clear hX7 hT7 hB7 hX8 hT8 hB8 HCL HC8 hci hfi l1 l2 e1 e2 e3 hy ha hil hil' hi0 e0 hi
        by_cases hc : 60000 < n2
        · have hc' : (60000 : Int) < (n2 : Int) := by omega
          have h43 : (2243 : Int) ≤ (S0.size : Int) := by rw [HS0.out]; decide
          obtain ⟨S2, hS2⟩ : ∃ S2, S0.extract 0 2243 = S2 := ⟨_, rfl⟩
          have HS2 : Hid (S2.size = 2243) := Lib.hid (by rw [← hS2, ext_size _ _ _ (by rw [HS0.out]; decide)])
          clear hc
          have HVF := Lib.hid (fun W => verify_any PB m1 S2 (by omega) W)
          have HRF := Lib.hid (fun W => rverify_any PB m1 S2 (by omega) W)
          go_wp2_with (refine wpList_load_row rfl 29 _ rfl gt rfl 29 tabV (0, 0) _ hT9 Try.underlying29 rfl (by rw [tabV_size]; exact infoTable) ?_)
          cases hv : verB PB m1 S2 with
          | true =>
            obtain ⟨hs4, hfr⟩ := front_low hv
            rw [verV_yes hv] at HVF
            rw [hv] at HRF
            have h3 := str_index S2 3 (by omega)
            rw [hfr, show ((3 : Nat) : Int) = 3 from rfl] at h3
            have hfl := frontB_lt S2
            generalize frontB S2 = f at *
            have hff : ((f : Int) == (f : Int)) = true := beq_self_eq_true _
            clear hs4 hfr hv
            refine (HVF.out _).mono ?_
            rintro e w10 ⟨rfl, hb10⟩
            have hB10 := hB9.trans (hb10.mono (by have := hX9.lt; omega))
            go_wp2_with fail
            refine (HRF.out _).mono ?_
            rintro e w11 ⟨rfl, hb11⟩
            have hB11 := hB10.trans (hb11.mono (by have := hX9.lt; have := hb10.size; omega))
            rw [← HBB.out] at hB11
            clear hB9 hB10 hb10 hb11 hX9 hT9 HVF HRF
            go_wp2
            go_ret
            exact ⟨rfl, hB11⟩
          | false =>
            rw [verV_no hv] at HVF
            rw [hv] at HRF
            clear hv
            refine (HVF.out _).mono ?_
            rintro e w10 ⟨rfl, hb10⟩
            have hB10 := hB9.trans (hb10.mono (by have := hX9.lt; omega))
            go_wp2_with fail
            refine (HRF.out _).mono ?_
            rintro e w11 ⟨rfl, hb11⟩
            have hB11 := hB10.trans (hb11.mono (by have := hX9.lt; have := hb10.size; omega))
            rw [← HBB.out] at hB11
            clear hB9 hB10 hb10 hb11 hX9 hT9 HVF HRF
            go_wp2
            go_ret
            exact ⟨rfl, hB11⟩
        · have hc' : ¬ (60000 : Int) < (n2 : Int) := by omega
          obtain ⟨S2, hS2⟩ : ∃ S2, S0 = S2 := ⟨_, rfl⟩
          have HS2 : Hid (S2.size = 2244) := Lib.hid (by rw [← hS2]; exact HS0.out)
          subst hS2
          clear hc
          have HVF := Lib.hid (fun W => verify_any PB m1 S0 (by omega) W)
          have HRF := Lib.hid (fun W => rverify_any PB m1 S0 (by omega) W)
          go_wp2_with (refine wpList_load_row rfl 29 _ rfl gt rfl 29 tabV (0, 0) _ hT9 Try.underlying29 rfl (by rw [tabV_size]; exact infoTable) ?_)
          cases hv : verB PB m1 S0 with
          | true =>
            obtain ⟨hs4, hfr⟩ := front_low hv
            rw [verV_yes hv] at HVF
            rw [hv] at HRF
            have h3 := str_index S0 3 (by omega)
            rw [hfr, show ((3 : Nat) : Int) = 3 from rfl] at h3
            have hfl := frontB_lt S0
            generalize frontB S0 = f at *
            have hff : ((f : Int) == (f : Int)) = true := beq_self_eq_true _
            clear hs4 hfr hv
            refine (HVF.out _).mono ?_
            rintro e w10 ⟨rfl, hb10⟩
            have hB10 := hB9.trans (hb10.mono (by have := hX9.lt; omega))
            go_wp2_with fail
            refine (HRF.out _).mono ?_
            rintro e w11 ⟨rfl, hb11⟩
            have hB11 := hB10.trans (hb11.mono (by have := hX9.lt; have := hb10.size; omega))
            rw [← HBB.out] at hB11
            clear hB9 hB10 hb10 hb11 hX9 hT9 HVF HRF
            go_wp2
            go_ret
            exact ⟨rfl, hB11⟩
          | false =>
            rw [verV_no hv] at HVF
            rw [hv] at HRF
            clear hv
            refine (HVF.out _).mono ?_
            rintro e w10 ⟨rfl, hb10⟩
            have hB10 := hB9.trans (hb10.mono (by have := hX9.lt; omega))
            go_wp2_with fail
            refine (HRF.out _).mono ?_
            rintro e w11 ⟨rfl, hb11⟩
            have hB11 := hB10.trans (hb11.mono (by have := hX9.lt; have := hb10.size; omega))
            rw [← HBB.out] at hB11
            clear hB9 hB10 hb10 hb11 hX9 hT9 HVF HRF
            go_wp2
            go_ret
            exact ⟨rfl, hB11⟩
      · have hl1' : (50 : Int) < (m1.size : Int) := by omega
        go_wp2_with fail
        refine (awake3_any _).mono ?_
        rintro e w2 ⟨rfl, hb2⟩
        have hB2 := hB1.trans (hb2.mono hBs)
        go_wp2_with fail
        refine (awake3_any _).mono ?_
        rintro e w3 ⟨rfl, hb3⟩
        have hB3 := hB2.trans (hb3.mono (Nat.le_trans hBs hb2.size))
        rw [← HBB.out] at hB3
        go_wp2
        go_ret
        exact ⟨rfl, hB3⟩
    · have hl0' : (50 : Int) < (m0.size : Int) := by omega
      go_wp2_with fail
      refine (awake3_any _).mono ?_
      rintro e w2 ⟨rfl, hb2⟩
      have hB2 := hB1.trans (hb2.mono hBs)
      go_wp2_with fail
      refine (awake3_any _).mono ?_
      rintro e w3 ⟨rfl, hb3⟩
      have hB3 := hB2.trans (hb3.mono (Nat.le_trans hBs hb2.size))
      rw [← HBB.out] at hB3
      go_wp2
      go_ret
      exact ⟨rfl, hB3⟩
  · have hls' : (50 : Int) < (seed.size : Int) := by omega
    go_wp2_with fail
    refine (awake3_any _).mono ?_
    rintro e w2 ⟨rfl, hb2⟩
    have hB2 := hB1.trans (hb2.mono hBs)
    go_wp2_with fail
    refine (awake3_any _).mono ?_
    rintro e w3 ⟨rfl, hb3⟩
    have hB3 := hB2.trans (hb3.mono (Nat.le_trans hBs hb2.size))
    rw [← HBB.out] at hB3
    go_wp2
    go_ret
    exact ⟨rfl, hB3⟩
end Go.Proofs.Ytdbfkkopolhpaaa
