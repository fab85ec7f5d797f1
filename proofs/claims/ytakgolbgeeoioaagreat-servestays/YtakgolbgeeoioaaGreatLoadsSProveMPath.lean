/-
  The proof of a path among entries. Inclusion proofs: the program's.
-/
import Derived.Test.YtakgolbgeeoioaaGreatYMathYPlayLoads
import Derived.Test.YtakgolbgeeoioaaGreatWBldWBldSFoll
import Derived.Test.YtakgolbgeeoioaaGreatMMathMRoot
namespace Go.Proofs.YtakgolbgeeoioaaGreat
open Go.RowKit

/-- the bits that are told of the first k depths, in 32 bytes -/
def Flg (t : Nat → Bool) (k : Nat) (F : Nat → Nat) : Prop := ∀ j, j < 32 → F j < 256 ∧ ∀ m, m < 8 → (F j / 2 ^ (7 - m) % 2 == 1) = (decide (8 * j + m < k) && t (8 * j + m))
theorem flg_zero (t : Nat → Bool) : Flg t 0 fun _ => 0 := fun j _ => ⟨by show 0 < 256; decide, fun m _ => by simp⟩
theorem flg_skip {t : Nat → Bool} {k : Nat} {F : Nat → Nat} (h : Flg t k F) (ht : t k = false) : Flg t (k + 1) F := fun j hj => ⟨(h j hj).1, fun m hm => by
  rw [(h j hj).2 m hm]
  by_cases he : 8 * j + m = k
  · rw [he, ht]; simp
  · congr 1
    rw [decide_eq_decide]
    omega⟩
theorem or_bit (x a b : Nat) : ((x ||| 2 ^ a) / 2 ^ b % 2 == 1) = ((x / 2 ^ b % 2 == 1) || decide (a = b)) := by
  have e : ∀ y : Nat, (y / 2 ^ b % 2 == 1) = y.testBit b := fun y => by
    rw [Nat.testBit_eq_decide_div_mod_eq]
    by_cases h : y / 2 ^ b % 2 = 1 <;> simp [h]
  rw [e, e, Nat.testBit_or, Nat.testBit_two_pow]
theorem flg_step {t : Nat → Bool} {k : Nat} {F : Nat → Nat} (h : Flg t k F) (_ : k < 256) (ht : t k = true) : Flg t (k + 1) fun j => if j = k / 8 then F j ||| 2 ^ (7 - k % 8) else F j := fun j hj => by
  by_cases hjk : j = k / 8
  · subst hjk
    simp only [if_true]
    refine ⟨?_, fun m hm => ?_⟩
    · have h2 : 2 ^ (7 - k % 8) < 2 ^ 8 := Nat.pow_lt_pow_right (by decide) (by omega)
      exact Nat.or_lt_two_pow (n := 8) (h _ hj).1 h2
    · rw [or_bit, (h _ hj).2 m hm]
      by_cases he : m = k % 8
      · subst he
        rw [show 8 * (k / 8) + k % 8 = k by omega, ht]
        simp
      · rw [show decide (7 - k % 8 = 7 - m) = false by rw [decide_eq_false_iff_not]; omega, Bool.or_false]
        congr 1
        rw [decide_eq_decide]
        omega
  · simp only [if_neg hjk]
    refine ⟨(h j hj).1, fun m hm => ?_⟩
    rw [(h j hj).2 m hm]
    congr 1
    rw [decide_eq_decide]
    omega
def flA (F : Nat → Nat) : Array Value := ((List.range 32).map fun j => U8 (F j)).toArray
theorem flA_at (F : Nat → Nat) {j : Nat} (h : j < 32) : (flA F)[j]? = some (U8 (F j)) := by simp [flA, h]
theorem flA_set (F : Nat → Nat) (j0 x : Nat) : (flA F).setIfInBounds j0 (U8 x) = flA fun j => if j = j0 then x else F j := by
  apply Array.ext
  · simp [flA]
  · intro i h1 h2
    rw [Array.getElem_setIfInBounds (by simpa using h1)]
    by_cases h : j0 = i
    · subst h; simp [flA]
    · rw [if_neg h]
      simp [flA, show ¬ i = j0 from fun e => h e.symm]
def flB (F : Nat → Nat) : ByteArray := strN ((List.range 32).map F)
theorem flB_size (F : Nat → Nat) : (flB F).size = 32 := by unfold flB; rw [strN_size]; simp
theorem flB_bit {t : Nat → Bool} {F : Nat → Nat} (h : Flg t 256 F) (i : Nat) (hi : i < 256) : bitS (flB F) i = t i := by
  unfold bitS flB
  rw [nums_strN]
  · have := (h (i / 8) (by omega)).2 (i % 8) (by omega)
    rw [show 8 * (i / 8) + i % 8 = i by omega, show decide (i < 256) = true by simp [hi], Bool.true_and] at this
    rw [← this]
    simp [List.getD_eq_getElem?_getD, show i / 8 < 32 by omega]
  · intro x hx
    obtain ⟨j, hj, rfl⟩ := List.mem_map.1 hx
    exact (h j (List.mem_range.1 hj)).1
/-- those that go the path's way down to the depth k -/
def algN (p : ByteArray) : Nat → List Ent → List Ent
  | 0, es => es
  | k + 1, es => alg k p (algN p k es)
theorem algN_good {es : List Ent} (h : Good 0 es) (p : ByteArray) : ∀ k, Good k (algN p k es)
  | 0 => h
  | k + 1 => (algN_good h p k).alg p
theorem algN_fit {es : List Ent} (h : Fit es) (p : ByteArray) : ∀ k, Fit (algN p k es)
  | 0 => h
  | k + 1 => (algN_fit h p k).alg p
theorem algN_len (p : ByteArray) (es : List Ent) : ∀ k, (algN p k es).length ≤ es.length
  | 0 => Nat.le_refl _
  | k + 1 => Nat.le_trans (alg_len _ _ _) (algN_len p es k)
/-- the root beside the path, below its bit k -/
def bes (p : ByteArray) (es : List Ent) (k : Nat) : ByteArray := rootK (255 - k) (oth k p (algN p k es))
theorem bes_size (p : ByteArray) (es : List Ent) (k : Nat) : (bes p es k).size = 32 := rootK_size _ _
def tel (p : ByteArray) (es : List Ent) (k : Nat) : Bool := decide (bes p es k ≠ emp (k + 1))
def rb (p : ByteArray) (es : List Ent) : Nat → List UInt8
  | 0 => []
  | k + 1 => rb p es k ++ (if tel p es k then (bes p es k).data.toList else [])
theorem rb_len (p : ByteArray) (es : List Ent) : ∀ k, (rb p es k).length ≤ 32 * k
  | 0 => Nat.le_refl _
  | k + 1 => by
    have := rb_len p es k
    have hb := bes_size p es k
    rw [rb, List.length_append]
    split
    · have h2 : (bes p es k).data.toList.length = 32 := by rw [Array.length_toList]; exact hb
      omega
    · simp; omega
/-- s is the proof of the path among the entries -/
def PrS (p : ByteArray) (es : List Ent) (s : ByteArray) : Prop := ∃ fl : ByteArray, fl.size = 32 ∧ (∀ i, i < 256 → bitS fl i = tel p es i) ∧ s = fl ++ ⟨(rb p es 256).toArray⟩
section
attribute [-go_sem] loadVar
set_option maxRecDepth 100000 in
set_option maxHeartbeats 2000000 in
theorem prove_any (g : Nat) (p : ByteArray) (hps : p.size = 32) (oa : Option Addr) (n cap : Nat) (es : List Ent) (hn : es.length = n) (hsz : n ≤ 1000000) (hcap : n ≤ cap) (hG : Good 0 es) (hF : Fit es) (w : World) (hT : Tre w g) (hE : Ents w w.heap.size oa es) :
    Calls Tryz.prog 90 #[.pointer (some ⟨g, 0, none⟩), .string p, .slice oa n cap] w fun e w' => (∃ s, PrS p es s ∧ e = .returned (.string s)) ∧ Below w.heap.size w w' := by
  obtain ⟨B, hBB⟩ : ∃ B, w.heap.size = B := ⟨_, rfl⟩
  have HFo := Lib.hid (fun k (hk : k < 256) oa cap (hc : (algN p k es).length ≤ cap) W hE => follow_any (b := B) k hk p hps oa cap _ (algN p k es) rfl (by have := algN_len p es k; omega) hc (algN_good hG p k) W hE)
  unfold RF at HFo
  have HRo := Lib.hid (fun k (hk : k < 256) oa cap (hc : (oth k p (algN p k es)).length ≤ cap) W hT hE => troot_any g (b := B) (255 - k) (k + 1) (by omega) oa _ cap (oth k p (algN p k es)) rfl (by have := algN_len p es k; have := oth_len k p (algN p k es); omega) hc ((algN_good hG p k).oth p) ((algN_fit hF p k).oth p) W hT hE)
  have HLR := Lib.hid (rb_len p es)
  have HE0 := Lib.hid hE
  have HT0 := Lib.hid hT
  have HGB := Lib.hid (show g < B by rw [← hBB]; exact hT.lt)
  have HBB := Lib.hid hBB
  clear hE hT hG hF hps
  go_enter Tryz.func90, Tryz.ntmps90
  go_wp2
  rw [show (#[Value.int IntKind.u8 0, Value.int IntKind.u8 0, Value.int IntKind.u8 0, Value.int IntKind.u8 0,
              Value.int IntKind.u8 0, Value.int IntKind.u8 0, Value.int IntKind.u8 0, Value.int IntKind.u8 0,
              Value.int IntKind.u8 0, Value.int IntKind.u8 0, Value.int IntKind.u8 0, Value.int IntKind.u8 0,
              Value.int IntKind.u8 0, Value.int IntKind.u8 0, Value.int IntKind.u8 0, Value.int IntKind.u8 0,
              Value.int IntKind.u8 0, Value.int IntKind.u8 0, Value.int IntKind.u8 0, Value.int IntKind.u8 0,
              Value.int IntKind.u8 0, Value.int IntKind.u8 0, Value.int IntKind.u8 0, Value.int IntKind.u8 0,
              Value.int IntKind.u8 0, Value.int IntKind.u8 0, Value.int IntKind.u8 0, Value.int IntKind.u8 0,
              Value.int IntKind.u8 0, Value.int IntKind.u8 0, Value.int IntKind.u8 0, Value.int IntKind.u8 0] : Array Value) = flA (fun _ => 0) from rfl]
  have hsz1 : (w.alloc (.cells (flA fun _ => 0) 171)).heap.size = B + 1 := by simp [hBB]
  have hb1 := bld_new (w.alloc (.cells (flA fun _ => 0) 171))
  rw [hsz1] at hb1
  have hf1 : Blk ((w.alloc (.cells (flA fun _ => 0) 171)).alloc (.cells #[.pointer none, .slice none 0 0] 142)) B 171 (flA fun _ => 0) := (Blk.new_at hBB.symm).alloc _
  have hB1 : Below B w ((w.alloc (.cells (flA fun _ => 0) 171)).alloc (.cells #[.pointer none, .slice none 0 0] 142)) := by
    rw [← hBB]
    exact ((Below.refl _ w).alloc (Nat.le_refl _) _).alloc (by simp) _
  generalize (w.alloc (.cells (flA fun _ => 0) 171)).alloc (.cells #[.pointer none, .slice none 0 0] 142) = w1 at *
  have hE1 := HE0.out.below (by rw [hBB]; exact hB1)
  rw [hBB] at hE1
  have hT1 := HT0.out.below hB1 HGB.out
  clear hsz1 hBB
  go_loopw [2, 13] (fun m i wr => ∃ k : Nat, k ≤ 256 ∧ i = .int .i64 k ∧ (∃ om capm, m = .slice om (algN p k es).length capm ∧ (algN p k es).length ≤ capm ∧ Ents wr B om (algN p k es)) ∧ (∃ F, Flg (tel p es) k F ∧ Blk wr B 171 (flA F)) ∧ Bld wr (B + 1) (B + 1) (rb p es k) ∧ Tre wr g ∧ Below B w wr) (fun _ i _ => 256 - (intOf i).toNat)
  case atStart => exact ⟨0, by omega, rfl, ⟨oa, cap, by rw [← hn]; rfl, by rw [show algN p 0 es = es from rfl, hn]; exact hcap, hE1⟩, ⟨_, flg_zero _, hf1⟩, hb1, hT1, hB1⟩
  case round =>
    clear hE1 hf1 hb1 hT1 hB1 HE0 HT0
    obtain ⟨k, hk, rfl, ⟨om, capm, rfl, hcm, hEr⟩, ⟨F, hFr, hfr⟩, hbr, hTr, hBr⟩ := hrel
    by_cases hlt : k < 256
    · have hlt' : (k : Int) < 256 := by omega
      have HF1 := Lib.hid (HFo.out k hlt om capm hcm)
      have HR1 := Lib.hid (HRo.out k hlt)
      have HA : Hid (algN p (k + 1) es = alg k p (algN p k es)) := Lib.hid rfl
      have e1 : ((k + 1 : Nat) : Int) = (k : Int) + 1 := by omega
      rw [e1] at HR1
      have HX : Hid (bes p es k = rootK (255 - k) (oth k p (algN p k es))) := Lib.hid rfl
      rw [← HX.out] at HR1
      rw [← HA.out] at HF1
      have hel : (emp (k + 1)).size = 32 := emp_size _
      have HTe : Hid (tel p es k = decide (bes p es k ≠ emp (k + 1))) := Lib.hid rfl
      have HRB : Hid (rb p es (k + 1) = rb p es k ++ (if tel p es k then (bes p es k).data.toList else [])) := Lib.hid rfl
      have HMK := Lib.hid (fun W => mask_any k hlt W)
      have hcE := fun W (hW : Tre W g) => txt_load (tre_cell hW (d := k + 1) (by omega))
      have HCE := Lib.hid hcE
      have HB5 := Lib.hid (bes_size p es k)
      have HL := Lib.hid (HLR.out k)
      have HFs := Lib.hid (fun ht => flg_step hFr hlt ht)
      have HFk := Lib.hid (fun ht => flg_skip hFr ht)
      have HFb := Lib.hid (fun j hj => (hFr j hj).1)
      generalize hM1 : algN p (k + 1) es = M1 at *
      have HM1 := Lib.hid hM1
      clear hM1
      generalize oth k p (algN p k es) = O1 at *
      generalize algN p k es = M at *
      generalize hXX : bes p es k = X at *
      generalize emp (k + 1) = Y at *
      generalize tel p es k = tk at *
      generalize hL1 : rb p es (k + 1) = L1 at *
      have HLE := Lib.hid hL1
      clear hL1
      generalize rb p es k = L at *
      clear HFo HRo hcE HX HA hXX hFr hel
      go_wp2_with fail
      refine (HF1.out _ hEr).mono ?_
      rintro e w2 ⟨o1, c1, o2, c2, rfl, hm2, ho2, hc1, hc2, hB2⟩
      have hf2 := hfr.below hB2 hfr.lt
      have hb2 := hbr.belowS hB2
      have hT2 := Blk.below hTr hB2 hTr.lt
      have hB2' := hBr.trans (hB2.mono (Nat.le_of_lt hfr.lt))
      clear hfr hbr hTr hBr hB2 HF1 hEr
      go_wp2_with fail
      refine (HR1.out o2 c2 hc2 _ hT2 ho2).mono ?_
      rintro e w3 ⟨rfl, hB3⟩
      have hm3 := hm2.below hB3
      have hf3 := hf2.below hB3 hf2.lt
      have hb3 := hb2.belowS hB3
      have hT3 := Blk.below hT2 hB3 hT2.lt
      have hB3' := hB2'.trans (hB3.mono (Nat.le_of_lt hf2.lt))
      clear hm2 ho2 hf2 hb2 hT2 hB2' hB3 HR1
      have hl3 := HCE.out w3 hT3
      have hk7 : (k : Int) + 1 < 257 := by omega
      by_cases hXY : X = Y
      · subst hXY
        have ht : tk = false := by rw [HTe.out]; simp
        subst ht
        have HF2 := HFk.out rfl
        have HL1 : L1 = L := by rw [HRB.out]; simp
        subst HL1
        clear HFs HFk HTe HRB HMK HCE
        go_wp2
        go_roundw
        case rel => exact ⟨k + 1, by omega, by go_num, ⟨o1, c1, by rw [HM1.out], by rw [HM1.out]; exact hc1, by rw [HM1.out]; exact hm3⟩, ⟨F, HF2, hf3⟩, by rw [HLE.out]; exact hb3, hT3, hB3'⟩
        case measure => simp [intOf]; omega
      · have hne : (X.toList == Y.toList) = false := by
          rw [beq_eq_false_iff_ne]
          intro h
          exact hXY (ByteArray.ext (Array.toList_inj.1 (by rwa [ByteArray.toList_eq, ByteArray.toList_eq] at h)))
        have hne' : (X.toList != Y.toList) = true := by rw [bne, hne]; rfl
        have hne2 : ¬ X.toList = Y.toList := by rwa [beq_eq_false_iff_ne] at hne
        have ht : tk = true := by rw [HTe.out]; simp [hXY]
        subst ht
        have HF2 := HFs.out rfl
        have HL1 : L1 = L ++ X.data.toList := by rw [HRB.out]; simp
        subst HL1
        clear HFs HFk HTe HRB HCE
        go_wp2
        obtain ⟨j, hj⟩ : ∃ j, k / 8 = j := ⟨_, rfl⟩
        have hj1 : (k : Int) / 8 = (j : Int) := by omega
        have hj2 : IntKind.i64.wrap (j : Int) = j := i64_small (by omega)
        have hj3 : (j : Int) < 32 := by omega
        have hFj := HFb.out j (by omega)
        have hm8 : 2 ^ (7 - k % 8) < 256 := by
          have : 2 ^ (7 - k % 8) ≤ 2 ^ 7 := Nat.pow_le_pow_right (by decide) (by omega)
          omega
        rw [hj] at HF2
        generalize 2 ^ (7 - k % 8) = m8 at *
        rw [show (fun i => if i = j then F i ||| m8 else F i) = (fun i => if i = j then F j ||| m8 else F i) by funext i; split <;> simp_all] at HF2
        have hcj := (hf3.cell j).trans (flA_at F (by omega))
        change w3.cell? _ = some (.int .u8 (F j : Nat)) at hcj
        have hlj : (loadVar 5 ⟨B, j, none⟩).run Tryz.prog w3.drew = .ok (.int .u8 (F j : Nat)) w3.drew := byte_load hcj
        have hor := u8_or_nat (F j) m8 hFj hm8
        have hfj : w3.frozen? ⟨B, j, none⟩ = false := hf3.frozen j
        have HSET := Lib.hid (flA_set F j (F j ||| m8))
        generalize F j = fj at *
        generalize fj ||| m8 = xj at *
        have HF9 := Lib.hid HF2
        have HB3 := Lib.hid hb3
        have HF3 := Lib.hid hf3
        have HT3 := Lib.hid hT3
        clear hj HFb hFj hm8 HF2 hl3 hne hne' hne2 hXY
        go_region_law (first
          | (go_simp; go_at_call 107; refine (HMK.out _).mono ?_; rintro e w4 ⟨rfl, rfl⟩))
        all_goals
          try rw [show w3.drew.setCell ⟨B, j, none⟩ (.int .u8 (xj : Int)) = (w3.setCell ⟨B, j, none⟩ (.int .u8 (xj : Int))).drew from rfl]
          have hf5 : Blk (w3.setCell ⟨B, j, none⟩ (.int .u8 (xj : Int))).drew B 171 (flA fun i => if i = j then xj else F i) := HSET.out ▸ (HF3.out).set_ j (U8 xj)
          have hg5 : w3.grownBy (w3.setCell ⟨B, j, none⟩ (.int .u8 (xj : Int))).drew (some B) := only_drew (grown_setCell w3 ⟨B, j, none⟩ _)
          have hb5 := HB3.out.farS hg5 (Nat.lt_succ_self B)
          have hT5 := Blk.grown HT3.out hg5 (by intro e; injection e; have := HGB.out; omega)
          have hm5 := hm3.far hg5 (Nat.le_refl _)
          have hB5 := hB3'.grown hg5 (Nat.le_of_lt HF3.out.lt) (fun i hi => by injection hi; omega)
          generalize (w3.setCell ⟨B, j, none⟩ (.int .u8 (xj : Int))).drew = w5 at *
          have hL5 : L.length + X.size ≤ 70368744177664 := by have := HL.out; have := HB5.out; omega
          have HBW := Lib.hid (fun W hb hw => bld_write (B + 1) (B + 1) L X W hb hL5 hw)
          clear hcj hlj hor hfj hj1 hj2 hj3 hm3 hg5 HSET HB3 HF3 HT3 hB3' hf3 hb3 hT3 hL5 HMK
          go_wp2_with fail
          refine (HBW.out _ hb5 hf5.lt).mono ?_
          rintro e w6 ⟨rfl, hb6, hB6⟩
          have hf6 := hf5.below hB6 (Nat.lt_succ_self B)
          have hT6 := Blk.below hT5 hB6 (Nat.lt_succ_of_lt HGB.out)
          have hm6 : Ents w6 B o1 M1 := by
            rcases hm5 with h | ⟨g1, o, h1, h3, h2⟩
            · exact .inl h
            · exact .inr ⟨g1, o, h1, h3, h2.below hB6 (Nat.lt_succ_of_lt h3)⟩
          have hB6' := hB5.trans (hB6.mono (Nat.le_succ _))
          clear hb5 hf5 hT5 hm5 hB5 hB6 HBW
          go_wp2
          go_roundw
          case rel => exact ⟨k + 1, by omega, by go_num, ⟨o1, c1, by rw [HM1.out], by rw [HM1.out]; exact hc1, by rw [HM1.out]; exact hm6⟩, ⟨_, HF9.out, hf6⟩, by rw [HLE.out]; exact hb6, hT6, hB6'⟩
          case measure => simp [intOf]; omega
    · obtain rfl : k = 256 := by omega
      rw [show ((256 : Nat) : Int) = 256 from rfl]
      have HPS : Hid (PrS p es (flB F ++ ⟨(rb p es 256).toArray⟩)) := Lib.hid ⟨flB F, flB_size F, fun i hi => flB_bit hFr i hi, rfl⟩
      have hrl := HLR.out 256
      have hcv : ∀ W, Below (B + 1) wr W → (convert 119 9 (.slice (some ⟨B, 0, none⟩) 32 32)).run Tryz.prog W = .ok (.string (flB F)) W := fun W hW => by
        have := conv_cells W 119 5 9 Tryz.underlying119 Tryz.underlying5 Tryz.underlying9 B 32 ((List.range 32).map F) (fun i hi => by
          have hi2 : i < 32 := by simpa using hi
          rw [(hfr.below hW (Nat.lt_succ_self B)).cell, flA_at F hi2]
          simp [List.getD_eq_getElem?_getD, hi2])
        unfold flB
        simpa using this
      have HKP : Hid (∀ W, Below (B + 1) wr W → (convert 119 9 (.slice (some ⟨B, 0, none⟩) 32 32)).run Tryz.prog W = .ok (.string (flB F)) W ∧ Below (B + 1) wr W) := Lib.hid fun W hW => ⟨hcv W hW, hW⟩
      have HBS := Lib.hid (fun W hb hw => bld_string (B + 1) (B + 1) (rb p es 256) W hb hw)
      have hfs := flB_size F
      have hrs : (⟨(rb p es 256).toArray⟩ : ByteArray).size ≤ 32 * 256 := by show (rb p es 256).toArray.size ≤ _; simpa using hrl
      have HBR := Lib.hid hbr
      have HLT := Lib.hid hfr.lt
      have HBB2 := Lib.hid hBr
      generalize flB F = FB at *
      generalize (⟨(rb p es 256).toArray⟩ : ByteArray) = RB at *
      have hadd := addRun (a := FB) (b := RB) (by omega)
      clear hlt hk hcv hFr hfr hbr hTr hBr hrl hEr hcm HFo HRo HLR
      go_wp2
      go_region_held3 (fun w' => (convert 119 9 (.slice (some ⟨B, 0, none⟩) 32 32)).run Tryz.prog w' = .ok (.string FB) w' ∧ Below (B + 1) wr w')
        ((refine HKP.out _ ?_; first | exact hB7 | exact (Below.refl _ _).drew | exact Below.refl _ _))
        (first
          | (go_at_call 88; refine (HBS.out _ (HBR.out.belowS (Below.refl _ _).drew) HLT.out).mono ?_; rintro e w7 ⟨rfl, hb7⟩; have hB7 : Below (B + 1) wr w7 := (Below.refl _ _).drew.trans hb7))
      have hB8 := HBB2.out.trans (hB7.mono (Nat.le_succ _))
      rw [← HBB.out] at hB8
      go_wp2
      go_ret
      exact ⟨⟨_, HPS.out, rfl⟩, hB8⟩
end
end Go.Proofs.YtakgolbgeeoioaaGreat
namespace Go.Proofs.YtakgolbgeeoioaaGreat
open Go.RowKit

theorem incM_left {ss : List ByteArray} {n i : Nat} (hn : ss.length = n) (h2 : 2 ≤ n) (hi : i < kM n) : incM ss i = incM (ss.take (kM n)) i ++ [rootM (ss.drop (kM n))] := by
  subst hn; rw [incM, dif_pos h2, if_pos hi]
theorem incM_right {ss : List ByteArray} {n i : Nat} (hn : ss.length = n) (h2 : 2 ≤ n) (hi : ¬ i < kM n) : incM ss i = incM (ss.drop (kM n)) (i - kM n) ++ [rootM (ss.take (kM n))] := by
  subst hn; rw [incM, dif_pos h2, if_neg hi]
theorem incM_one {ss : List ByteArray} (i : Nat) (hn : ss.length = 1) : incM ss i = [] := by rw [incM, dif_neg (by omega)]
theorem depM_lt (n : Nat) : ∀ i, depM i n ≤ n := by
  induction n using Nat.strongRecOn with
  | _ n ih =>
    intro i
    rw [depM]
    split
    · rename_i h2
      have hk := kM_lt h2
      have hk0 := kM_pos n
      split
      · have := ih _ hk i; omega
      · have := ih (n - kM n) (by omega) (i - kM n); omega
    · omega

section
attribute [-go_sem] loadVar
set_option maxRecDepth 100000 in
set_option maxHeartbeats 4000000 in
theorem mpath_any (n : Nat) : ∀ (oa : Option Addr) (cap i : Nat) (ss : List ByteArray) (_ : ss.length = n) (_ : 1 ≤ n) (_ : n ≤ 256) (_ : n ≤ cap) (_ : i < n) (_ : Sz ss) (w : World) (_ : Strs w oa ss),
    Calls Tryz.prog 85 #[.agg tabV, .slice oa n cap, .int .i64 i] w (RT (incM ss i) w) := by
  induction n using Nat.strongRecOn with
  | _ n ih =>
  intro oa cap i ss hn hn0 hm hcap hi hz w hc
  have HRT := Lib.hid (show ∀ e w', RT (incM ss i) w e w' = ∃ v, e = .returned v ∧ Own w' w.heap.size v (incM ss i) ∧ Below w.heap.size w w' from fun _ _ => rfl)
  generalize RT (incM ss i) w = PO at *
  have hB0 := (Below.refl _ w).alloc (Nat.le_refl _) (.cells tabV 29)
  have hT : Blk (w.alloc (.cells tabV 29)) w.heap.size 29 tabV := Blk.new _ _ _
  have hc0 := hc.below hB0
  clear hc
  by_cases h2 : 2 ≤ n
  · have hn1 : ((n : Int) == 1) = false := by rw [beq_eq_false_iff_ne]; omega
    have HP := Lib.hid (fun W => parting_any n h2 hm W)
    have hk1 := kM_lt h2
    have hk0 := kM_pos n
    have hs1 := slice_to oa n cap (kM n) (by omega)
    have hs2 := slice_on oa n cap (kM n) hk1 hcap
    have HC1 := Lib.hid (hc0.take (kM n))
    have HC2 := Lib.hid (hc0.drop (kM n))
    by_cases hik : i < kM n
    · have HI := Lib.hid (incM_left hn h2 hik)
      have HIL := Lib.hid (show (incM (ss.take (kM n)) i).length ≤ 1073741824 by rw [incM_length]; have := depM_lt (ss.take (kM n)).length i; rw [List.length_take] at this ⊢; omega)
      have HL := Lib.hid (fun W hW => ih (kM n) hk1 oa cap i (ss.take (kM n)) (by rw [List.length_take]; omega) (by omega) (by omega) (by omega) hik (hz.take _) W hW)
      have HRR := Lib.hid (fun W hW => mroot_any (n - kM n) (oa.map (·.add (kM n))) (cap - kM n) (ss.drop (kM n)) (by rw [List.length_drop]; omega) (by omega) (by omega) (hz.drop _) W hW)
      have hik' : (i : Int) < (kM n : Int) := by omega
      generalize ss.take (kM n) = s1 at *
      generalize ss.drop (kM n) = s2 at *
      generalize incM ss i = R at *
      generalize incM s1 i = R1 at *
      generalize rootM s2 = R2 at *
      generalize kM n = k at *
      generalize oa.map (·.add k) = ob at *
      clear ih hz hc0 hn
      go_enter Tryz.func85, Tryz.ntmps85
      go_wp2_with fail
      refine (HP.out _).mono ?_
      rintro e w' ⟨rfl, rfl⟩
      go_wp2
      generalize w.alloc (.cells tabV 29) = w0 at *
      obtain ⟨B, hBB⟩ : ∃ B, w.heap.size = B := ⟨_, rfl⟩
      rw [hBB] at hB0 hT ⊢
      have HBB := Lib.hid hBB
      clear hBB
      have HKP : Hid (∀ W, Below w0.heap.size w0 W → (loadVar 29 ⟨B, 0, none⟩).run Tryz.prog W = .ok (.agg tabV) W ∧ Below w0.heap.size w0 W) := Lib.hid fun W hW => ⟨tab_run (hT.below hW hT.lt), hW⟩
      clear hT
      go_region_held3 (fun w' => (loadVar 29 ⟨B, 0, none⟩).run Tryz.prog w' = .ok (.agg tabV) w' ∧ Below w0.heap.size w0 w')
        ((refine HKP.out _ ?_; first | exact hB3' | exact hB2'.alloc hB2'.size _ | exact hB2' | exact hB1' | exact (Below.refl _ _).drew | exact Below.refl _ _))
        (first
          | (have := hB1'; go_at_call 47; refine (HRR.out _ (HC2.out.below hB1')).mono ?_; rintro e w2 ⟨rfl, hb2⟩; have hB2' : Below w0.heap.size w0 w2 := hB1'.trans (hb2.mono hB1'.size))
          | (go_at_call 85; refine (HL.out _ (HC1.out.below (Below.refl _ _).drew)).mono ?_; rintro e w1 ⟨v, rfl, hown, hb1⟩; have hB1' : Below w0.heap.size w0 w1 := (Below.refl _ _).drew.trans hb1)
          | (have := hB2'; (refine step_append_txt (by rfl) _ _ (by rfl) w0.heap.size v R1 (by rfl) (Own.below hown hb2) R2 (by rfl) HIL.out hB2'.size ?_; intro g2 cap2 w3 hown2 hgr2; have hB3' : Below w0.heap.size w0 w3 := hB2'.grown hgr2 hB2'.size (fun q hq => (World.ownsRow.lt hown q hq).1))))
      rw [← HI.out] at hown2
      have hB6 := hB0.trans (hB3'.mono (by have := hB0.size; have := HBB.out; omega))
      have hown3 := hown2.mono (B' := B) (by have := hB0.size; have := HBB.out; omega)
      rw [← HBB.out] at hB6 hown3
      go_wp2
      rw [HRT.out]
      exact ⟨_, rfl, hown3, hB6⟩
    · have HI := Lib.hid (incM_right hn h2 hik)
      have HIL := Lib.hid (show (incM (ss.drop (kM n)) (i - kM n)).length ≤ 1073741824 by rw [incM_length]; have := depM_lt (ss.drop (kM n)).length (i - kM n); rw [List.length_drop] at this ⊢; omega)
      have HL := Lib.hid (fun W hW => ih (n - kM n) (by omega) (oa.map (·.add (kM n))) (cap - kM n) (i - kM n) (ss.drop (kM n)) (by rw [List.length_drop]; omega) (by omega) (by omega) (by omega) (by omega) (hz.drop _) W hW)
      have HRR := Lib.hid (fun W hW => mroot_any (kM n) oa cap (ss.take (kM n)) (by rw [List.length_take]; omega) (by omega) (by omega) (hz.take _) W hW)
      have hik' : ¬ (i : Int) < (kM n : Int) := by omega
      have hwr : IntKind.i64.wrap ((i : Int) - (kM n : Int)) = ((i - kM n : Nat) : Int) := by rw [IntKind.wrap_i64]; omega
      generalize ss.take (kM n) = s1 at *
      generalize ss.drop (kM n) = s2 at *
      generalize incM ss i = R at *
      generalize i - kM n = d at *
      generalize incM s2 d = R1 at *
      generalize rootM s1 = R2 at *
      generalize kM n = k at *
      generalize oa.map (·.add k) = ob at *
      clear ih hz hc0 hn
      go_enter Tryz.func85, Tryz.ntmps85
      go_wp2_with fail
      refine (HP.out _).mono ?_
      rintro e w' ⟨rfl, rfl⟩
      go_wp2
      generalize w.alloc (.cells tabV 29) = w0 at *
      obtain ⟨B, hBB⟩ : ∃ B, w.heap.size = B := ⟨_, rfl⟩
      rw [hBB] at hB0 hT ⊢
      have HBB := Lib.hid hBB
      clear hBB
      have HKP : Hid (∀ W, Below w0.heap.size w0 W → (loadVar 29 ⟨B, 0, none⟩).run Tryz.prog W = .ok (.agg tabV) W ∧ Below w0.heap.size w0 W) := Lib.hid fun W hW => ⟨tab_run (hT.below hW hT.lt), hW⟩
      clear hT
      go_region_held3 (fun w' => (loadVar 29 ⟨B, 0, none⟩).run Tryz.prog w' = .ok (.agg tabV) w' ∧ Below w0.heap.size w0 w')
        ((refine HKP.out _ ?_; first | exact hB3' | exact hB2'.alloc hB2'.size _ | exact hB2' | exact hB1' | exact (Below.refl _ _).drew | exact Below.refl _ _))
        (first
          | (have := hB1'; go_at_call 47; refine (HRR.out _ (HC1.out.below hB1')).mono ?_; rintro e w2 ⟨rfl, hb2⟩; have hB2' : Below w0.heap.size w0 w2 := hB1'.trans (hb2.mono hB1'.size))
          | (go_at_call 85; refine (HL.out _ (HC2.out.below (Below.refl _ _).drew)).mono ?_; rintro e w1 ⟨v, rfl, hown, hb1⟩; have hB1' : Below w0.heap.size w0 w1 := (Below.refl _ _).drew.trans hb1)
          | (have := hB2'; (refine step_append_txt (by rfl) _ _ (by rfl) w0.heap.size v R1 (by rfl) (Own.below hown hb2) R2 (by rfl) HIL.out hB2'.size ?_; intro g2 cap2 w3 hown2 hgr2; have hB3' : Below w0.heap.size w0 w3 := hB2'.grown hgr2 hB2'.size (fun q hq => (World.ownsRow.lt hown q hq).1))))
      rw [← HI.out] at hown2
      have hB6 := hB0.trans (hB3'.mono (by have := hB0.size; have := HBB.out; omega))
      have hown3 := hown2.mono (B' := B) (by have := hB0.size; have := HBB.out; omega)
      rw [← HBB.out] at hB6 hown3
      go_wp2
      rw [HRT.out]
      exact ⟨_, rfl, hown3, hB6⟩
  · obtain rfl : n = 1 := by omega
    have HI := Lib.hid (incM_one i hn)
    clear ih hz hc0 hn h2 hT
    go_enter Tryz.func85, Tryz.ntmps85
    go_wp2
    rw [HRT.out, HI.out]
    exact ⟨_, rfl, own_nil _ _, hB0⟩
end
end Go.Proofs.YtakgolbgeeoioaaGreat
