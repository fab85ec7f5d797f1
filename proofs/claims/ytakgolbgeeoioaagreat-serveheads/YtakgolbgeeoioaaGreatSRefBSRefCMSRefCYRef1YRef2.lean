/-
  The reference's Climb. Which keys of a list of pairs come no more. The reference's Last. Small, Few, Leaves, Pairs: the reference's of layer 11. Leaves: the reference's of layer 11.
-/
import Derived.Test.YtakgolbgeeoioaaGreatHStepSTreeSConvSPlantSBitSRefASFitP
import Derived.Test.YtakgolbgeeoioaaGreatWNumWReqYKind
import Derived.Test.YtakgolbgeeoioaaGreatMRefLSRefAHSBitMSPairSRefAMHStep
namespace Go.Proofs.YtakgolbgeeoioaaGreat
open Go.RowKit

section
attribute [-go_sem] loadVar
set_option maxRecDepth 100000 in
set_option maxHeartbeats 1000000 in
theorem rclimb_any (p x : ByteArray) (hp : p.size = 32) (hx : x.size = 32) (d : Nat) (hd : d ≤ 256) (w : World) :
 Calls Tryz.prog 84 #[.agg (emC emp), .string p, .string x, .int .i64 256, .int .i64 d] w fun e w' => (∃ r : ByteArray, e = .returned (.string r) ∧ r.size = 32) ∧ Below w.heap.size w w' := by
 have b0 : Blk (w.alloc (.cells (emC emp) 55)) w.heap.size 55 (emC emp) := Blk.new _ _ _
 have hB0 := (Below.refl _ w).alloc (Nat.le_refl _) (.cells (emC emp) 55)
 have HBI := Lib.hid (fun i (hi : i < 256) W => rbit_any p i hi (by omega) W)
 have HES := Lib.hid emp_size
 have HH := Lib.hid (fun (b : ByteArray) (hb : b.size ≤ 1000) W => rh5_any b (by omega) W)
 have HHS := Lib.hid hB_size
 go_enter Tryz.func84, Tryz.ntmps84
 go_wp2
 generalize w.alloc (.cells (emC emp) 55) = w0 at *
 go_loopw [2, 11] (fun y v wr => ∃ (k : Nat) (X : ByteArray), d ≤ k ∧ k ≤ 256 ∧ y = .string X ∧ X.size = 32 ∧ v = .int .i64 ((k : Int) - 1) ∧ Blk wr w.heap.size 55 (emC emp) ∧ Below w.heap.size w wr) (fun _ v _ => ((intOf v) + 1).toNat)
 case atStart => exact ⟨256, x, hd, Nat.le_refl _, rfl, hx, rfl, b0, hB0⟩
 case round =>
  clear b0 hB0
  obtain ⟨k, X, hdk, hk, rfl, hX, rfl, hbr, hBr⟩ := hrel
  by_cases hlt : d < k
  · obtain ⟨j, rfl⟩ : ∃ j, k = j + 1 := ⟨k - 1, by omega⟩
    rw [show (((j + 1 : Nat) : Int) - 1) = (j : Int) by omega]
    have hdj : (d : Int) ≤ (j : Int) := by omega
    have hcb := txt_load ((hbr.cell (j + 1)).trans (emC_at emp (by omega)))
    have hes := HES.out (j + 1)
    generalize emp (j + 1) = E at *
    have z0 : (⟨#[78]⟩ : ByteArray).size = 1 := rfl
    have a1 : ¬ (⟨#[78]⟩ : ByteArray).size + X.size > 9223372036854775807 := by omega
    have a2 : ¬ ((⟨#[78]⟩ : ByteArray) ++ X).size + E.size > 9223372036854775807 := by simp only [ByteArray.size_append]; omega
    have a3 : ¬ (⟨#[78]⟩ : ByteArray).size + E.size > 9223372036854775807 := by omega
    have a4 : ¬ ((⟨#[78]⟩ : ByteArray) ++ E).size + X.size > 9223372036854775807 := by simp only [ByteArray.size_append]; omega
    have H1 := Lib.hid (HH.out (⟨#[78]⟩ ++ X ++ E) (by simp only [ByteArray.size_append]; omega))
    have H2 := Lib.hid (HH.out (⟨#[78]⟩ ++ E ++ X) (by simp only [ByteArray.size_append]; omega))
    have S1 := Lib.hid (HHS.out (⟨#[78]⟩ ++ X ++ E))
    have S2 := Lib.hid (HHS.out (⟨#[78]⟩ ++ E ++ X))
    have HBJ := Lib.hid (HBI.out j (by omega))
    have hb2 : bitN p j = 0 ∨ bitN p j = 1 := by rw [bitN_eq]; split <;> simp
    have HBR := Lib.hid hbr
    have HBB := Lib.hid hBr
    have hj8 : (j : Int) + 1 < 257 := by omega
    clear HBI HH HHS HES z0 hbr hBr hes hX
    go_wp2_with fail
    refine (HBJ.out _).mono ?_
    rintro e w2 ⟨rfl, rfl⟩
    rcases hb2 with hb2 | hb2
    · rw [hb2]
      go_wp2_with fail
      refine (H1.out _).mono ?_
      rintro e w3 ⟨rfl, hb3⟩
      have k3 := HBR.out.below hb3 HBR.out.lt
      have hB3 := HBB.out.trans (hb3.mono HBB.out.size)
      clear hb3 hcb
      generalize hB (⟨#[78]⟩ ++ X ++ E) = R at *
      go_wp2
      go_roundw
      case rel => exact ⟨j, R, by omega, by omega, rfl, S1.out, by go_num, k3, hB3⟩
      case measure => simp [intOf]
    · rw [hb2]
      go_wp2_with fail
      refine (H2.out _).mono ?_
      rintro e w3 ⟨rfl, hb3⟩
      have k3 := HBR.out.below hb3 HBR.out.lt
      have hB3 := HBB.out.trans (hb3.mono HBB.out.size)
      clear hb3 hcb
      generalize hB (⟨#[78]⟩ ++ E ++ X) = R at *
      go_wp2
      go_roundw
      case rel => exact ⟨j, R, by omega, by omega, rfl, S2.out, by go_num, k3, hB3⟩
      case measure => simp [intOf]
  · obtain rfl : k = d := by omega
    have hdj : ¬ (k : Int) ≤ (k : Int) - 1 := by omega
    generalize hq : (k : Int) - 1 = q at *
    clear hlt
    go_wp2
    go_ret
    exact ⟨⟨X, rfl, hX⟩, hBr⟩
end
end Go.Proofs.YtakgolbgeeoioaaGreat
namespace Go.Proofs.YtakgolbgeeoioaaGreat
open Go.RowKit

/-- the key of the pair i -/
def keyP (ps : List (ByteArray × ByteArray)) (i : Nat) : ByteArray := (ps.getD i (ByteArray.empty, ByteArray.empty)).1
/-- has one of the t pairs behind i its key? -/
def agn (ps : List (ByteArray × ByteArray)) (i : Nat) : Nat → Bool
 | 0 => false
 | t + 1 => agn ps i t || decide (keyP ps (i + 1 + t) = keyP ps i)
/-- of the first k pairs those of which the key comes no more -/
def lastK (ps : List (ByteArray × ByteArray)) : Nat → List (ByteArray × ByteArray)
 | 0 => []
 | k + 1 => lastK ps k ++ (if agn ps k (ps.length - (k + 1)) then [] else [ps.getD k (ByteArray.empty, ByteArray.empty)])
theorem lastK_len (ps : List (ByteArray × ByteArray)) : ∀ k, (lastK ps k).length ≤ k
 | 0 => Nat.le_refl _
 | k + 1 => by
  have := lastK_len ps k
  rw [lastK, List.length_append]
  split <;> simp <;> omega
theorem getD_pair {ps : List (ByteArray × ByteArray)} {i : Nat} (h : i < ps.length) : ps.getD i (ByteArray.empty, ByteArray.empty) = ps[i] := by
 rw [List.getD_eq_getElem?_getD, List.getElem?_eq_getElem h]; rfl
theorem lastK_mem (ps : List (ByteArray × ByteArray)) : ∀ k, k ≤ ps.length → ∀ x ∈ lastK ps k, x ∈ ps
 | 0, _, _, h => by cases h
 | k + 1, hk, x, h => by
  rw [lastK] at h
  rcases List.mem_append.1 h with h | h
  · exact lastK_mem ps k (by omega) x h
  · split at h
    · cases h
    · rw [List.mem_singleton.1 h, getD_pair (by omega)]
      exact List.getElem_mem _
/-- what a call that makes a slice of pairs answers -/
def RTP (ps : List (ByteArray × ByteArray)) (w : World) (e : Ending) (w' : World) : Prop := ∃ v, e = .returned v ∧ OwnP w' w.heap.size v ps ∧ Below w.heap.size w w'
theorem OwnP.at {w : World} {B : Nat} {v : Value} {ps : List (ByteArray × ByteArray)} (h : OwnP w B v ps) : ∃ oa cap, v = .slice oa ps.length cap := by
 obtain ⟨oa, cap, hv, _⟩ := h.form
 exact ⟨oa, cap, hv⟩
theorem Prs.grown {w w' : World} {oa : Option Addr} {ps : List (ByteArray × ByteArray)} {B : Nat} {row : Option Nat} (h : Prs w oa ps) (hg : w.grownBy w' row) (hr : ∀ g, row = some g → B ≤ g) (hb : ∀ a, oa = some a → a.block < B) : Prs w' oa ps := by
 rcases h with h | ⟨g, o, h1, h2⟩
 · exact .inl h
 · have hne : some g ≠ row := fun e => by have := hr g e.symm; have := hb _ h1; simp at this; omega
   have he : ∀ k, w'.cell? ⟨g, k, none⟩ = w.cell? ⟨g, k, none⟩ := fun k => World.cell?_of_block (a := ⟨g, k, none⟩) (hg.block g h2.1 hne)
   exact .inr ⟨g, o, h1, Nat.lt_of_lt_of_le h2.1 hg.size, fun i hi => by rw [he, he]; exact h2.2 i hi⟩
end Go.Proofs.YtakgolbgeeoioaaGreat
namespace Go.Proofs.YtakgolbgeeoioaaGreat
open Go.RowKit

set_option maxRecDepth 100000 in
set_option maxHeartbeats 2000000 in
theorem last_any (oa : Option Addr) (n cap : Nat) (ps : List (ByteArray × ByteArray)) (hn : ps.length = n) (hsz : n ≤ 1000) (w : World) (hP : Prs w oa ps) :
 Calls Tryz.prog 68 #[.slice oa n cap] w (RTP (lastK ps n) w) := by
 have HRT : Hid (∀ e w', RTP (lastK ps n) w e w' = ∃ v, e = .returned v ∧ OwnP w' w.heap.size v (lastK ps n) ∧ Below w.heap.size w w') := Lib.hid fun _ _ => rfl
 generalize RTP (lastK ps n) w = PO at *
 have HL0 : Hid (lastK ps 0 = []) := Lib.hid rfl
 have HLS : Hid (∀ k, lastK ps (k + 1) = lastK ps k ++ (if agn ps k (n - (k + 1)) then [] else [ps.getD k (ByteArray.empty, ByteArray.empty)])) := Lib.hid fun k => by rw [lastK, hn]
 have HLL := Lib.hid (lastK_len ps)
 have HA0 : Hid (∀ k, agn ps k 0 = false) := Lib.hid fun _ => rfl
 have HAS : Hid (∀ k t, agn ps k (t + 1) = (agn ps k t || decide (keyP ps (k + 1 + t) = keyP ps k))) := Lib.hid fun _ _ => rfl
 have HP := Lib.hid hP
 have HAT : Hid (∀ W i, Below w.heap.size w W → i < n → ∃ g o, oa = some ⟨g, o, none⟩ ∧ g < w.heap.size ∧ W.cell? ⟨g, o + i * 2, none⟩ = some (.string (keyP ps i)) ∧ W.cell? ⟨g, o + i * 2 + 1, none⟩ = some (.string (ps.getD i (ByteArray.empty, ByteArray.empty)).2)) := Lib.hid fun W i hW hi => by
  obtain ⟨g, o, h1, h2, h3, h4⟩ := hP.at (i := i) (by omega)
  refine ⟨g, o, h1, h2, ?_, ?_⟩
  · unfold keyP; rw [getD_pair (by omega)]; exact (hW.cell (p := ⟨g, o + i * 2, none⟩) h2).trans h3
  · rw [getD_pair (by omega)]; exact (hW.cell (p := ⟨g, o + i * 2 + 1, none⟩) h2).trans h4
 have HKP : Hid (∀ i, (ps.getD i (ByteArray.empty, ByteArray.empty)) = (keyP ps i, (ps.getD i (ByteArray.empty, ByteArray.empty)).2)) := Lib.hid fun _ => rfl
 generalize lastK ps = LK at *
 generalize agn ps = AG at *
 generalize keyP ps = KP at *
 clear hP hn HP
 go_enter Tryz.func68, Tryz.ntmps68
 go_wp2
 go_loopw [3, 4] (fun v i wr => ∃ k : Nat, k ≤ n ∧ i = .int .i64 k ∧ OwnP wr w.heap.size v (LK k) ∧ Below w.heap.size w wr) (fun _ i _ => n - (intOf i).toNat)
 case atStart => exact ⟨0, by omega, rfl, by rw [HL0.out]; exact ownP_nil _ _, Below.refl _ _⟩
 case round =>
  obtain ⟨k, hk, rfl, hown, hB⟩ := hrel
  obtain ⟨ov, cv, rfl⟩ := hown.at
  by_cases hlt : k < n
  · have hlt' : (k : Int) < (n : Int) := by omega
    have HO := Lib.hid hown
    have HBr := Lib.hid hB
    clear hown hB
    go_wp2
    generalize wr = wo at *
    go_loopw [5, 6] (fun ag i w2 => ∃ t : Nat, k + 1 + t ≤ n ∧ ag = .bool (AG k t) ∧ i = .int .i64 (k + 1 + t : Nat) ∧ ∃ q, w2 = wo.drewN q) (fun _ i _ => n - (intOf i).toNat)
    case atStart => exact ⟨0, by omega, by rw [HA0.out], by go_num, 0, rfl⟩
    case round =>
     obtain ⟨t, ht, rfl, rfl, q, hq⟩ := hrel
     have hB2 : Below w.heap.size w wr := by rw [hq]; exact below_drewN HBr.out q
     by_cases hlt2 : k + 1 + t < n
     · have hlt2' : ((k + 1 + t : Nat) : Int) < (n : Int) := by omega
       obtain ⟨g, o, rfl, hg, c1, _⟩ := HAT.out wr (k + 1 + t) hB2 hlt2
       obtain ⟨g', o', hgo, hg', d1, _⟩ := HAT.out wr k hB2 hlt
       have hgo' : g = g' ∧ o = o' := by simpa using hgo
       obtain ⟨rfl, rfl⟩ := hgo'
       have HA1 := Lib.hid (HAS.out k t)
       have HX := Lib.hid (beqB5 (KP (k + 1 + t)) (KP k))
       generalize AG k t = ag at *
       generalize KP (k + 1 + t) = X at *
       generalize KP k = Y at *
       have HQ := Lib.hid hq
       obtain ⟨z, hz⟩ : ∃ z, k + 1 + t = z := ⟨_, rfl⟩
       rw [hz] at hlt2' c1 ⊢
       have HZ := Lib.hid hz
       clear hq hB2 hgo hz ht hlt2
       cases ag
       · go_wp2
         go_quiet (fail)
         rw [HX.out]
         go_wp2
         go_roundw
         case rel => exact ⟨t + 1, by have := HZ.out; omega, by rw [HA1.out]; rfl, by rw [show k + 1 + (t + 1) = z + 1 by have := HZ.out; omega]; go_num, q + nq, by rw [HQ.out, World.drewN_drewN]⟩
         case measure => simp [intOf]; omega
       · go_wp2
         go_quiet (fail)
         go_wp2
         go_roundw
         case rel => exact ⟨t + 1, by have := HZ.out; omega, by rw [HA1.out]; rfl, by rw [show k + 1 + (t + 1) = z + 1 by have := HZ.out; omega]; go_num, q + nq, by rw [HQ.out, World.drewN_drewN]⟩
         case measure => simp [intOf]; omega
     · have hlt2' : ¬ ((k + 1 + t : Nat) : Int) < (n : Int) := by omega
       obtain rfl : t = n - (k + 1) := by omega
       have HLS1 := Lib.hid (HLS.out k)
       have hoq : OwnP wr w.heap.size (.slice ov (LK k).length cv) (LK k) := by rw [hq]; exact HO.out.below (below_drewN (Below.refl _ _) q)
       obtain ⟨g, o, rfl, hg, c1, c2⟩ := HAT.out wr k hB2 hlt
       have HKP1 := Lib.hid (HKP.out k)
       have hll := HLL.out k
       generalize AG k (n - (k + 1)) = ag at *
       generalize hzz : k + 1 + (n - (k + 1)) = z at *
       generalize ps.getD k (ByteArray.empty, ByteArray.empty) = pk at *
       obtain ⟨X, Y⟩ := pk
       have hXk : KP k = X := by have := HKP1.out; injection this with h1; exact h1.symm
       rw [hXk] at c1
       have HB2 := Lib.hid hB2
       clear hq HO HBr hB2 HKP1 hXk
       cases ag
       · go_wp2_with (at_builtin; refine wpList_append_pair rfl _ _ rfl w.heap.size (.slice ov (LK k).length cv) (LK k) rfl hoq (X, Y) rfl (by omega) HB2.out.size ?_)
         intro g5 c5 w5 hown5 hg5 _
         have hB5 := HB2.out.grown hg5 HB2.out.size (fun y hy => (World.ownsRow.lt hoq y hy).1)
         have hl5 : (LK (k + 1)).length = (LK k).length + 1 := by rw [HLS1.out]; simp
         clear hoq hg5
         go_wp2
         go_roundw
         case rel => exact ⟨k + 1, by omega, by go_num, by rw [HLS1.out]; exact hown5, hB5⟩
         case measure => simp [intOf]; omega
       · go_wp2
         go_roundw
         case rel => exact ⟨k + 1, by omega, by go_num, by rw [HLS1.out]; simp; exact hoq, HB2.out⟩
         case measure => simp [intOf]; omega
  · obtain rfl : k = n := by omega
    have hlt' : ¬ (k : Int) < (k : Int) := by omega
    clear hlt
    go_wp2
    rw [HRT.out]
    exact ⟨_, rfl, hown, hB⟩
end Go.Proofs.YtakgolbgeeoioaaGreat
namespace Go.Proofs.YtakgolbgeeoioaaGreat
open Go.RowKit

/-- a request of a size that is looked at -/
def smallB (r : Req) : Bool := decide (r.l.size ≤ 250 ∧ r.k.size ≤ 100 ∧ r.v.size ≤ 150)
set_option maxRecDepth 100000 in
set_option maxHeartbeats 1000000 in
theorem rsmall_any (r : Req) (w : World) : Calls Tryz.prog 15 #[.agg r.enc.toArray] w fun e w' => e = .returned (.bool (smallB r)) ∧ Below w.heap.size w w' := by
 obtain ⟨c, q, l, k, v⟩ := r
 show Calls Tryz.prog _ #[.agg #[.int .i64 c, .int .i64 q, .string l, .string k, .string v]] w _
 have hB0 := (Below.refl _ w).alloc (Nat.le_refl _) (.cells #[.int .i64 c, .int .i64 q, .string l, .string k, .string v] 61)
 have hK := Blk.new w 61 #[.int .i64 c, .int .i64 q, .string l, .string k, .string v]
 obtain ⟨_, _, c2, c3, c4⟩ := cells5 hK
 have HV : Hid (∀ b : Bool, (b = true ↔ (l.size ≤ 250 ∧ k.size ≤ 100 ∧ v.size ≤ 150)) → b = smallB ⟨c, q, l, k, v⟩) := Lib.hid fun b h => by
  unfold smallB
  rw [Bool.eq_iff_iff, decide_eq_true_iff]
  exact h
 generalize smallB ⟨c, q, l, k, v⟩ = V at *
 clear hK
 by_cases h1 : l.size ≤ 250
 · have h1' : (l.size : Int) ≤ 250 := by omega
   by_cases h2 : k.size ≤ 100
   · have h2' : (k.size : Int) ≤ 100 := by omega
     go_enter Tryz.func15, Tryz.ntmps15
     go_wp2
     go_ret
     exact ⟨boolEq (HV.out _ (by simp [h1, h2]; try omega)), hB0⟩
   · have h2' : ¬ (k.size : Int) ≤ 100 := by omega
     go_enter Tryz.func15, Tryz.ntmps15
     go_wp2
     go_ret
     exact ⟨boolEq (HV.out _ (by simp [h2])), hB0⟩
 · have h1' : ¬ (l.size : Int) ≤ 250 := by omega
   go_enter Tryz.func15, Tryz.ntmps15
   go_wp2
   go_ret
   exact ⟨boolEq (HV.out _ (by simp [h1])), hB0⟩
/-- what Few answers -/
def RFewO (n m : Nat) (os : List OpR) (w : World) (e : Ending) (w' : World) : Prop := (∃ b, e = .returned (.bool b) ∧ (b = true → n ≤ m ∧ ∀ x ∈ os, smallB x.r = true)) ∧ Below w.heap.size w w'
set_option maxRecDepth 100000 in
set_option maxHeartbeats 1000000 in
theorem rfewO_any (oa : Option Addr) (n cap m : Nat) (os : List OpR) (hn : os.length = n) (hm : m ≤ 200) (w : World) (hP : RowG opK w oa os) :
 Calls Tryz.prog 8 #[.slice oa n cap, .int .i64 m] w (RFewO n m os w) := by
 have HP := Lib.hid hP
 have HN := Lib.hid hn
 have HRF : Hid (∀ e w', RFewO n m os w e w' = ((∃ b, e = .returned (.bool b) ∧ (b = true → n ≤ m ∧ ∀ x ∈ os, smallB x.r = true)) ∧ Below w.heap.size w w')) := Lib.hid fun _ _ => rfl
 have HSM := Lib.hid rsmall_any
 generalize RFewO n m os w = PO at *
 clear hP hn
 go_enter Tryz.func8, Tryz.ntmps8
 go_wp2
 go_loopw [5] (fun v wr => ∃ k : Nat, k ≤ n ∧ k ≤ 200 ∧ v = .int .i64 k ∧ Hid (∀ i (h : i < os.length), i < k → smallB os[i].r = true) ∧ Below w.heap.size w wr) (fun v _ => 200 - (intOf v).toNat)
 case atStart => exact ⟨0, by omega, by omega, rfl, Lib.hid fun i _ h => absurd h (Nat.not_lt_zero _), Below.refl _ _⟩
 case round =>
  obtain ⟨k, hk, hk5, rfl, HF, hB⟩ := hrel
  by_cases hkn : k < n
  · have hkn' : (k : Int) < (n : Int) := by omega
    by_cases hk50 : k < 200
    · have hk50' : (k : Int) < 200 := by omega
      obtain ⟨g, o, rfl, hg, c0, c1, c2, c3, c4, _, _⟩ := op_at (HP.out.below hB) (i := k) (by rw [HN.out]; exact hkn)
      have HK := Lib.hid (show ∀ i (h : i < os.length), i < k + 1 → smallB (os[k]'(by rw [HN.out]; exact hkn)).r = true → smallB os[i].r = true from fun i h hi hh => by
       rcases Nat.lt_or_eq_of_le (Nat.le_of_lt_succ hi) with h1 | rfl
       · exact HF.out i h h1
       · exact hh)
      generalize hR : (os[k]'(by rw [HN.out]; exact hkn)).r = r at *
      have HS1 := Lib.hid (HSM.out r)
      generalize smallB r = sb at *
      obtain ⟨rc, rq, rl, rk, rv⟩ := r
      change Hid (∀ W, Calls Tryz.prog _ #[.agg #[.int .i64 rc, .int .i64 rq, .string rl, .string rk, .string rv]] W _) at HS1
      clear hR HSM
      go_wp2_with fail
      refine (HS1.out _).mono ?_
      rintro e w2 ⟨rfl, hb2⟩
      have hB2 := hB.trans (hb2.mono hB.size)
      clear c0 c1 c2 c3 c4 hB hb2
      cases sb
      · go_wp2
        rw [HRF.out]
        exact ⟨⟨false, rfl, fun h => by cases h⟩, hB2⟩
      · go_wp2
        go_roundw
        case rel => exact ⟨k + 1, by omega, by omega, by go_num, Lib.hid fun i h hi => HK.out i h hi trivial, hB2⟩
        case measure => simp [intOf]; omega
    · have hk50' : ¬ (k : Int) < 200 := by omega
      have hnm : ¬ (n : Int) ≤ (m : Int) := by omega
      go_wp2
      rw [HRF.out]
      exact ⟨⟨false, rfl, fun h => by cases h⟩, hB⟩
  · have hkn' : ¬ (k : Int) < (n : Int) := by omega
    have HFin : Hid (n ≤ m → n ≤ m ∧ ∀ x ∈ os, smallB x.r = true) := Lib.hid fun h => ⟨h, fun x hx => by
     obtain ⟨i, hi, rfl⟩ := List.getElem_of_mem hx
     exact HF.out i hi (by have := HN.out; omega)⟩
    by_cases hnm : n ≤ m
    · have hnm' : (n : Int) ≤ (m : Int) := by omega
      go_wp2
      rw [HRF.out]
      exact ⟨⟨true, rfl, fun _ => HFin.out hnm⟩, hB⟩
    · have hnm' : ¬ (n : Int) ≤ (m : Int) := by omega
      go_wp2
      rw [HRF.out]
      exact ⟨⟨false, rfl, fun h => by cases h⟩, hB⟩
end Go.Proofs.YtakgolbgeeoioaaGreat
namespace Go.Proofs.YtakgolbgeeoioaaGreat
open Go.RowKit

/-- a request's bytes, and its leaf's hash -/
def reqQ (r : Req) : ByteArray := reqB r.c r.q r.l r.k r.v
def leafQ (r : Req) : ByteArray := leafM (reqQ r)
/-- requests that are not too long -/
def SzQ (tk : List Req) : Prop := ∀ r ∈ tk, smallB r = true
theorem SzQ.get {tk : List Req} (h : SzQ tk) {i : Nat} (hi : i < tk.length) : tk[i].l.size ≤ 250 ∧ tk[i].k.size ≤ 100 ∧ tk[i].v.size ≤ 150 := of_decide_eq_true (h _ (List.getElem_mem hi))
theorem SzQ.reqs {tk : List Req} (h : SzQ tk) (n : Nat) : Sz ((tk.take n).map reqQ) := by
 intro x hx
 obtain ⟨r, hr, rfl⟩ := List.mem_map.1 hx
 have := of_decide_eq_true (h r (List.mem_of_mem_take hr))
 unfold reqQ
 rw [reqB_size]
 omega
theorem reqs_take (tk : List Req) (k : Nat) (h : k < tk.length) : (tk.take (k + 1)).map reqQ = (tk.take k).map reqQ ++ [reqQ tk[k]] := by
 rw [List.take_succ_eq_append_getElem h, List.map_append]
 rfl
set_option maxRecDepth 100000 in
set_option maxHeartbeats 1000000 in
theorem rleavesW_any (oa : Option Addr) (N ca n : Nat) (vb vc : Value) (tk : List Req) (hN : tk.length = N) (hn : n ≤ N) (hN2 : N ≤ 1000000) (hz : SzQ tk) (w : World) (hP : RowG reqK w oa tk) :
 Calls Tryz.prog 33 #[.agg #[.slice oa N ca, vb, vc], .int .i64 n] w (RT ((tk.take n).map leafQ) w) := by
 have HRT := Lib.hid (show ∀ e w', RT ((tk.take n).map leafQ) w e w' = ∃ v, e = .returned v ∧ Own w' w.heap.size v ((tk.take n).map leafQ) ∧ Below w.heap.size w w' from fun _ _ => rfl)
 have HLV : Hid (∀ (ob : Option Addr) (cb : Nat) (W : World), Strs W ob ((tk.take n).map reqQ) → Calls Tryz.prog 65 #[.slice ob n cb] W fun e w' => ∃ v, e = .returned v ∧ Own w' W.heap.size v ((tk.take n).map leafQ) ∧ Below W.heap.size W w') := Lib.hid fun ob cb W hS => by
  have := rleaves_any ob n cb ((tk.take n).map reqQ) (by rw [List.length_map, List.length_take]; omega) (by omega) (hz.reqs n) W hS
  rw [List.map_map] at this
  exact this
 have HF0 := Lib.hid (show (tk.take 0).map reqQ = [] from rfl)
 have HFL := Lib.hid (show ∀ k, k ≤ n → ((tk.take k).map reqQ).length = k from fun k hk => by rw [List.length_map, List.length_take]; omega)
 have HFS : Hid (∀ k, k < n → ∃ r : Req, smallB r = true ∧ (tk.take (k + 1)).map reqQ = (tk.take k).map reqQ ++ [reqQ r] ∧ ∃ g o, oa = some ⟨g, o, none⟩ ∧ ∀ W, Below w.heap.size w W → W.cell? ⟨g, o + k * 5, none⟩ = some (.int .i64 r.c) ∧ W.cell? ⟨g, o + k * 5 + 1, none⟩ = some (.int .i64 r.q) ∧ W.cell? ⟨g, o + k * 5 + 2, none⟩ = some (.string r.l) ∧ W.cell? ⟨g, o + k * 5 + 3, none⟩ = some (.string r.k) ∧ W.cell? ⟨g, o + k * 5 + 4, none⟩ = some (.string r.v)) := Lib.hid fun k hk => by
  obtain ⟨g, o, h1, h2, c0, c1, c2, c3, c4⟩ := req_at hP (i := k) (by omega)
  refine ⟨tk[k]'(by omega), hz _ (List.getElem_mem _), reqs_take tk k (by omega), g, o, h1, fun W hW => ?_⟩
  have hc := fun j => hW.cell (p := ⟨g, j, none⟩) h2
  exact ⟨(hc _).trans c0, (hc _).trans c1, (hc _).trans c2, (hc _).trans c3, (hc _).trans c4⟩
 have HRQ : Hid (∀ (r : Req), smallB r = true → ∀ W, Calls Tryz.prog 35 #[.agg #[.int .i64 r.c, .int .i64 r.q, .string r.l, .string r.k, .string r.v]] W fun e w' => e = .returned (.string (reqQ r)) ∧ Below W.heap.size W w') := Lib.hid fun r hr W => by
  have := of_decide_eq_true hr
  exact rrequest_any r.c r.q r.l r.k r.v (by omega) (by omega) (by omega) W
 have hB0 := (Below.refl _ w).alloc (Nat.le_refl _) (.cells #[.slice oa N ca, vb, vc] 43)
 have hK := Blk.new w 43 #[.slice oa N ca, vb, vc]
 generalize RT ((tk.take n).map leafQ) w = PO at *
 generalize (tk.take n).map leafQ = L at *
 generalize hF : (fun k => (tk.take k).map reqQ) = F at *
 have hF' : ∀ k, (tk.take k).map reqQ = F k := fun k => by rw [← hF]
 simp only [hF'] at HF0 HFS HFL HLV
 clear hF hF' hz hP hN
 go_enter Tryz.func33, Tryz.ntmps33
 go_wp2
 generalize w.alloc (.cells #[.slice oa N ca, vb, vc] 43) = w0 at *
 go_loopw [5, 6] (fun v i wr => ∃ k : Nat, k ≤ n ∧ i = .int .i64 k ∧ Own wr (w.heap.size + 1) v (F k) ∧ Blk wr w.heap.size 43 #[.slice oa N ca, vb, vc] ∧ Below w.heap.size w wr) (fun _ i _ => n - (intOf i).toNat)
 case atStart => exact ⟨0, by omega, rfl, by rw [HF0.out]; exact own_nil _ _, hK, hB0⟩
 case round =>
  clear hK hB0
  obtain ⟨k, hk, rfl, hown, hK, hB⟩ := hrel
  by_cases hlt : k < n
  · have hlt' : (k : Int) < (n : Int) := by omega
    have hkN : (k : Int) < (N : Int) := by omega
    obtain ⟨r, hr, hfs, g, o, rfl, hcs⟩ := HFS.out k hlt
    obtain ⟨c0, c1, c2, c3, c4⟩ := hcs wr hB
    have d0 : wr.cell? ⟨w.heap.size, 0, none⟩ = some (.slice (some ⟨g, o, none⟩) N ca) := hK.cell 0
    have HQ := Lib.hid (HRQ.out r hr)
    have HFK := Lib.hid hfs
    have HFKL := Lib.hid (HFL.out k hk)
    have hlen : (F k).length ≤ 1073741824 := by rw [HFL.out k hk]; omega
    have HK := Lib.hid hK
    generalize reqQ r = R at *
    obtain ⟨rc, rq, rl, rk, rv⟩ := r
    have hBk : w.heap.size + 1 ≤ wr.heap.size := hK.lt
    clear hfs hr hcs hK
    go_wp2_with fail
    refine (HQ.out _).mono ?_
    rintro e w1 ⟨rfl, hb1⟩
    have hown1 := hown.below hb1
    have hK1 := HK.out.below hb1 HK.out.lt
    have hB1 := hB.trans (hb1.mono hB.size)
    have hBk1 := Nat.le_trans hBk hb1.size
    clear hown hB hb1 c0 c1 c2 c3 c4 d0
    go_wp2_with (at_builtin; refine wpList_append_txt rfl _ _ rfl (w.heap.size + 1) u5 (F k) rfl hown1 R rfl hlen hBk1 ?_)
    intro g5 c5 w5 hown5 hg5
    rw [HFKL.out, ← HFK.out] at hown5
    have hB5 := hB1.grown hg5 hB1.size (fun z hz => by have := (World.ownsRow.lt hown1 z hz).1; omega)
    have hK5 := hK1.grown hg5 (fun e => by have := (World.ownsRow.lt hown1 w.heap.size e.symm).1; omega)
    clear hown1 hB1 hg5 hK1
    rw [HFKL.out]
    go_wp2
    go_roundw
    case rel => exact ⟨k + 1, by omega, by go_num, hown5, hK5, hB5⟩
    case measure => simp [intOf]; omega
  · obtain rfl : k = n := by omega
    have hlt' : ¬ (k : Int) < (k : Int) := by omega
    obtain ⟨ob, cb, hv, hS⟩ := hown.form
    rw [HFL.out k (Nat.le_refl _)] at hv
    subst hv
    have HLVN := Lib.hid (fun W hS => HLV.out ob cb W hS)
    clear hlt hk
    go_wp2_with fail
    refine (HLVN.out _ hS).mono ?_
    rintro e w1 ⟨v, rfl, hv, hb1⟩
    have hB1 := hB.trans (hb1.mono hB.size)
    go_wp2
    rw [HRT.out]
    exact ⟨_, rfl, hv.mono hB.size, hB1⟩
end Go.Proofs.YtakgolbgeeoioaaGreat
