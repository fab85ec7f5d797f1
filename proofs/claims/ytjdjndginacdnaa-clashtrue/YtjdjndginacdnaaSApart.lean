/-
  The reference's Apart.
-/
import Derived.Test.YtjdjndginacdnaaSFitPSRefCMSMapSMadeM
import Derived.Test.YtjdjndginacdnaaSEachMSRefAH
import Derived.Test.YtjdjndginacdnaaSDnSClMSUnfMSVerM
import Derived.Test.YtjdjndginacdnaaHSumHStepSTree
namespace Go.Proofs.Ytjdjndginacdnaa
open Go.RowKit

theorem own_one5 (W : World) (y : ByteArray) : Own (W.alloc (.cells #[.string y] 9)) W.heap.size (.slice (some ⟨W.heap.size, 0, none⟩) 1 1) [y] :=
  ⟨rfl, .inr ⟨W.heap.size, 1, #[.string y], rfl, Nat.le_refl _, Blk.new _ _ _, Nat.le_refl _, by decide, rfl, rfl⟩⟩
/-- keys of one path are one key, among those of the pairs and the other -/
def AptK (ps : List (ByteArray × ByteArray)) (k : ByteArray) : Prop := ∀ x, x ∈ k :: ps.map (·.1) → ∀ y, y ∈ k :: ps.map (·.1) → pathS x = pathS y → x = y
/-- the other key, then those of the pairs -/
def kk (ps : List (ByteArray × ByteArray)) (k : ByteArray) : Nat → ByteArray
  | 0 => k
  | i + 1 => keyP ps i
def ApN (f : Nat → ByteArray) (m : Nat) : Prop := ∀ a, a < m → ∀ b, b < m → pathS (f a) = pathS (f b) → f a = f b
theorem apN_one (f : Nat → ByteArray) : ApN f 1 := fun a ha b hb _ => by rw [show a = 0 by omega, show b = 0 by omega]
theorem apN_step {f : Nat → ByteArray} {m : Nat} (h : ApN f m) (h2 : ∀ j, j < m → pathS (f j) = pathS (f m) → f j = f m) : ApN f (m + 1) := fun a ha b hb e => by
  by_cases h1 : a < m
  · by_cases h3 : b < m
    · exact h a h1 b h3 e
    · obtain rfl : b = m := by omega
      exact h2 a h1 e
  · obtain rfl : a = m := by omega
    by_cases h3 : b < a
    · exact (h2 b h3 e.symm).symm
    · rw [show b = a by omega]
theorem apN_apt {ps : List (ByteArray × ByteArray)} {k : ByteArray} (h : ApN (kk ps k) (ps.length + 1)) : AptK ps k := by
  have hin : ∀ x, x ∈ k :: ps.map (·.1) → ∃ a, a < ps.length + 1 ∧ kk ps k a = x := fun x hx => by
    rcases List.mem_cons.1 hx with rfl | hx
    · exact ⟨0, by omega, rfl⟩
    · obtain ⟨p, hp, rfl⟩ := List.mem_map.1 hx
      obtain ⟨i, hi, rfl⟩ := List.getElem_of_mem hp
      refine ⟨i + 1, by omega, ?_⟩
      show keyP ps i = _
      unfold keyP
      rw [getD_pair hi]
  intro x hx y hy e
  obtain ⟨a, ha, rfl⟩ := hin x hx
  obtain ⟨b, hb, rfl⟩ := hin y hy
  exact h a ha b hb e
def RAp (ps : List (ByteArray × ByteArray)) (k : ByteArray) (w : World) (e : Ending) (w' : World) : Prop := (∃ b, e = .returned (.bool b) ∧ (b = true → AptK ps k)) ∧ Below w.heap.size w w'
set_option maxRecDepth 100000 in
set_option maxHeartbeats 2000000 in
theorem apart_any (oa : Option Addr) (n cap : Nat) (ps : List (ByteArray × ByteArray)) (hn : ps.length = n) (hsz : n ≤ 1000) (hF : FitP ps) (key : ByteArray) (hkey : key.size ≤ 60) (w : World) (hP : Prs w oa ps) :
    Calls Try.prog 13 #[.slice oa n cap, .string key] w (RAp ps key w) := by
  have HH := Lib.hid (show ∀ (k : ByteArray) (_ : k.size ≤ 60) W, Calls Try.prog 26 #[.string (⟨#[75]⟩ ++ k)] W fun e w' => e = .returned (.string (pathS k)) ∧ Below W.heap.size W w' from fun k hk W => by
    have h1 : (⟨#[75]⟩ : ByteArray).size = 1 := rfl
    have h2 : ((⟨#[75]⟩ : ByteArray) ++ k).size ≤ 1099511627776 := by rw [ByteArray.size_append, h1]; omega
    have := rh5_any (⟨#[75]⟩ ++ k) h2 W
    rw [show pathS k = hB (⟨#[75]⟩ ++ k) from rfl]
    exact this)
  have HRA : Hid (∀ e w', RAp ps key w e w' = ((∃ b, e = .returned (.bool b) ∧ (b = true → AptK ps key)) ∧ Below w.heap.size w w')) := Lib.hid fun _ _ => rfl
  generalize RAp ps key w = PO at *
  have HAE : Hid (ApN (kk ps key) (n + 1) → AptK ps key) := Lib.hid fun h => apN_apt (by rw [hn]; exact h)
  have HA1 := Lib.hid (apN_one (kk ps key))
  have HAS : Hid (∀ m, ApN (kk ps key) m → (∀ j, j < m → pathS (kk ps key j) = pathS (kk ps key m) → kk ps key j = kk ps key m) → ApN (kk ps key) (m + 1)) := Lib.hid fun m => apN_step
  have HAT : Hid (∀ W i, Below w.heap.size w W → i < n → ∃ g o, oa = some ⟨g, o, none⟩ ∧ W.cell? ⟨g, o + i * 2, none⟩ = some (.string (kk ps key (i + 1))) ∧ (kk ps key (i + 1)).size ≤ 60) := Lib.hid fun W i hW hi => by
    obtain ⟨g, o, h1, h2, h3, h4⟩ := hP.at (i := i) (by omega)
    have := hF.get (i := i) (by omega)
    have e : kk ps key (i + 1) = keyP ps i := rfl
    rw [e]
    refine ⟨g, o, h1, ?_, ?_⟩
    · unfold keyP; rw [getD_pair (by omega)]; exact (hW.cell (p := ⟨g, o + i * 2, none⟩) h2).trans h3
    · unfold keyP; rw [getD_pair (by omega)]; exact this.1
  have HK0 : Hid (kk ps key 0 = key) := Lib.hid rfl
  generalize AptK ps key = AK at *
  generalize ApN (kk ps key) = AN at *
  generalize kk ps key = KK at *
  generalize pathS = PS at *
  have HFS := Lib.hid (show ∀ k, fstN KK (k + 1) = fstN KK k ++ [KK k] from fun k => fstN_succ _ k)
  have HGS := Lib.hid (show ∀ k, fstN (fun i => PS (KK i)) (k + 1) = fstN (fun i => PS (KK i)) k ++ [PS (KK k)] from fun k => fstN_succ _ k)
  have HFL := Lib.hid (show ∀ k, (fstN KK k).length = k from fun k => fstN_length _ k)
  have HGL := Lib.hid (show ∀ k, (fstN (fun i => PS (KK i)) k).length = k from fun k => fstN_length _ k)
  have HFG := Lib.hid (fun m j (h : j < m) => fstN_get KK (n := m) h)
  have HGG := Lib.hid (fun m j (h : j < m) => fstN_get (fun i => PS (KK i)) (n := m) h)
  have HF1 : Hid (fstN KK 1 = [key]) := Lib.hid (by rw [← HK0.out]; rfl)
  have HG1 : Hid (fstN (fun i => PS (KK i)) 1 = [PS key]) := Lib.hid (by rw [← HK0.out]; rfl)
  generalize fstN KK = F at *
  generalize fstN (fun i => PS (KK i)) = G at *
  have HHK := Lib.hid (HH.out key hkey)
  obtain ⟨R0, hR0⟩ : ∃ R0, PS key = R0 := ⟨_, rfl⟩
  rw [hR0] at HHK HG1
  have z0 : (⟨#[75]⟩ : ByteArray).size = 1 := rfl
  have a1 : ¬ (⟨#[75]⟩ : ByteArray).size + key.size > 9223372036854775807 := by omega
  have o0 := own_one5 w key
  have hB0 := (Below.refl _ w).alloc (Nat.le_refl _) (.cells #[.string key] 9)
  have e0 : (w.alloc (.cells #[.string key] 9)).heap.size = w.heap.size + 1 := by simp
  clear hP hn hF hR0 z0
  go_enter Try.func13, Try.ntmps13
  go_wp2_with fail
  refine (HHK.out _).mono ?_
  rintro e w2 ⟨rfl, hb2⟩
  have o2 := o0.below hb2
  have hB2 := hB0.trans (hb2.mono (Nat.le_trans (Nat.le_succ _) (Nat.le_of_eq e0.symm)))
  have hs2 : w.heap.size < w2.heap.size := by have := hb2.size; omega
  clear o0 hb2 hB0 e0 a1
  have o3 := (own_one5 w2 R0).mono (B' := w.heap.size) (Nat.le_of_lt hs2)
  have o3k : Own (w2.alloc (.cells #[.string R0] 9)) w.heap.size (.slice (some ⟨w.heap.size, 0, none⟩) 1 1) [key] := World.ownsRow.alloc o2 _
  have hB3 := hB2.alloc hB2.size (.cells #[.string R0] 9)
  have hap : Apt (.slice (some ⟨w.heap.size, 0, none⟩) 1 1) (.slice (some ⟨w2.heap.size, 0, none⟩) 1 1) := fun g h1 h2 => by
    have h1' : w.heap.size = g := by simpa [Value.ownBlock] using h1
    have h2' : w2.heap.size = g := by simpa [Value.ownBlock] using h2
    omega
  rw [← HF1.out] at o3k
  rw [← HG1.out] at o3
  clear o2 hB2
  go_wp2
  go_loopw [5, 6, 7] (fun v u i wr => ∃ k : Nat, k ≤ n ∧ i = .int .i64 k ∧ Own wr w.heap.size v (F (k + 1)) ∧ Own wr w.heap.size u (G (k + 1)) ∧ Apt v u ∧ AN (k + 1) ∧ Below w.heap.size w wr) (fun _ _ i _ => n - (intOf i).toNat)
  case atStart => exact ⟨0, by omega, rfl, o3k, o3, hap, HA1.out, hB3⟩
  case round =>
    clear o3k o3 hap hB3 HF1 HG1 HHK HA1 hs2
    obtain ⟨k, hk, rfl, hown, hownp, hap, han, hB⟩ := hrel
    obtain ⟨gk, ck, hvk, hgk, hck, hrk⟩ := hown.row (by rw [HFL.out]; omega)
    obtain ⟨gp, cp, hvp, hgp, hcp, hrp⟩ := hownp.row (by rw [HGL.out]; omega)
    rw [HFL.out] at hvk
    rw [HGL.out] at hvp
    subst hvk hvp
    by_cases hlt : k < n
    · have hlt' : (k : Int) < (n : Int) := by omega
      obtain ⟨g, o, rfl, c1, hks⟩ := HAT.out wr k hB hlt
      have HH1 := Lib.hid (HH.out (KK (k + 1)) hks)
      have HAS1 := Lib.hid (HAS.out (k + 1) han)
      have HFS1 := Lib.hid (HFS.out (k + 1))
      have HGS1 := Lib.hid (HGS.out (k + 1))
      generalize PS (KK (k + 1)) = R at *
      have HKX : Hid (∀ W, Below w.heap.size w W → W.cell? ⟨g, o + k * 2, none⟩ = some (.string (KK (k + 1)))) := Lib.hid fun W hW => by
        obtain ⟨g', o', h1, h2, _⟩ := HAT.out W k hW hlt
        have h3 : g = g' ∧ o = o' := by simpa using h1
        obtain ⟨rfl, rfl⟩ := h3
        exact h2
      generalize KK (k + 1) = X at *
      have z0 : (⟨#[75]⟩ : ByteArray).size = 1 := rfl
      have a1 : ¬ (⟨#[75]⟩ : ByteArray).size + X.size > 9223372036854775807 := by omega
      have HO := Lib.hid hown
      have HOP := Lib.hid hownp
      have HRK := Lib.hid hrk
      have HRP := Lib.hid hrp
      have HB0 := Lib.hid hB
      clear hown hownp hrk hrp hB HH z0 hks han
      go_wp2_with fail
      refine (HH1.out _).mono ?_
      rintro e w4 ⟨rfl, hb4⟩
      have hB4 := HB0.out.trans (hb4.mono HB0.out.size)
      have HO4 := Lib.hid (HO.out.below hb4)
      have HOP4 := Lib.hid (HOP.out.below hb4)
      have HRK4 := Lib.hid (HRK.out.below hb4 HRK.out.1)
      have HRP4 := Lib.hid (HRP.out.below hb4 HRP.out.1)
      have HB4 := Lib.hid hB4
      clear hb4 HO HOP HRK HRP HB0 HH1 hB4 c1 a1
      go_wp2
      go_loopw [9] (fun i w5 => ∃ t : Nat, t ≤ k + 1 ∧ i = .int .i64 t ∧ (∀ j, j < t → PS (KK j) = R → KK j = X) ∧ ∃ q, w5 = w4.drewN q) (fun i _ => k + 1 - (intOf i).toNat)
      case atStart => exact ⟨0, by omega, rfl, fun j hj => absurd hj (Nat.not_lt_zero _), 0, rfl⟩
      case round =>
        generalize wr = w5 at *
        obtain ⟨t, ht, rfl, hall, q, hq⟩ := hrel
        have hB5 : Below w.heap.size w w5 := by rw [hq]; exact below_drewN HB4.out q
        by_cases hlt2 : t < k + 1
        · have hlt2' : (t : Int) < ((k + 1 : Nat) : Int) := by omega
          have c1 := HKX.out w5 hB5
          have c2 := HRK4.out.2 t (by rw [HFL.out]; exact hlt2)
          have c3 := HRP4.out.2 t (by rw [HGL.out]; exact hlt2)
          rw [HFG.out _ _ hlt2, Nat.zero_add] at c2
          rw [HGG.out _ _ hlt2, Nat.zero_add] at c3
          have c2' : w5.cell? ⟨gk, t, none⟩ = some (.string (KK t)) := by rw [hq]; exact c2
          have c3' : w5.cell? ⟨gp, t, none⟩ = some (.string (PS (KK t))) := by rw [hq]; exact c3
          have HX := Lib.hid (beqB5 (PS (KK t)) R)
          have HY := Lib.hid (beqB5 (KK t) X)
          have HAL : Hid ((PS (KK t) = R → KK t = X) → ∀ j, j < t + 1 → PS (KK j) = R → KK j = X) := Lib.hid fun h j hj e => by
            by_cases hjt : j < t
            · exact hall j hjt e
            · obtain rfl : j = t := by omega
              exact h e
          generalize PS (KK t) = Pt at *
          generalize KK t = Kt at *
          have HQ := Lib.hid hq
          have HB5 := Lib.hid hB5
          clear hq hB5 hall c2 c3 HAS1
          by_cases h1 : Pt = R
          · have hX1 : (Pt.toList == R.toList) = true := by rw [HX.out, decide_eq_true_iff]; exact h1
            by_cases h2 : Kt = X
            · have hY1 : (Kt.toList == X.toList) = true := by rw [HY.out, decide_eq_true_iff]; exact h2
              have hY2 : (Kt.toList != X.toList) = false := by unfold bne; rw [hY1]; rfl
              clear h1
              go_wp2
              go_quiet (fail)
              go_wp2
              go_roundw
              case rel => exact ⟨t + 1, by omega, by go_num, HAL.out fun _ => h2, q + nq, by rw [HQ.out, World.drewN_drewN]⟩
              case measure => simp [intOf]; omega
            · have hY1 : (Kt.toList == X.toList) = false := by rw [HY.out, decide_eq_false_iff_not]; exact h2
              have hY2 : (Kt.toList != X.toList) = true := by unfold bne; rw [hY1]; rfl
              clear h1 h2
              go_wp2
              go_quiet (fail)
              go_wp2
              rw [HRA.out]
              exact ⟨⟨false, rfl, fun h => by cases h⟩, below_drewN HB5.out nq⟩
          · have hX1 : (Pt.toList == R.toList) = false := by rw [HX.out, decide_eq_false_iff_not]; exact h1
            go_wp2
            go_quiet (fail)
            go_wp2
            go_roundw
            case rel => exact ⟨t + 1, by omega, by go_num, HAL.out fun h => absurd h h1, q + nq, by rw [HQ.out, World.drewN_drewN]⟩
            case measure => simp [intOf]; omega
        · have hlt2' : ¬ (t : Int) < ((k + 1 : Nat) : Int) := by omega
          obtain rfl : t = k + 1 := by omega
          have han2 := HAS1.out hall
          have c1 := HKX.out w5 hB5
          have hb5 : Below w4.heap.size w4 w5 := by rw [hq]; exact below_drewN (Below.refl _ _) q
          have hownk := HO4.out.below hb5
          have HOP5 := Lib.hid (HOP4.out.below hb5)
          have HB5 := Lib.hid hB5
          clear hq hall hb5 hB5 HO4 HOP4 HAS1 HRK4 HRP4 HB4 hlt2
          go_wp2_with (at_builtin; refine wpList_append_txt2 rfl _ _ rfl w.heap.size _ (F (k + 1)) rfl hownk X rfl (by rw [HFL.out]; omega) HB5.out.size ?_)
          intro g6 c6 w6 hown6 hg6 hat6
          have hap6 := hap.app (l := (F (k + 1)).length + 1) (cap := c6) HOP5.out hat6
          have hownp6 := HOP5.out.grown2 hg6 hap.kept
          have hB6 := HB5.out.grown hg6 HB5.out.size (fun y hy => (World.ownsRow.lt hownk y hy).1)
          rw [← HFS1.out] at hown6
          rw [HFL.out] at hown6 hap6 ⊢
          clear hownk hg6 hat6 hap HOP5 HB5
          go_wp2_with (at_builtin; refine wpList_append_txt2 rfl _ _ rfl w.heap.size _ (G (k + 1)) rfl hownp6 R rfl (by rw [HGL.out]; omega) hB6.size ?_)
          intro g7 c7 w7 hown7 hg7 hat7
          have hap7 := hap6.symm.app (l := (G (k + 1)).length + 1) (cap := c7) hown6 hat7
          have hownk7 := hown6.grown2 hg7 hap6.symm.kept
          have hB7 := hB6.grown hg7 hB6.size (fun y hy => (World.ownsRow.lt hownp6 y hy).1)
          rw [← HGS1.out] at hown7
          rw [HGL.out] at hown7 hap7 ⊢
          clear hown6 hownp6 hg7 hat7 hap6 hB6
          go_wp2
          go_roundw
          case rel => exact ⟨k + 1, by omega, by go_num, hownk7, hown7, hap7.symm, han2, hB7⟩
          case measure => simp [intOf]; omega
    · obtain rfl : k = n := by omega
      have hlt' : ¬ (k : Int) < (k : Int) := by omega
      clear hlt
      go_wp2
      rw [HRA.out]
      exact ⟨⟨true, rfl, fun _ => HAE.out han⟩, hB⟩
end Go.Proofs.Ytjdjndginacdnaa
