/-
  A child's seed, and whether a signature of two levels holds: the reference's.
-/
import Derived.Test.YtbkmclgddknijaaHVer
namespace Go.Proofs.Ytbkmclgddknijaa
open Go.RowKit

set_option maxRecDepth 100000 in
theorem rchild_any (seed : ByteArray) (hs : seed.size ≤ 1073741824) (k : Nat) (w : World) :
    Calls Try.prog 12 #[.string seed, .int .i64 k] w fun e w' => e = .returned (.string (childB seed k)) ∧ Below w.heap.size w w' := by
  have HT := Lib.hid (fun W => rtext_any seed (by omega) W)
  have HN := Lib.hid (fun W => rnumber_any k W)
  have hz := txt_size seed
  have hn := num4_size k
  unfold childB
  generalize txt seed = T at *
  generalize num4 (k : Int) = N at *
  have a1 : ¬ T.size + (⟨#[99]⟩ : ByteArray).size > 9223372036854775807 := by show ¬ _ + 1 > _; omega
  have a2 : ¬ (T ++ (⟨#[99]⟩ : ByteArray)).size + N.size > 9223372036854775807 := by rw [ByteArray.size_append]; show ¬ _ + 1 + _ > _; omega
  clear hz hn hs
  go_enter Try.func12, Try.ntmps12
  go_wp2_with fail
  refine (HT.out _).mono ?_
  rintro e w1 ⟨rfl, hB1⟩
  go_wp2_with fail
  refine (HN.out _).mono ?_
  rintro e w2 ⟨rfl, hB2⟩
  have hB2' := hB1.trans (hB2.mono hB1.size)
  go_wp2
  go_ret
  exact ⟨rfl, hB2'⟩
set_option maxRecDepth 100000 in
set_option maxHeartbeats 1000000 in
theorem rheld_long (p m s : ByteArray) (hs : s.size ≠ 4520) (w : World) :
    Calls Try.prog 10 #[.string p, .string m, .string s] w fun e w' => e = heldV p m s ∧ Below w.heap.size w w' := by
  rw [heldV_no (held_long hs)]
  have hne : ((s.size : Int) != 4520) = true := by rw [bne_iff_ne]; omega
  clear hs
  go_enter Try.func10, Try.ntmps10
  go_wp2
  go_ret2
  exact ⟨rfl, Below.refl _ _⟩
set_option maxRecDepth 100000 in
set_option maxHeartbeats 2000000 in
theorem rheld_full (p m s : ByteArray) (hm : m.size ≤ 1073741824) (hs : s.size = 4520) (w : World) :
    Calls Try.prog 10 #[.string p, .string m, .string s] w fun e w' => e = heldV p m s ∧ Below w.heap.size w w' := by
  have hne : ((s.size : Int) != 4520) = false := by rw [bne_eq_false_iff_eq]; omega
  have hcz : (s.extract 2244 2276).size = 32 := ext_size _ _ _ (by omega)
  have HV1 := Lib.hid (fun W => rverify_any p (saysB (s.extract 2244 2276)) (s.extract 0 2244) (by rw [saysB_size, hcz]; decide) W)
  have HV2 := Lib.hid (fun W => rverify_any (s.extract 2244 2276) m (s.extract 2276 4520) hm W)
  have HE := Lib.hid (held_whole (p := p) (m := m) hs)
  have h1 : (2244 : Int) ≤ (s.size : Int) := by omega
  have h2 : (2276 : Int) ≤ (s.size : Int) := by omega
  have a1 : ¬ (⟨#[67]⟩ : ByteArray).size + (s.extract 2244 2276).size > 9223372036854775807 := by rw [hcz]; decide
  have x1 := str_index s 3 (by omega)
  have x2 := str_index s 2279 (by omega)
  rw [show ((3 : Nat) : Int) = 3 from rfl] at x1
  rw [show ((2279 : Nat) : Int) = 2279 from rfl] at x2
  have b1 := nums_getD_lt s 3; have b2 := nums_getD_lt s 2279
  have HNB := Lib.hid (show numB s = 8 * (nums s).getD 3 0 + (nums s).getD 2279 0 from rfl)
  generalize (nums s).getD 3 0 = y1 at *
  generalize (nums s).getD 2279 0 = y2 at *
  have hsz : s.size = 4520 := hs
  unfold saysB at HV1
  unfold saysB at HE
  clear hs hcz
  cases hv : verB p (⟨#[67]⟩ ++ s.extract 2244 2276) (s.extract 0 2244) with
  | false =>
    rw [hv] at HE HV1
    have HN : Hid (heldV p m s = .returned (.tuple #[.int .i64 0, .bool false])) := Lib.hid (heldV_no (by rw [HE.out]; rfl))
    clear hv HE HV2 x1 x2 HNB b1 b2
    go_enter Try.func10, Try.ntmps10
    go_wp2_with fail
    refine (HV1.out _).mono ?_
    rintro e w1 ⟨rfl, hB1⟩
    clear HV1
    go_wp2
    go_ret2
    exact ⟨by rw [HN.out]; rfl, hB1⟩
  | true =>
    rw [hv] at HE HV1
    cases hv2 : verB (s.extract 2244 2276) m (s.extract 2276 4520) with
    | false =>
      rw [hv2] at HE HV2
      have HN : Hid (heldV p m s = .returned (.tuple #[.int .i64 0, .bool false])) := Lib.hid (heldV_no (by rw [HE.out]; rfl))
      clear hv hv2 HE x1 x2 HNB b1 b2
      go_enter Try.func10, Try.ntmps10
      go_wp2_with fail
      refine (HV1.out _).mono ?_
      rintro e w1 ⟨rfl, hB1⟩
      clear HV1
      go_wp2_with fail
      refine (HV2.out _).mono ?_
      rintro e w2 ⟨rfl, hb2⟩
      have hB2 := hB1.trans (hb2.mono hB1.size)
      clear HV2 hb2 hB1
      go_wp2
      go_ret2
      exact ⟨by rw [HN.out]; rfl, hB2⟩
    | true =>
      rw [hv2] at HE HV2
      have HN : Hid (heldV p m s = .returned (.tuple #[.int .i64 (8 * (y1 : Int) + (y2 : Int)), .bool true])) := Lib.hid (by
        rw [heldV_yes (by rw [HE.out]; rfl), HNB.out, show ((8 * y1 + y2 : Nat) : Int) = 8 * (y1 : Int) + (y2 : Int) by omega])
      clear hv hv2 HE HNB
      go_enter Try.func10, Try.ntmps10
      go_wp2_with fail
      refine (HV1.out _).mono ?_
      rintro e w1 ⟨rfl, hB1⟩
      clear HV1
      go_wp2_with fail
      refine (HV2.out _).mono ?_
      rintro e w2 ⟨rfl, hb2⟩
      have hB2 := hB1.trans (hb2.mono hB1.size)
      clear HV2 hb2 hB1
      go_wp2
      go_quiet (fail)
      go_wp2
      go_ret2
      exact ⟨by rw [HN.out]; rfl, below_drewN hB2 _⟩
theorem rheld_any (p m s : ByteArray) (hm : m.size ≤ 1073741824) (w : World) :
    Calls Try.prog 10 #[.string p, .string m, .string s] w fun e w' => e = heldV p m s ∧ Below w.heap.size w w' := by
  by_cases h : s.size = 4520
  · exact rheld_full p m s hm h w
  · exact rheld_long p m s h w
end Go.Proofs.Ytbkmclgddknijaa
