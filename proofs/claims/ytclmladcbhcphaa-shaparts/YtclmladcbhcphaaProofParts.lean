/-
  The law ShaParts of the program's digest: for every list of strings the call returns true and the argument reads as it did. No condition.
-/
import Derived.Test.YtclmladcbhcphaaLawParts
import Derived.Test.YtclmladcbhcphaaPost
import Derived.OpenShut
import Derived.SliceStrings
import Derived.Carry
namespace Go.Proofs.Ytclmladcbhcphaa.shaParts
open Go.ChangeShapes Go.WideShapes Go.ChangeAt Go.RowKit

theorem laid : laidOutB Try.prog = true := by kernel_rfl
theorem cellsStr : Try.prog.cellsOf 9 = 1 := by kernel_rfl

set_option maxRecDepth 100000 in
theorem lifted (os : Os) (started : os.Started) (H : Type) (enc : TypeId × Value → H) :
    ReturnsInHanded {} Try.checked os 7 .any (Rows.shaPartsSpec.pre6 enc Try.prog Try.f7 Rows.shaPartsRow.domain false) (Rows.shaPartsSpec.post enc Try.prog Try.f7 false true false false) := by
  refine returnsInHanded_of_change (C := Try.checked) own started (by kernel_rfl) Try.func7
    (ChangeSpec.witness6 (enc := enc) (C := Try.checked) false ⟨#[], #[.slice none 0 0], []⟩ 8 (by kernel_rfl) (by kernel_rfl) (by kernel_rfl) (by kernel_rfl)) ?_
  intro W base args ds gs before hval0 hW hcnd _
  have hval : ∀ (j : Nat) t v, Try.f7.params[j]? = some t → args[j]? = some v → Value.okWide Try.prog W .any base t v := hval0
  have hW' := hW
  obtain ⟨p, q, hA0, hV, rfl, hfz, hnd⟩ := hW
  have hA : DataW.TrodAll enc Try.prog W 0 (fun _ => true) true Try.f7.params.toList args.toList ds p := hA0
  rw [Try.params7] at hA hval
  obtain ⟨v0, d0, rfl, rfl, h0⟩ := trodAll_one hA
  obtain ⟨rfl, rfl⟩ := trodVars_none hV
  have h0k := h0
  obtain ⟨oa, len, cap, rfl⟩ := okWide_slice Try.underlying46 (hval 0 46 v0 rfl rfl)
  clear hA0 hval0
  simp only [List.append_nil] at hW'
  have hlt : ∀ x ∈ p, x.block < W.heap.size := fun x hx => by simpa using hW'.lt x hx
  have hcall : Calls Try.prog 7 #[.slice oa len cap] W fun e w' => e = .returned (.bool true) ∧ Below W.heap.size W w' := by
    obtain ⟨fuel, hf⟩ := h0
    rcases open_strings Try.underlying46 Try.underlying9 cellsStr hf with ⟨hcs, _⟩ | ⟨a, len', cap', ss, hcs, _, hl, hm, hz, _, hcell, hws⟩
    · have hv : oa = none ∧ len = 0 ∧ cap = 0 := by simpa [Value.cells] using hcs
      obtain ⟨rfl, rfl, rfl⟩ := hv
      exact law_parts none 0 0 [] (by omega) W (fun i hi => absurd hi (by omega)) (fun i => by simp)
    · have hv : oa = some a ∧ len = len' ∧ cap = cap' := by simpa [Value.cells] using hcs
      obtain ⟨rfl, rfl, rfl⟩ := hv
      rw [if_pos rfl] at hz
      refine law_parts (some a) len cap ss (by unfold maxLen at hm; omega) W (fun i hi => ⟨a, rfl, ?_, hcell i (by omega)⟩) (fun i => ?_)
      · have h := hcell i (by omega)
        rcases Nat.lt_or_ge a.block W.heap.size with h1 | h1
        · exact h1
        · unfold World.cell? at h
          rw [add_block, Array.getElem?_eq_none h1] at h
          simp at h
      · rcases Nat.lt_or_ge i ss.length with h1 | h1
        · have := hws (ss.getD i ByteArray.empty) (by rw [List.getD_eq_getElem?_getD, List.getElem?_eq_getElem h1]; exact List.getElem_mem h1)
          unfold maxLen at this
          omega
        · rw [List.getD_eq_getElem?_getD, List.getElem?_eq_none h1]
          show 0 ≤ _
          omega
  refine hcall.mono fun e W' ⟨he, hg⟩ => ?_
  subst he
  exact ⟨_, rfl, post_below (pa := p) (pv := []) hW' (fun _ _ _ => (trodAll_cons_mk (shut_bool Try.underlying4 _) trodAll_mk0))
    (fun sp hsp => by
      have := trodAll_cons_mk (WideElems.Trod_stays laid (by kernel_rfl) (of_decide_eq_true (by kernel_rfl)) h0k (fun x hx => hg.same (hlt x hx)) (fun x hx => hsp x (by simpa using hx))) (trodAll_mk0 (enc := enc) (P := Try.prog) (w := W') (base := 0) (spare := sp) (held := true))
      rw [List.append_nil] at this
      exact this) (fun _ _ => rfl) (by simp)
    hg (ok_one (by kernel_rfl) rfl (okWide_bool_mk Try.underlying4 _))⟩

theorem over : Rows.shaPartsRow.holds Try.pinned (OpenSpec.ofChange Rows.shaPartsSpec) :=
  OpenClaim.holds_of_wide 7 Try.f7 rfl rfl rfl rfl rfl rfl rfl ⟨rfl, rfl, rfl, rfl, rfl⟩ rfl rfl rfl rfl rfl (by kernel_rfl) Try.func7 (by kernel_rfl)
    (of_decide_eq_true (by kernel_rfl)) (by unfold Func.isWrapper; first | (rw [if_pos (by decide +kernel)]; kernel_rfl) | (rw [if_neg (by decide +kernel)]; exact ⟨rfl, rfl⟩))
    (fun os started H enc _ => lifted os started H enc)
end Go.Proofs.Ytclmladcbhcphaa.shaParts
namespace Go.Proofs.Ytclmladcbhcphaa
/-- THE STATEMENT. -/
theorem shaParts_holds : Rows.ShaPartsSaid := shaParts.over
#print axioms shaParts_holds
end Go.Proofs.Ytclmladcbhcphaa
