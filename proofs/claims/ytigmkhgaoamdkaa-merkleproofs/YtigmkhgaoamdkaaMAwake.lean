/-
  awake of layer 4.
-/
import Derived.Test.YtigmkhgaoamdkaaMIncl
import Derived.Test.YtigmkhgaoamdkaaMFew
namespace Go.Proofs.Ytigmkhgaoamdkaa
open Go.RowKit

set_option maxRecDepth 100000 in
set_option maxHeartbeats 400000 in
theorem awake4_any (w : World) : Calls Try.prog 8 #[] w fun e w' => e = .returned (.bool true) ∧ Below w.heap.size w w' := by
  have HM := Lib.hid (fun W => make_std W)
  have HI := Lib.hid (fun W => inclusion_out 0 none 0 0 (.inr (by decide)) W)
  go_enter Try.func8, Try.ntmps8
  go_wp2_with fail
  refine (HM.out _).mono ?_
  rintro e w1 ⟨rfl, hb1⟩
  go_wp2_with fail
  refine (HI.out _).mono ?_
  rintro e w2 ⟨rfl, hb2⟩
  have hB2 := hb1.trans (hb2.mono hb1.size)
  go_wp2
  go_ret
  exact ⟨rfl, hB2⟩
theorem few_sz {ss : List ByteArray} {k sz : Nat} (hk : k ≤ 300) (hsz : sz ≤ 1073741824) (h : fewM ss k sz = true) : ss.length ≤ k ∧ Sz ss :=
  ⟨(fewM_true hk h).1, fun x hx => Nat.le_trans ((fewM_true hk h).2 x hx) hsz⟩
end Go.Proofs.Ytigmkhgaoamdkaa
