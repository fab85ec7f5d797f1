/-
  Layer 9: awake.
-/
import Derived.Test.YtjdjndginacdnaaXOps
import Derived.Test.YtjdjndginacdnaaCWeakF
namespace Go.Proofs.Ytjdjndginacdnaa
open Go.RowKit

theorem awake9_any (w : World) : Calls Try.prog 6 #[] w fun e w' => e = .returned (.bool true) ∧ Below w.heap.size w w' := by
  have H := Lib.hid (fun W => path9_any hsh_two ⟨#[97]⟩ (by decide) W)
  have hs : (pa9 (wkH 2) ⟨#[97]⟩).size = 32 := wkH_size 2 _
  generalize pa9 (wkH 2) ⟨#[97]⟩ = R at *
  go_enter Try.func6, Try.ntmps6
  go_wp2_with fail
  refine (H.out _).mono ?_
  rintro e w' ⟨rfl, hb⟩
  go_wp2
  go_ret
  exact ⟨by simp [hs], hb⟩
end Go.Proofs.Ytjdjndginacdnaa
