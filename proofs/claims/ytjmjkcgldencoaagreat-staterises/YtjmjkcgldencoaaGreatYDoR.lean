/-
  The reference's Ask and Cut, as the laws of layer 11 want them.
-/
import Derived.Test.YtjmjkcgldencoaaGreatYMathYStYPlayYState
import Derived.Test.YtjmjkcgldencoaaGreatYCut
import Derived.Test.YtjmjkcgldencoaaGreatYAsk
namespace Go.Proofs.YtjmjkcgldencoaaGreat
open Go.RowKit

theorem raskC : RAskC := by
  intro P cs W r w hB hi hs h
  obtain ⟨a, b, c, rfl, ⟨oa, ca, rfl, hA, hca, hoa, ga⟩, ⟨ob, cb, rfl, hR, hcb, hob, gb⟩, ⟨oc, cc, rfl, hC, hcc, hoc, gc⟩⟩ := h
  have hm := hi.most
  have hh := hi.heads
  have key := raskW_any oa ob oc ca W.tk.length cb W.hd.length cc W.tk W.rp r.c r.q r.l r.k r.v rfl hi.len (by omega) (by omega) hca (by rw [← hi.len]; exact hcb) hoa hob hs w hA hR
  rw [hi.len]
  refine key.mono ?_
  rintro e w' ⟨va, vb, rfl, h1, h2, hb⟩
  exact ⟨_, rfl, ⟨va, vb, _, rfl, h1.slP ga hB, h2.slP gb hB, SlP.below ⟨oc, cc, rfl, hC, hcc, hoc, gc⟩ hb⟩, hb⟩
theorem rcutC : RCutC := by
  intro P cs W now w hB hi h
  obtain ⟨a, b, c, rfl, ⟨oa, ca, rfl, hA, hca, hoa, ga⟩, ⟨ob, cb, rfl, hR, hcb, hob, gb⟩, ⟨oc, cc, rfl, hC, hcc, hoc, gc⟩⟩ := h
  have hm := hi.most
  have hh := hi.heads
  have key := rcutW_any oa ob oc W.tk.length ca W.rp.length cb W.hd.length cc W.tk W.hd now rfl hm rfl (by omega) hcc hoc hi.szq w hA hC
  refine key.mono ?_
  rintro e w' ⟨vc, rfl, h1, hb⟩
  exact ⟨_, rfl, ⟨_, _, vc, rfl, SlP.below ⟨oa, ca, rfl, hA, hca, hoa, ga⟩ hb, SlP.below ⟨ob, cb, rfl, hR, hcb, hob, gb⟩ hb, h1.slP gc hB⟩, hb⟩
end Go.Proofs.YtjmjkcgldencoaaGreat
