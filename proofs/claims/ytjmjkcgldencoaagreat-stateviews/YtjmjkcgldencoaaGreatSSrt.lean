/-
  slices.SortFunc of entries, however many.
-/
import Derived.Test.YtjmjkcgldencoaaGreatSEntM
import Derived.Shelf.SlSortCmp.NoneTotal
namespace Go.Proofs.YtjmjkcgldencoaaGreat
open Go.RowKit Go.Shelf Go.Sort

def wren : Go.Shelf.Ren := ⟨fun | 6 => 78 | 14 => 90 | 15 => 72 | 20 => 95 | 21 => 96 | 22 => 97 | 23 => 98 | 24 => 99 | 25 => 100 | 26 => 101 | 27 => 102 | 28 => 84 | 29 => 85 | 46 => 110 | 47 => 111 | 48 => 112 | 49 => 113 | 50 => 114 | 57 => 116 | n => n, fun | 0 => 0 | 3 => 3 | 4 => 4 | 5 => 5 | 9 => 9 | 22 => 113 | 24 => 134 | 25 => 140 | 39 => 104 | 45 => 159 | 46 => 160 | 50 => 164 | 53 => 43 | 55 => 85 | 66 => 169 | 70 => 173 | 76 => 176 | 77 => 177 | n => n, fun | n => n⟩
set_option maxRecDepth 100000 in
set_option maxHeartbeats 2000000 in
theorem wlays : Go.Proofs.SlLaysF0.n6 Tryz.prog wren := {
  mixed := by kernel_rfl
  f6 := ⟨Tryz.f78.name, by decide, Tryz.func78.trans (congrArg some (by kernel_rfl))⟩
  f14 := ⟨Tryz.f90.name, by decide, Tryz.func90.trans (congrArg some (by kernel_rfl))⟩
  f15 := Tryz.func72.trans (congrArg some (by kernel_rfl))
  f20 := ⟨Tryz.f95.name, by decide, Tryz.func95.trans (congrArg some (by kernel_rfl))⟩
  f21 := ⟨Tryz.f96.name, by decide, Tryz.func96.trans (congrArg some (by kernel_rfl))⟩
  f22 := ⟨Tryz.f97.name, by decide, Tryz.func97.trans (congrArg some (by kernel_rfl))⟩
  f23 := ⟨Tryz.f98.name, by decide, Tryz.func98.trans (congrArg some (by kernel_rfl))⟩
  f24 := ⟨Tryz.f99.name, by decide, Tryz.func99.trans (congrArg some (by kernel_rfl))⟩
  f25 := ⟨Tryz.f100.name, by decide, Tryz.func100.trans (congrArg some (by kernel_rfl))⟩
  f26 := ⟨Tryz.f101.name, by decide, Tryz.func101.trans (congrArg some (by kernel_rfl))⟩
  f27 := ⟨Tryz.f102.name, by decide, Tryz.func102.trans (congrArg some (by kernel_rfl))⟩
  f28 := Tryz.func84.trans (congrArg some (by kernel_rfl))
  f29 := Tryz.func85.trans (congrArg some (by kernel_rfl))
  f46 := ⟨Tryz.f110.name, by decide, Tryz.func110.trans (congrArg some (by kernel_rfl))⟩
  f47 := Tryz.func111.trans (congrArg some (by kernel_rfl))
  f48 := Tryz.func112.trans (congrArg some (by kernel_rfl))
  f49 := ⟨Tryz.f113.name, by decide, Tryz.func113.trans (congrArg some (by kernel_rfl))⟩
  f50 := ⟨Tryz.f114.name, by decide, Tryz.func114.trans (congrArg some (by kernel_rfl))⟩
  f57 := ⟨Tryz.f116.name, by decide, Tryz.func116.trans (congrArg some (by kernel_rfl))⟩
  t0 := Tryz.underlying0, a0 := Tryz.isAgg0, z0 := Tryz.sizeOf0, v0 := Tryz.zeroValue0
  t3 := Tryz.underlying3, a3 := Tryz.isAgg3, z3 := Tryz.sizeOf3, v3 := Tryz.zeroValue3
  t4 := Tryz.underlying4, a4 := Tryz.isAgg4, z4 := Tryz.sizeOf4, v4 := Tryz.zeroValue4
  t5 := Tryz.underlying5, a5 := Tryz.isAgg5, z5 := Tryz.sizeOf5, v5 := Tryz.zeroValue5
  t9 := Tryz.underlying9, a9 := Tryz.isAgg9, z9 := Tryz.sizeOf9, v9 := Tryz.zeroValue9
  t22 := Tryz.underlying113, a22 := Tryz.isAgg113, z22 := Tryz.sizeOf113, v22 := Tryz.zeroValue113
  t25 := Tryz.underlying140, a25 := Tryz.isAgg140, z25 := Tryz.sizeOf140, v25 := Tryz.zeroValue140
  t39 := Tryz.underlying104, a39 := Tryz.isAgg104, z39 := Tryz.sizeOf104, v39 := Tryz.zeroValue104
  t45 := Tryz.underlying159, a45 := Tryz.isAgg159, z45 := Tryz.sizeOf159, v45 := Tryz.zeroValue159
  t46 := Tryz.underlying160, a46 := Tryz.isAgg160, z46 := Tryz.sizeOf160, v46 := Tryz.zeroValue160
  t50 := Tryz.underlying164, a50 := Tryz.isAgg164, z50 := Tryz.sizeOf164, v50 := Tryz.zeroValue164
  t53 := Tryz.underlying43, a53 := Tryz.isAgg43, z53 := Tryz.sizeOf43, v53 := Tryz.zeroValue43
  t55 := Tryz.underlying85, a55 := Tryz.isAgg85, z55 := Tryz.sizeOf85, v55 := Tryz.zeroValue85
  t66 := Tryz.underlying169, a66 := Tryz.isAgg169, z66 := Tryz.sizeOf169, v66 := Tryz.zeroValue169
  t70 := Tryz.underlying173, a70 := Tryz.isAgg173, z70 := Tryz.sizeOf173, v70 := Tryz.zeroValue173
  t76 := Tryz.underlying176, a76 := Tryz.isAgg176, z76 := Tryz.sizeOf176, v76 := Tryz.zeroValue176
  t77 := Tryz.underlying177, a77 := Tryz.isAgg177, z77 := Tryz.sizeOf177, v77 := Tryz.zeroValue177 }
theorem sort_all (val : ByteArray → ByteArray) (g cap : Nat) (ks : List ByteArray) (w : World) (hH : HoldsK (fun k => (entK val k).enc) 3 w g 0 ks.toArray) (hg : g < w.heap.size) (hn : ks.length ≤ 1000000) :
    Calls Tryz.prog 78 #[.slice (some ⟨g, 0, none⟩) ks.length cap, .func (.func 79) #[] #[]] w fun e w' =>
      e = .returned (.tuple #[]) ∧ ∃ m os, w' = sortedW val w g m (srt ks).toArray os := by
  have eg : ∀ args w, (callFunc 79 args).run Tryz.prog w = .ok (.enter 79 args) w := enters_of Tryz.func79 (by kernel_rfl) rfl
  have := AnyQ.slices_SortFunc_total wlays 3 Tryz.isAgg134 Tryz.sizeOf134 (fun k => (entK val k).enc) (fun _ => rfl) (fun x v hv => by simp [Ent.enc] at hv; rcases hv with rfl | rfl | rfl <;> rfl) cfK swoK 79 #[] g 0 cap ks.toArray w eg
    (fun m os dk _ x y => order_any (pathS x) x (val x) (pathS y) y (val y) _) hH hg (by simp; omega) oneK
  rw [show ks.toArray.size = ks.length by simp] at this
  exact this
end Go.Proofs.YtjmjkcgldencoaaGreat
