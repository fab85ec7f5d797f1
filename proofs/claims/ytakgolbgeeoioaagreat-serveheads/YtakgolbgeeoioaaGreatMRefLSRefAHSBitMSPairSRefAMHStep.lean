/-
  Leaves: the reference's of layer 4. The reference's digest, layer 5. Bits of strings: plain words. Pairs: slices of them, and such slices that a call made and appends to. The reference's Bit; arrays of 257 texts. A region that draws its order, walked by hand: an operation is taken first (takeH), passed over because its guard is false (skipH), or carried out as the only one that may come up (doH).
-/
import Derived.Test.YtakgolbgeeoioaaGreatMMathMRoot
import Derived.Test.YtakgolbgeeoioaaGreatRefSumHSumMLen
import Derived.Test.YtakgolbgeeoioaaGreatRoundsDig
import Derived.Test.YtakgolbgeeoioaaGreatTxtGRow
import Derived.Test.YtakgolbgeeoioaaGreatBase
import Derived.Deep.RegionHeld3
namespace Go.Proofs.YtakgolbgeeoioaaGreat
open Go.RowKit

theorem leaves_take (ss : List ByteArray) (k : Nat) (h : k < ss.length) : (ss.take (k + 1)).map leafM = (ss.take k).map leafM ++ [leafM (ss.getD k ByteArray.empty)] := by
 rw [List.take_succ_eq_append_getElem h, List.map_append, List.getD_eq_getElem?_getD, List.getElem?_eq_getElem h]
 rfl
set_option maxRecDepth 100000 in
set_option maxHeartbeats 1000000 in
theorem rleaves_any (oa : Option Addr) (n cap : Nat) (ss : List ByteArray) (hn : ss.length = n) (hm : n ≤ 1048576) (hz : Sz ss) (w : World) (hc : Strs w oa ss) :
 Calls Tryz.prog 65 #[.slice oa n cap] w (RT (ss.map leafM) w) := by
 have HRT := Lib.hid (show ∀ e w', RT (ss.map leafM) w e w' = ∃ v, e = .returned v ∧ Own w' w.heap.size v (ss.map leafM) ∧ Below w.heap.size w w' from fun _ _ => rfl)
 have HF0 := Lib.hid (show (ss.take 0).map leafM = [] from rfl)
 have HFN := Lib.hid (show (ss.take n).map leafM = ss.map leafM by rw [List.take_of_length_le (by omega)])
 have HFS := Lib.hid (leaves_take ss)
 have HFL := Lib.hid (show ∀ k, k ≤ n → ((ss.take k).map leafM).length = k from fun k hk => by rw [List.length_map, List.length_take]; omega)
 have HJ := Lib.hid (fun (k : Nat) (W : World) => rh4_any (⟨#[0]⟩ ++ ss.getD k ByteArray.empty) (by simp only [ByteArray.size_append]; have := hz.get k; have : (⟨#[0]⟩ : ByteArray).size = 1 := rfl; omega) W)
 change Hid (∀ (k : Nat) W, Calls Tryz.prog 81 _ W fun e w' => e = .returned (.string (leafM (ss.getD k ByteArray.empty))) ∧ Below W.heap.size W w') at HJ
 have HZ := Lib.hid hz
 have HN := Lib.hid hn
 have HC := Lib.hid hc
 generalize RT (ss.map leafM) w = PO at *
 generalize ss.map leafM = L at *
 generalize hF : (fun k => (ss.take k).map leafM) = F at *
 have hF' : ∀ k, (ss.take k).map leafM = F k := fun k => by rw [← hF]
 simp only [hF'] at HF0 HFN HFS HFL
 clear hF hF' hz hn hc
 go_enter Tryz.func65, Tryz.ntmps65
 go_wp2
 go_loopw [3, 4] (fun v i wr => ∃ k : Nat, k ≤ n ∧ i = .int .i64 k ∧ Own wr w.heap.size v (F k) ∧ Below w.heap.size w wr) (fun _ i _ => n - (intOf i).toNat)
 case atStart => exact ⟨0, by omega, rfl, by rw [HF0.out]; exact own_nil _ _, Below.refl _ _⟩
 case round =>
  obtain ⟨k, hk, rfl, hown, hB⟩ := hrel
  by_cases hlt : k < n
  · have hlt' : (k : Int) < (n : Int) := by omega
    have hkl : k < ss.length := by have := HN.out; omega
    obtain ⟨a, rfl, hab, hc0⟩ := HC.out k hkl
    have hc : wr.cell? (a.add k) = some (.string (ss.getD k ByteArray.empty)) := (hB.cell (by rw [add_block]; exact hab)).trans hc0
    have HJK := Lib.hid (HJ.out k)
    have HFK := Lib.hid (HFS.out k hkl)
    have HFKL := Lib.hid (HFL.out k hk)
    have hlen : (F k).length ≤ 1073741824 := by rw [HFL.out k hk]; omega
    have hxz := HZ.out.get k
    have z0 : (⟨#[0]⟩ : ByteArray).size = 1 := rfl
    generalize ss.getD k ByteArray.empty = x at *
    have a1 : ¬ (⟨#[0]⟩ : ByteArray).size + x.size > 9223372036854775807 := by omega
    generalize leafM x = R at *
    clear hc0 hkl z0 hxz hab
    go_wp2_with fail
    refine (HJK.out _).mono ?_
    rintro e w1 ⟨rfl, hb1⟩
    have hown1 := hown.below hb1
    have hB1 := hB.trans (hb1.mono hB.size)
    clear hown hB hb1 hc
    go_wp2_with (at_builtin; refine wpList_append_txt rfl _ _ rfl w.heap.size u3 (F k) rfl hown1 R rfl hlen hB1.size ?_)
    intro g5 c5 w5 hown5 hg5
    rw [HFKL.out, ← HFK.out] at hown5
    have hB5 := hB1.grown hg5 hB1.size (fun z hz => (World.ownsRow.lt hown1 z hz).1)
    clear hown1 hB1 hg5
    rw [HFKL.out]
    go_wp2
    go_roundw
    case rel => exact ⟨k + 1, by omega, by go_num, hown5, hB5⟩
    case measure => simp [intOf]; omega
  · obtain rfl : k = n := by omega
    have hlt' : ¬ (k : Int) < (k : Int) := by omega
    rw [HFN.out] at hown
    clear hlt hk
    go_wp2
    rw [HRT.out]
    exact ⟨_, rfl, hown, hB⟩
end Go.Proofs.YtakgolbgeeoioaaGreat
namespace Go.Proofs.YtakgolbgeeoioaaGreat
open Go.RowKit

set_option maxRecDepth 100000 in
set_option maxHeartbeats 400000 in
theorem rh5_any (b : ByteArray) (hn : b.size ≤ 1099511627776) (w : World) :
 Calls Tryz.prog 41 #[.string b] w fun e w' => e = .returned (.string (hB b)) ∧ Below w.heap.size w w' := by
 have HS := Lib.hid (fun W => refsum_any b hn W)
 change Hid (∀ W, Calls Tryz.prog 70 _ W fun e w' => e = .returned (.string (hB b)) ∧ Below W.heap.size W w') at HS
 generalize hB b = R at *
 go_enter Tryz.func41, Tryz.ntmps41
 go_wp2_with fail
 refine (HS.out _).mono ?_
 rintro e w' ⟨rfl, hB⟩
 go_wp2
 go_ret
 exact ⟨rfl, hB⟩
end Go.Proofs.YtakgolbgeeoioaaGreat
namespace Go.Proofs.YtakgolbgeeoioaaGreat
open Go.RowKit

/-- the bit i of a string, each byte's highest first -/
def bitS (s : ByteArray) (i : Nat) : Bool := (nums s).getD (i / 8) 0 / 2 ^ (7 - i % 8) % 2 == 1
theorem and_pow (x m : Nat) : x &&& 2 ^ m = if x.testBit m then 2 ^ m else 0 := by
 apply Nat.eq_of_testBit_eq
 intro i
 rw [Nat.testBit_and, Nat.testBit_two_pow]
 by_cases h : m = i
 · subst h
   cases hx : x.testBit m <;> simp
 · simp only [h, decide_false, Bool.and_false]
   split
   · rw [Nat.testBit_two_pow]; simp [h]
   · simp
theorem and_mask (x m : Nat) : ((x &&& 2 ^ m) != 0) = (x / 2 ^ m % 2 == 1) := by
 rw [and_pow, Nat.testBit_eq_decide_div_mod_eq]
 by_cases h : x / 2 ^ m % 2 = 1 <;> simp [h]
theorem nums_at (s : ByteArray) {i : Nat} (h : i < s.size) : (nums s).getD i 0 = s[i].toNat := by
 simp [nums, List.getD_eq_getElem?_getD]
 rw [Array.getElem?_eq_getElem (by simpa using h)]
 rfl
theorem str_idx (s : ByteArray) (j : Nat) (hj : j < s.size) (W : World) : (Instr.index 9 (.string s) (.int .i64 (j : Int))).run Tryz.prog W = .ok (.int .u8 ((nums s).getD j 0 : Nat)) W := by
 have h2 : (j : Int) < (s.size : Int) := by omega
 rw [nums_at s hj]
 go_simp
theorem i64_small {n : Nat} (h : n ≤ 4611686018427387904) : IntKind.i64.wrap (n : Int) = n := by
 simp [IntKind.wrap, IntKind.bits, IntKind.signed]
 omega
end Go.Proofs.YtakgolbgeeoioaaGreat
namespace Go.Proofs.YtakgolbgeeoioaaGreat
open Go.RowKit

/-- the pairs ps lie in block g, from o on -/
def PrB (w : World) (g o : Nat) (ps : List (ByteArray × ByteArray)) : Prop := g < w.heap.size ∧ ∀ i (h : i < ps.length), w.cell? ⟨g, o + i * 2, none⟩ = some (.string ps[i].1) ∧ w.cell? ⟨g, o + i * 2 + 1, none⟩ = some (.string ps[i].2)
/-- the slice at oa reads as the pairs ps -/
def Prs (w : World) (oa : Option Addr) (ps : List (ByteArray × ByteArray)) : Prop := ps = [] ∨ ∃ g o, oa = some ⟨g, o, none⟩ ∧ PrB w g o ps
theorem PrB.below {w w' : World} {B g o : Nat} {ps : List (ByteArray × ByteArray)} (h : PrB w g o ps) (hb : Below B w w') (hg : g < B) : PrB w' g o ps :=
 ⟨Nat.lt_of_lt_of_le h.1 hb.size, fun i hi => ⟨(hb.cell (p := ⟨g, o + i * 2, none⟩) hg).trans (h.2 i hi).1, (hb.cell (p := ⟨g, o + i * 2 + 1, none⟩) hg).trans (h.2 i hi).2⟩⟩
theorem Prs.below {w w' : World} {oa : Option Addr} {ps : List (ByteArray × ByteArray)} (h : Prs w oa ps) (hb : Below w.heap.size w w') : Prs w' oa ps := by
 rcases h with h | ⟨g, o, h1, h2⟩
 · exact .inl h
 · exact .inr ⟨g, o, h1, h2.below hb h2.1⟩
theorem Prs.at {w : World} {oa : Option Addr} {ps : List (ByteArray × ByteArray)} (h : Prs w oa ps) {i : Nat} (hi : i < ps.length) : ∃ g o, oa = some ⟨g, o, none⟩ ∧ g < w.heap.size ∧ w.cell? ⟨g, o + i * 2, none⟩ = some (.string ps[i].1) ∧ w.cell? ⟨g, o + i * 2 + 1, none⟩ = some (.string ps[i].2) := by
 rcases h with rfl | ⟨g, o, h1, h2⟩
 · exact absurd hi (Nat.not_lt_zero _)
 · exact ⟨g, o, h1, h2.1, h2.2 i hi⟩
def pcells (ps : List (ByteArray × ByteArray)) : List Value := ps.flatMap fun x => [.string x.1, .string x.2]
theorem pcells_len (ps : List (ByteArray × ByteArray)) : (pcells ps).length = ps.length * 2 := by
 induction ps with
 | nil => rfl
 | cons x r ih => simp [pcells] at ih ⊢; omega
theorem pcells_get : ∀ (ps : List (ByteArray × ByteArray)) (i : Nat) (h : i < ps.length), (pcells ps)[i * 2]? = some (.string ps[i].1) ∧ (pcells ps)[i * 2 + 1]? = some (.string ps[i].2)
 | [], _, h => absurd h (Nat.not_lt_zero _)
 | x :: r, 0, _ => ⟨rfl, rfl⟩
 | x :: r, i + 1, h => by
  have ih := pcells_get r i (Nat.lt_of_succ_lt_succ h)
  have e : pcells (x :: r) = .string x.1 :: .string x.2 :: pcells r := rfl
  rw [e, show (i + 1) * 2 = i * 2 + 1 + 1 by omega]
  simpa using ih
theorem pairInfo : (Tryz.prog.info? 123).map (fun i => (i.zero, i.size, i.bytes)) = some (some (.agg #[.string ⟨#[]⟩, .string ⟨#[]⟩]), 2, 32) := by kernel_rfl
/-- a slice of pairs that the call made -/
def OwnP (w : World) (B : Nat) (v : Value) (ps : List (ByteArray × ByteArray)) : Prop := w.ownsRow B 123 2 v ps.length (pcells ps)
theorem ownP_nil (w : World) (B : Nat) : OwnP w B (.slice none 0 0) [] := ⟨rfl, .inl ⟨rfl, rfl⟩⟩
theorem OwnP.form {w : World} {B : Nat} {v : Value} {ps : List (ByteArray × ByteArray)} (h : OwnP w B v ps) : ∃ oa cap, v = .slice oa ps.length cap ∧ ps.length ≤ cap ∧ Prs w oa ps := by
 have h0 := h
 rcases h.2 with ⟨rfl, hn⟩ | ⟨g, cap, cur, rfl, hg, hk, hc1, hc2, hc3, hc4⟩
 · have : ps = [] := List.length_eq_zero_iff.1 hn
   subst this
   exact ⟨none, 0, rfl, Nat.le_refl _, .inl rfl⟩
 · refine ⟨some ⟨g, 0, none⟩, cap, rfl, hc1, .inr ⟨g, 0, rfl, (show Blk w g 123 cur from hk).lt, fun i hi => ?_⟩⟩
   obtain ⟨p1, p2⟩ := pcells_get ps i hi
   have q1 := World.ownsRow.cells h0 (g := g) rfl _ _ p1
   have q2 := World.ownsRow.cells h0 (g := g) rfl _ _ p2
   rw [addr_add] at q1 q2
   exact ⟨q1, q2⟩
theorem OwnP.grown {w w' : World} {B : Nat} {v : Value} {ps : List (ByteArray × ByteArray)} {row : Option Nat} (h : OwnP w B v ps) (hg : w.grownBy w' row) (hne : v.ownBlock = none ∨ v.ownBlock ≠ row) : OwnP w' B v ps := World.ownsRow.kept h hg hne
theorem OwnP.below {w w' : World} {B : Nat} {v : Value} {ps : List (ByteArray × ByteArray)} (h : OwnP w B v ps) (hb : Below w.heap.size w w') : OwnP w' B v ps :=
 World.ownsRow.kept h (only_of_below hb none) (by cases v.ownBlock <;> simp)
theorem Own.grown2 {w w' : World} {B : Nat} {v : Value} {ss : List ByteArray} {row : Option Nat} (h : Own w B v ss) (hg : w.grownBy w' row) (hne : v.ownBlock = none ∨ v.ownBlock ≠ row) : Own w' B v ss := World.ownsRow.kept h hg hne
theorem two_new (w : World) (x y : ByteArray) (t : TypeId) : ∀ j u, ([Value.string x, .string y])[j]? = some u → (w.alloc (.cells #[.string x, .string y] t)).cell? ((⟨w.heap.size, 0, none⟩ : Addr).add j) = some u := by
 intro j u hu
 rw [addr_add, Nat.zero_add, (Blk.new w t #[.string x, .string y]).cell, ← hu]
 rw [← List.getElem?_toArray]
set_option maxRecDepth 100000 in
/-- append(v, y), of pairs -/
theorem wpList_append_pair {W : World} {ops : Array Oper} {rest : List Oper} {o : Oper} {a : Act} {Q : Exit → Act → World → Prop} (hgd : o.guard = none) (s x : Operand)
 (ho : o.op = .call { callee := .builtin .append, args := #[s, x], argTypes := #[92, 92] }) (B : Nat) (v : Value) (ps : List (ByteArray × ByteArray)) (hs : a.eval s = v) (hown : OwnP W B v ps) (y : ByteArray × ByteArray)
 (hx : a.eval x = .slice (some ⟨W.heap.size, 0, none⟩) 1 1) (hlen : ps.length ≤ 1073741824) (hB : B ≤ W.heap.size)
 (h : ∀ g cap w', OwnP w' B (.slice (some ⟨g, 0, none⟩) (ps.length + 1) cap) (ps ++ [y]) → W.grownBy w' v.ownBlock → (v.ownBlock = some g ∨ g = W.heap.size + 1) → wpList Tryz.prog ops Q rest (a.put o.dst (.slice (some ⟨g, 0, none⟩) (ps.length + 1) cap)) w') :
 wpList Tryz.prog ops Q (o :: rest) a (W.alloc (.cells #[.string y.1, .string y.2] 123)) := by
 obtain ⟨i0, hi, hz0, hz1, hz2⟩ := info_parts pairInfo
 refine wpList_append_lies _ hgd s x 92 ho B 123 i0 (.agg #[.string ⟨#[]⟩, .string ⟨#[]⟩]) 2 32 Tryz.underlying92 hi hz0 hz1 hz2 rfl (by decide) v ps.length (pcells ps) hs (World.ownsRow.alloc hown _)
  ⟨W.heap.size, 0, none⟩ 1 1 [.string y.1, .string y.2] hx rfl (two_new W y.1 y.2 123) (by intro u hu; simp at hu; rcases hu with rfl | rfl <;> rfl) (by decide) (by unfold maxLen; omega) (by omega) (by simp; omega) (W.heap.size + 1) (by simp) ?_
 intro g cap w' hown1 hgrow hat hlt
 refine h g cap w' ?_ (grown_trans (grown_alloc (grown_refl W _) _) hgrow) hat
 unfold OwnP
 rw [List.length_append]
 have e : pcells (ps ++ [y]) = pcells ps ++ [.string y.1, .string y.2] := by simp [pcells]
 rw [e]
 exact hown1
/-- append(v, y), of texts, with the place where it lies -/
theorem wpList_append_txt2 {W : World} {ops : Array Oper} {rest : List Oper} {o : Oper} {a : Act} {Q : Exit → Act → World → Prop} (hgd : o.guard = none) (s x : Operand)
 (ho : o.op = .call { callee := .builtin .append, args := #[s, x], argTypes := #[86, 86] }) (B : Nat) (v : Value) (ss : List ByteArray) (hs : a.eval s = v) (hown : Own W B v ss) (y : ByteArray)
 (hx : a.eval x = .slice (some ⟨W.heap.size, 0, none⟩) 1 1) (hlen : ss.length ≤ 1073741824) (hB : B ≤ W.heap.size)
 (h : ∀ g cap w', Own w' B (.slice (some ⟨g, 0, none⟩) (ss.length + 1) cap) (ss ++ [y]) → W.grownBy w' v.ownBlock → (v.ownBlock = some g ∨ g = W.heap.size + 1) → wpList Tryz.prog ops Q rest (a.put o.dst (.slice (some ⟨g, 0, none⟩) (ss.length + 1) cap)) w') :
 wpList Tryz.prog ops Q (o :: rest) a (W.alloc (.cells #[.string y] 9)) := by
 obtain ⟨i0, hi, hz0, hz1, hz2⟩ := info_parts strInfo
 refine wpList_append_lies _ hgd s x 86 ho B 9 i0 (.string ⟨#[]⟩) 1 16 Tryz.underlying86 hi hz0 hz1 hz2 rfl (by decide) v ss.length (ss.map .string) hs (World.ownsRow.alloc hown _)
  ⟨W.heap.size, 0, none⟩ 1 1 [.string y] hx rfl (cell_one_new W (.string y) 9) (by intro u hu; simp at hu; subst hu; rfl) (by decide) (by unfold maxLen; omega) (by omega) (by simp; omega) (W.heap.size + 1) (by simp) ?_
 intro g cap w' hown1 hgrow hat hlt
 refine h g cap w' ?_ (grown_trans (grown_alloc (grown_refl W _) _) hgrow) hat
 unfold Own
 rw [List.length_append, List.map_append]
 exact hown1
/-- two slices of the call's own lie in no one block -/
def Apt (x y : Value) : Prop := ∀ g, x.ownBlock = some g → y.ownBlock ≠ some g
theorem Apt.symm {x y : Value} (h : Apt x y) : Apt y x := fun g h1 h2 => h g h2 h1
theorem Apt.kept {x y : Value} (h : Apt x y) : y.ownBlock = none ∨ y.ownBlock ≠ x.ownBlock := by
 cases hx : x.ownBlock with
 | none => cases hy : y.ownBlock <;> simp
 | some g => exact .inr (h g hx)
theorem apt_nil (y : Value) : Apt (.slice none 0 0) y := fun g h => by simp [Value.ownBlock] at h
/-- behind an append to x -/
theorem Apt.app {W : World} {B n l cap g k : Nat} {t : TypeId} {x y : Value} {cs : List Value} (h : Apt x y) (hy : W.ownsRow B t k y n cs) (hat : x.ownBlock = some g ∨ g = W.heap.size + 1) : Apt (.slice (some ⟨g, 0, none⟩) l cap) y := by
 intro g' h1 h2
 have hg : g = g' := by simpa [Value.ownBlock] using h1
 subst hg
 rcases hat with h3 | h3
 · exact h g h3 h2
 · have := (hy.lt g h2).2; omega
end Go.Proofs.YtakgolbgeeoioaaGreat
namespace Go.Proofs.YtakgolbgeeoioaaGreat
open Go.RowKit

def bitN (s : ByteArray) (i : Nat) : Nat := (nums s).getD (i / 8) 0 / 2 ^ (7 - i % 8) % 2
theorem bitN_eq (s : ByteArray) (i : Nat) : bitN s i = if bitS s i then 1 else 0 := by
 unfold bitS bitN
 have : (nums s).getD (i / 8) 0 / 2 ^ (7 - i % 8) % 2 < 2 := Nat.mod_lt _ (by decide)
 generalize (nums s).getD (i / 8) 0 / 2 ^ (7 - i % 8) % 2 = y at *
 rcases (show y = 0 ∨ y = 1 by omega) with rfl | rfl <;> rfl
set_option maxRecDepth 100000 in
set_option maxHeartbeats 400000 in
theorem rbit_any (s : ByteArray) (i : Nat) (hi : i < 256) (hs : 32 ≤ s.size) (w : World) : Calls Tryz.prog 69 #[.string s, .int .i64 i] w fun e w' => e = .returned (.int .i64 (bitN s i : Nat)) ∧ w' = w := by
 obtain ⟨j, hj⟩ : ∃ j, i / 8 = j := ⟨_, rfl⟩
 obtain ⟨m, hm⟩ : ∃ m, i % 8 = m := ⟨_, rfl⟩
 have he : ((i : Int) / 8) = (j : Int) := by omega
 have he2 : ((i : Int) % 8) = (m : Int) := by omega
 have hx := str_idx s j (by omega) w
 have HR : Hid (bitN s i = (nums s).getD j 0 / 2 ^ (7 - m) % 2) := Lib.hid (by unfold bitN; rw [hj, hm])
 rw [HR.out]
 have hX : (nums s).getD j 0 < 256 := by
  by_cases ht : j < (nums s).length
  · rw [List.getD_eq_getElem?_getD, List.getElem?_eq_getElem ht]; exact nums_lt s _ (List.getElem_mem ht)
  · rw [List.getD_eq_getElem?_getD, List.getElem?_eq_none (by omega)]; decide
 generalize (nums s).getD j 0 = X at *
 have hm8 : m < 8 := by omega
 obtain ⟨Z, hZ⟩ : ∃ Z, X / 2 ^ (7 - m) % 2 = Z := ⟨_, rfl⟩
 rw [hZ]
 have HZ := Lib.hid hZ
 clear hj hm HR hZ
 go_enter Tryz.func69, Tryz.ntmps69
 go_wp2
 go_loop [5, 6] (fun c k => ∃ t : Nat, m + t ≤ 7 ∧ c = .int .i64 (X / 2 ^ t : Nat) ∧ k = .int .i64 (m + t : Nat)) (fun _ k => 8 - (intOf k).toNat)
 case atStart => exact ⟨0, by omega, by simp, by simp; exact he2⟩
 case round =>
  obtain ⟨t, ht, rfl, rfl⟩ := hrel
  have hle : X / 2 ^ t ≤ X := Nat.div_le_self _ _
  by_cases hlt : m + t < 7
  · have HE := Lib.hid (show X / 2 ^ (t + 1) = X / 2 ^ t / 2 by rw [Nat.pow_succ, Nat.div_div_eq_div_mul])
    generalize X / 2 ^ t = Y at *
    have hlt' : ((m + t : Nat) : Int) < 7 := by omega
    generalize hmt : m + t = q at *
    go_wp2
    go_round
    case rel => exact ⟨t + 1, by omega, by rw [HE.out]; go_num, by rw [show m + (t + 1) = q + 1 by omega]; go_num⟩
    case measure => simp [intOf]; omega
  · obtain rfl : t = 7 - m := by omega
    have hlt' : ¬ ((m + (7 - m) : Nat) : Int) < 7 := by omega
    have hz := HZ.out
    generalize X / 2 ^ (7 - m) = Y at *
    generalize hmt : m + (7 - m) = q at *
    have HZZ := Lib.hid (show (Y : Int) % 2 = (Z : Int) by omega)
    clear hz
    go_wp2
    go_ret
    refine ⟨?_, rfl⟩
    rw [← HZZ.out]
    rfl
def emC (f : Nat → ByteArray) : Array Value := ((List.range 257).map fun d => Value.string (f d)).toArray
theorem emC_size (f : Nat → ByteArray) : (emC f).size = 257 := by simp [emC]
theorem emC_at (f : Nat → ByteArray) {d : Nat} (h : d < 257) : (emC f)[d]? = some (.string (f d)) := by simp [emC, h]
theorem emC_set (f f' : Nat → ByteArray) {d : Nat} (x : ByteArray) (hx : f' d = x) (ho : ∀ i, i < 257 → i ≠ d → f' i = f i) : (emC f).setIfInBounds d (.string x) = emC f' := by
 apply Array.ext
 · simp [emC]
 · intro i h1 h2
   have hi : i < 257 := by simpa [emC] using h2
   rw [Array.getElem_setIfInBounds (by simpa using h1)]
   by_cases h : d = i
   · subst h; simp [emC, hx]
   · rw [if_neg h]
     simp [emC, ho i hi (fun e => h e.symm)]
theorem emC_one (f : Nat → ByteArray) : (emC f).all (·.oneCell') = true := by
 rw [Array.all_eq_true_iff_forall_mem]
 intro v hv
 simp [emC] at hv
 obtain ⟨d, _, rfl⟩ := hv
 rfl
theorem infoEm : (Tryz.prog.info? 55).map (·.size) = some 257 := by kernel_rfl
theorem em_load {w : World} {g : Nat} {f : Nat → ByteArray} (h : Blk w g 55 (emC f)) : (loadVar 55 ⟨g, 0, none⟩).run Tryz.prog w = .ok (.agg (emC f)) w :=
 run_loadVar_row w g 55 55 (emC f) (0, 0) _ h Tryz.underlying55 rfl (by rw [emC_size]; exact infoEm)
end Go.Proofs.YtakgolbgeeoioaaGreat
namespace Go.Proofs.YtakgolbgeeoioaaGreat
open Go.RowKit

section
variable {P : Program} {ops : Array Oper} {Q : Exit → Act → World → Prop} {md : Region.Mode} {S : World → Prop}

theorem at_drop {ops : Array Oper} {i : Nat} {oi : Oper} {rest : List Oper} (h : ops.toList.drop i = oi :: rest) : ops[i]? = some oi := by
 rw [← Array.getElem?_toList]
 have : (ops.toList.drop i)[0]? = some oi := by rw [h]; rfl
 rw [List.getElem?_drop] at this
 exact this
theorem takeH {i : Nat} {oi : Oper} {rest : List Oper} {v : Value} {fuel : Nat} {listed : Array Bool} {a : Act} {w : World} (hd : ops.toList.drop i = oi :: rest)
 (hs : Region.noSelect ops = true) (hf : Region.free md ops listed i = true) (hr : (Region.ready md ops listed).contains i = true)
 (hQ : ∀ c a w, Q (.panic c) (a.put oi.dst v) w → Q (.panic c) a w) (hw : Region.wanted oi (yielded ops a.tmps) = true) (hy : ∀ w, S w → (execOp a.eval oi).run P w = .ok (.value v) w) (hS : S w)
 (h : wpAnyH P md ops Q S fuel (listed.setIfInBounds i true) (a.put oi.dst v) w) : wpAnyH P md ops Q S (fuel + 1) listed a w :=
 wpAnyH_take (at_drop hd) hs hf hr hQ (Or.inl ⟨hw, hy⟩) hS h
theorem skipH {i : Nat} {oi : Oper} {rest : List Oper} {fuel : Nat} {listed : Array Bool} {a : Act} {w : World} (hd : ops.toList.drop i = oi :: rest)
 (hs : Region.noSelect ops = true) (hf : Region.free md ops listed i = true) (hr : (Region.ready md ops listed).contains i = true)
 (hQ : ∀ c a w, Q (.panic c) (a.put oi.dst undef) w → Q (.panic c) a w) (hw : Region.wanted oi (yielded ops a.tmps) = false) (hS : S w)
 (h : wpAnyH P md ops Q S fuel (listed.setIfInBounds i true) (a.put oi.dst undef) w) : wpAnyH P md ops Q S (fuel + 1) listed a w :=
 wpAnyH_take (at_drop hd) hs hf hr hQ (Or.inr ⟨hw, rfl⟩) hS h
theorem doH {i : Nat} {oi : Oper} {rest : List Oper} {fuel : Nat} {listed : Array Bool} {a : Act} {w : World} (hd : ops.toList.drop i = oi :: rest)
 (hr : Region.ready md ops listed = [i]) (hw : Region.wanted oi (yielded ops a.tmps) = true)
 (h : ∀ K' : Act → World → Prop, Shut (∀ a w, S w → (S w → wpAnyH P md ops Q S fuel (listed.setIfInBounds i true) a w) → K' a w) → Oper.wp P oi a w K' Q) :
 wpAnyH P md ops Q S (fuel + 1) listed a w :=
 wpAnyH_ready hr (by simp) (AllReadyH.cons (at_drop hd) (fun K' hK => by rw [if_pos hw]; exact h K' hK) AllReadyH.nil)
end
/-- two operations may come up: each is carried out first -/
theorem doH2 {P : Program} {ops : Array Oper} {Q : Exit → Act → World → Prop} {md : Region.Mode} {S : World → Prop} {i j : Nat} {oi oj : Oper} {rest rest' : List Oper} {fuel : Nat} {listed : Array Bool} {a : Act} {w : World} (hd : ops.toList.drop i = oi :: rest) (hd' : ops.toList.drop j = oj :: rest')
 (hr : Region.ready md ops listed = [i, j]) (hw : Region.wanted oi (yielded ops a.tmps) = true) (hw' : Region.wanted oj (yielded ops a.tmps) = true)
 (h : ∀ K' : Act → World → Prop, Shut (∀ a w, S w → (S w → wpAnyH P md ops Q S fuel (listed.setIfInBounds i true) a w) → K' a w) → Oper.wp P oi a w K' Q)
 (h' : ∀ K' : Act → World → Prop, Shut (∀ a w, S w → (S w → wpAnyH P md ops Q S fuel (listed.setIfInBounds j true) a w) → K' a w) → Oper.wp P oj a w K' Q) :
 wpAnyH P md ops Q S (fuel + 1) listed a w :=
 wpAnyH_ready hr (by simp) (AllReadyH.cons (at_drop hd) (fun K' hK => by rw [if_pos hw]; exact h K' hK) (AllReadyH.cons (at_drop hd') (fun K' hK => by rw [if_pos hw']; exact h' K' hK) AllReadyH.nil))
/-- three operations may come up -/
theorem doH3 {P : Program} {ops : Array Oper} {Q : Exit → Act → World → Prop} {md : Region.Mode} {S : World → Prop} {i j k : Nat} {oi oj ok : Oper} {rest rest' rest'' : List Oper} {fuel : Nat} {listed : Array Bool} {a : Act} {w : World} (hd : ops.toList.drop i = oi :: rest) (hd' : ops.toList.drop j = oj :: rest') (hd'' : ops.toList.drop k = ok :: rest'')
 (hr : Region.ready md ops listed = [i, j, k]) (hw : Region.wanted oi (yielded ops a.tmps) = true) (hw' : Region.wanted oj (yielded ops a.tmps) = true) (hw'' : Region.wanted ok (yielded ops a.tmps) = true)
 (h : ∀ K' : Act → World → Prop, Shut (∀ a w, S w → (S w → wpAnyH P md ops Q S fuel (listed.setIfInBounds i true) a w) → K' a w) → Oper.wp P oi a w K' Q)
 (h' : ∀ K' : Act → World → Prop, Shut (∀ a w, S w → (S w → wpAnyH P md ops Q S fuel (listed.setIfInBounds j true) a w) → K' a w) → Oper.wp P oj a w K' Q)
 (h'' : ∀ K' : Act → World → Prop, Shut (∀ a w, S w → (S w → wpAnyH P md ops Q S fuel (listed.setIfInBounds k true) a w) → K' a w) → Oper.wp P ok a w K' Q) :
 wpAnyH P md ops Q S (fuel + 1) listed a w :=
 wpAnyH_ready hr (by simp) (AllReadyH.cons (at_drop hd) (fun K' hK => by rw [if_pos hw]; exact h K' hK) (AllReadyH.cons (at_drop hd') (fun K' hK => by rw [if_pos hw']; exact h' K' hK) (AllReadyH.cons (at_drop hd'') (fun K' hK => by rw [if_pos hw'']; exact h'' K' hK) AllReadyH.nil)))

/-- the first of the operations c that is not listed yet -/
def nextU (l : List Bool) : List Nat → Option Nat
 | [] => none
 | i :: c => match l[i]? with
  | some false => some i
  | _ => nextU l c
section
variable {P : Program} {ops : Array Oper} {Q : Exit → Act → World → Prop} {md : Region.Mode} {S : World → Prop}
theorem tkF (c : List Nat) {i : Nat} {oi : Oper} {rest : List Oper} {v : Value} {fuel : Nat} {listed : Array Bool} {a : Act} {w : World} (_ : nextU listed.toList c = some i) (hd : ops.toList.drop i = oi :: rest)
 (hs : (Region.noSelect ops && (Region.free md ops listed i && (Region.ready md ops listed).contains i)) = true)
 (hQ : ∀ c a w, Q (.panic c) (a.put oi.dst v) w → Q (.panic c) a w) (hw : Region.wanted oi (yielded ops a.tmps) = true) (hy : ∀ w, S w → (execOp a.eval oi).run P w = .ok (.value v) w) (hS : S w)
 (h : wpAnyH P md ops Q S fuel (listed.setIfInBounds i true) (a.put oi.dst v) w) : wpAnyH P md ops Q S (fuel + 1) listed a w := by
 rw [Bool.and_eq_true, Bool.and_eq_true] at hs
 exact takeH hd hs.1 hs.2.1 hs.2.2 hQ hw hy hS h
theorem skF (c : List Nat) {i : Nat} {oi : Oper} {rest : List Oper} {fuel : Nat} {listed : Array Bool} {a : Act} {w : World} (_ : nextU listed.toList c = some i) (hd : ops.toList.drop i = oi :: rest)
 (hs : (Region.noSelect ops && (Region.free md ops listed i && (Region.ready md ops listed).contains i)) = true)
 (hQ : ∀ c a w, Q (.panic c) (a.put oi.dst undef) w → Q (.panic c) a w) (hw : Region.wanted oi (yielded ops a.tmps) = false) (hS : S w)
 (h : wpAnyH P md ops Q S fuel (listed.setIfInBounds i true) (a.put oi.dst undef) w) : wpAnyH P md ops Q S (fuel + 1) listed a w := by
 rw [Bool.and_eq_true, Bool.and_eq_true] at hs
 exact skipH hd hs.1 hs.2.1 hs.2.2 hQ hw hS h
end
end Go.Proofs.YtakgolbgeeoioaaGreat
