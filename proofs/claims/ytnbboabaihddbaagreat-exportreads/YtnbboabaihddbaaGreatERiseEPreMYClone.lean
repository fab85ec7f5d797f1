/-
  rise: whether heads may be cut. A step of what requests and heads make, in plain words. slices.Clone of requests, and of heads.
-/
import Derived.Test.YtnbboabaihddbaaGreatEExpYFirst
import Derived.Deep.WholeRow
import Derived.Test.YtnbboabaihddbaaGreatYMathYSt
namespace Go.Proofs.YtnbboabaihddbaaGreat
open Go.RowKit

/-- the j-th head; of none the empty one -/
def lastH (hs : List Hd) : Nat → Hd
 | 0 => default
 | j + 1 => hs.getD j default
theorem lastH_zt (hs : List Hd) (k : Nat) : (lastH hs k).z = zN hs k ∧ (lastH hs k).t = tN hs k := by cases k <;> exact ⟨rfl, rfl⟩
theorem riseH_no {n : Nat} {hs : List Hd} {i : Nat} (hi : i < hs.length) (h : (hs.getD i default).z ≤ zN hs i ∨ (n : Int) < (hs.getD i default).z ∨ (hs.getD i default).t < tN hs i ∨ 2147483647 < (hs.getD i default).t) : riseH n hs = false := by
 unfold riseH
 rw [decide_eq_false_iff_not]
 intro hh
 have := hh i hi
 omega
theorem riseH_yes {n : Nat} {hs : List Hd} (h : ∀ i, i < hs.length → zN hs i < (hs.getD i default).z ∧ (hs.getD i default).z ≤ n ∧ tN hs i ≤ (hs.getD i default).t ∧ (hs.getD i default).t ≤ 2147483647) : riseH n hs = true := by
 unfold riseH
 rw [decide_eq_true_iff]
 exact h
def zeroHdE : Array Value := #[.int .i64 0, .int .i64 0, .int .i64 0, .string ⟨#[]⟩, .string ⟨#[]⟩]
section
attribute [-go_sem] loadVar
set_option maxRecDepth 100000 in
set_option maxHeartbeats 2000000 in
theorem rise_any (oa : Option Addr) (n cap m : Nat) (hs : List Hd) (hn : hs.length = n) (hn2 : n ≤ 1000000) (w : World) (hR : RowG hdK w oa hs) :
 Calls Tryz.prog 30 #[.slice oa n cap, .int .i64 m] w fun e w' => e = .returned (.bool (riseH m hs)) ∧ Below w.heap.size w w' := by
 have HNO : Hid (∀ i, i < n → ∀ x, hs.getD i default = x → (x.z ≤ zN hs i ∨ (m : Int) < x.z ∨ x.t < tN hs i ∨ 2147483647 < x.t) → riseH m hs = false) := Lib.hid fun i hi x hx h => riseH_no (i := i) (by rw [hn]; exact hi) (by rw [hx]; exact h)
 have HYES : Hid ((∀ i, i < n → zN hs i < (hs.getD i default).z ∧ (hs.getD i default).z ≤ (m : Int) ∧ tN hs i ≤ (hs.getD i default).t ∧ (hs.getD i default).t ≤ 2147483647) → riseH m hs = true) := Lib.hid fun h => riseH_yes (by rw [hn]; exact h)
 have HX : Hid (∀ k, k < n → ∃ x : Hd, hs.getD k default = x ∧ lastH hs (k + 1) = x ∧ ∃ g o, oa = some ⟨g, o, none⟩ ∧ ∀ X, Below w.heap.size w X → (loadVar 48 ⟨g, o + k * 5, none⟩).run Tryz.prog X = .ok (.agg #[.int .i64 x.q, .int .i64 x.z, .int .i64 x.t, .string x.r, .string x.m]) X) := Lib.hid fun k hk => by
  obtain ⟨g, o, h1, _, h3⟩ := hd_whole hR (i := k) (by omega)
  have e : hs.getD k default = hs[k]'(by omega) := by rw [List.getD_eq_getElem?_getD, List.getElem?_eq_getElem (by omega)]; rfl
  exact ⟨hs[k]'(by omega), e, e, g, o, h1, h3⟩
 have HLZ := Lib.hid (fun k => lastH_zt hs k)
 have HL0 : Hid (lastH hs 0 = ⟨0, 0, 0, ⟨#[]⟩, ⟨#[]⟩⟩) := Lib.hid rfl
 generalize riseH m hs = RR at *
 generalize hL : lastH hs = L at *
 generalize hG : (fun k => hs.getD k default) = G at *
 have hG' : ∀ k, hs.getD k default = G k := fun k => by rw [← hG]
 simp only [hG'] at HNO HYES HX
 generalize zN hs = Z at *
 generalize tN hs = T at *
 clear hG hG' hL hR hn
 have zh : ∀ W : World, (zeroValue 48).run Tryz.prog W = .ok (.agg zeroHdE) W := fun W => by kernel_rfl
 obtain ⟨w0, hw0⟩ : ∃ w0, w.alloc (.cells zeroHdE 48) = w0 := ⟨_, rfl⟩
 have hb0 : Below w.heap.size w w0 := by rw [← hw0]; exact (Below.refl _ w).alloc (Nat.le_refl _) _
 have k0 : Blk w0 w.heap.size 48 zeroHdE := by rw [← hw0]; exact Blk.new _ _ _
 have HW0 := Lib.hid hw0
 clear hw0
 have HB0 := Lib.hid hb0
 go_enter Tryz.func30, Tryz.ntmps30
 go_wp2_with (rw [HW0.out])
 go_loopw [10] (fun i wr => ∃ k : Nat, k ≤ n ∧ i = .int .i64 k ∧ Blk wr w.heap.size 48 (L k).enc.toArray ∧ Hid (∀ i, i < k → Z i < (G i).z ∧ (G i).z ≤ (m : Int) ∧ T i ≤ (G i).t ∧ (G i).t ≤ 2147483647) ∧ Below w.heap.size w wr) (fun i _ => n - (intOf i).toNat)
 case atStart => exact ⟨0, by omega, rfl, by rw [HL0.out]; exact k0, Lib.hid fun i hi => absurd hi (by omega), hb0⟩
 case round =>
  clear k0 hb0 HB0
  obtain ⟨k, hk, rfl, hK, HA, hB⟩ := hrel
  by_cases hlt : k < n
  · have hlt' : (k : Int) < (n : Int) := by omega
    obtain ⟨x, hx, hx1, g, o, rfl, hld⟩ := HX.out k hlt
    have d0 := hld wr hB
    have HNX := Lib.hid (HNO.out k hlt x hx)
    have HXG := Lib.hid hx
    have HXL := Lib.hid hx1
    obtain ⟨lz, lt⟩ := HLZ.out k
    obtain ⟨y, hy⟩ : ∃ y, L k = y := ⟨_, rfl⟩
    rw [hy] at hK lz lt
    obtain ⟨yq, yz, yt, yr, ym⟩ := y
    obtain ⟨xq, xz, xt, xr, xm⟩ := x
    dsimp only at d0 HNX lz lt
    have HLT := Lib.hid (And.intro lz lt)
    rw [← lz, ← lt] at HNX
    change Blk wr w.heap.size 48 #[.int .i64 yq, .int .i64 yz, .int .i64 yt, .string yr, .string ym] at hK
    obtain ⟨w2, hw2⟩ : ∃ w2, wr.alloc (.cells #[.int .i64 xq, .int .i64 xz, .int .i64 xt, .string xr, .string xm] 48) = w2 := ⟨_, rfl⟩
    have hb2 : Below wr.heap.size wr w2 := by rw [← hw2]; exact (Below.refl _ wr).alloc (Nat.le_refl _) _
    have k9 : Blk w2 wr.heap.size 48 #[.int .i64 xq, .int .i64 xz, .int .i64 xt, .string xr, .string xm] := by rw [← hw2]; exact Blk.new _ _ _
    have hK2 := hK.below hb2 hK.lt
    have hB2 := hB.trans (hb2.mono hB.size)
    have HW2 := Lib.hid hw2
    obtain ⟨g9, hg9⟩ : ∃ g9, wr.heap.size = g9 := ⟨_, rfl⟩
    have HG9 := Lib.hid hg9
    rw [hg9] at k9
    have l1 := num_load (k9.cell 1)
    have l2 := num_load (k9.cell 2)
    have l3 := num_load (hK2.cell 1)
    have l4 := num_load (hK2.cell 2)
    have l5 := head_load5 k9
    have HK2 := Lib.hid hK2
    clear hx hx1 hld hB hK hb2 k9 hw2 hg9 hy lz lt hK2
    by_cases q1 : xz ≤ yz
    · have HF := Lib.hid (HNX.out (.inl q1))
      clear l2 l4 l5
      go_wp2_with (refine wpList_store_row rfl 48 _ _ rfl wr.heap.size #[.int .i64 xq, .int .i64 xz, .int .i64 xt, .string xr, .string xm] rfl rfl 48 zeroHdE (Blk.new _ _ _) info5 rfl (hd_one _ _ _ _ _) ?_; rw [World.setRow_alloc_new, HW2.out, HG9.out])
      go_ret
      exact ⟨by rw [HF.out]; rfl, hB2⟩
    · by_cases q2 : (m : Int) < xz
      · have HF := Lib.hid (HNX.out (.inr (.inl q2)))
        clear l2 l4 l5
        go_wp2_with (refine wpList_store_row rfl 48 _ _ rfl wr.heap.size #[.int .i64 xq, .int .i64 xz, .int .i64 xt, .string xr, .string xm] rfl rfl 48 zeroHdE (Blk.new _ _ _) info5 rfl (hd_one _ _ _ _ _) ?_; rw [World.setRow_alloc_new, HW2.out, HG9.out])
        go_ret
        exact ⟨by rw [HF.out]; rfl, hB2⟩
      · by_cases q3 : xt < yt
        · have HF := Lib.hid (HNX.out (.inr (.inr (.inl q3))))
          clear l5
          go_wp2_with (refine wpList_store_row rfl 48 _ _ rfl wr.heap.size #[.int .i64 xq, .int .i64 xz, .int .i64 xt, .string xr, .string xm] rfl rfl 48 zeroHdE (Blk.new _ _ _) info5 rfl (hd_one _ _ _ _ _) ?_; rw [World.setRow_alloc_new, HW2.out, HG9.out])
          go_ret
          exact ⟨by rw [HF.out]; rfl, hB2⟩
        · by_cases q4 : 2147483647 < xt
          · have HF := Lib.hid (HNX.out (.inr (.inr (.inr q4))))
            clear l5
            go_wp2_with (refine wpList_store_row rfl 48 _ _ rfl wr.heap.size #[.int .i64 xq, .int .i64 xz, .int .i64 xt, .string xr, .string xm] rfl rfl 48 zeroHdE (Blk.new _ _ _) info5 rfl (hd_one _ _ _ _ _) ?_; rw [World.setRow_alloc_new, HW2.out, HG9.out])
            go_ret
            exact ⟨by rw [HF.out]; rfl, hB2⟩
          · have HA2 : Hid (∀ i, i < k + 1 → Z i < (G i).z ∧ (G i).z ≤ (m : Int) ∧ T i ≤ (G i).t ∧ (G i).t ≤ 2147483647) := Lib.hid fun i hi => by
             by_cases e : i = k
             · subst e
               rw [HXG.out, ← HLT.out.1, ← HLT.out.2]
               dsimp only
               omega
             · exact HA.out i (by omega)
            obtain ⟨w3, hw3⟩ : ∃ w3, w2.setRow w.heap.size #[.int .i64 xq, .int .i64 xz, .int .i64 xt, .string xr, .string xm] = w3 := ⟨_, rfl⟩
            have hB3 : Below w.heap.size w w3 := by rw [← hw3]; exact below_setRow hB2 (Nat.le_refl _) _
            have k3 : Blk w3 w.heap.size 48 #[.int .i64 xq, .int .i64 xz, .int .i64 xt, .string xr, .string xm] := by rw [← hw3]; exact blk_setRow HK2.out _
            have HW3 := Lib.hid hw3
            have HK3 := Lib.hid k3
            clear hw3 k3 hB2
            go_wp2_with (first
             | (refine wpList_store_row rfl 48 _ _ rfl wr.heap.size #[.int .i64 xq, .int .i64 xz, .int .i64 xt, .string xr, .string xm] rfl rfl 48 zeroHdE (Blk.new _ _ _) info5 rfl (hd_one _ _ _ _ _) ?_; rw [World.setRow_alloc_new, HW2.out, HG9.out])
             | (refine wpList_store_row rfl 48 _ _ rfl w.heap.size #[.int .i64 xq, .int .i64 xz, .int .i64 xt, .string xr, .string xm] rfl rfl 48 #[.int .i64 yq, .int .i64 yz, .int .i64 yt, .string yr, .string ym] HK2.out info5 rfl (hd_one _ _ _ _ _) ?_; rw [HW3.out]))
            go_roundw
            case rel => exact ⟨k + 1, by omega, by go_num, by rw [HXL.out]; exact HK3.out, HA2, hB3⟩
            case measure => simp [intOf]; omega
  · obtain rfl : n = k := by omega
    have hltN : ¬ (n : Int) < (n : Int) := by omega
    have HF := Lib.hid (HYES.out HA.out)
    clear HA HYES HNO
    go_wp2_with fail
    go_ret
    exact ⟨by rw [HF.out]; rfl, hB⟩
end
end Go.Proofs.YtnbboabaihddbaaGreat
namespace Go.Proofs.YtnbboabaihddbaaGreat
open Go.RowKit

theorem stE_none (l : List Req) (hs : List Hd) (i : Nat) (h : stE l hs i = none) : ∀ d, stE l hs (i + d) = none
 | 0 => h
 | d + 1 => by
  show stE l hs (i + d + 1) = none
  unfold stE
  rw [stE_none l hs i h d]
/-- heads that may be cut: their sizes rise from 1 on, their times are from 0 to the latest -/
theorem riseH_parts {n : Nat} {hs : List Hd} (h : riseH n hs = true) : (∀ x ∈ hs, 0 < x.z ∧ 0 ≤ x.t ∧ x.t ≤ 2147483647) ∧ hs.Pairwise fun a b => a.z < b.z := by
 have hh := of_decide_eq_true h
 have hz : ∀ i, i ≤ hs.length → 0 ≤ zN hs i ∧ 0 ≤ tN hs i := by
  intro i
  induction i with
  | zero => intro _; exact ⟨by show (0 : Int) ≤ 0; omega, by show (0 : Int) ≤ 0; omega⟩
  | succ i ih =>
   intro hi
   have := ih (by omega)
   have := hh i (by omega)
   show 0 ≤ (hs.getD i default).z ∧ 0 ≤ (hs.getD i default).t
   omega
 have hg : ∀ i (hi : i < hs.length), hs.getD i default = hs[i] := fun i hi => by rw [List.getD_eq_getElem?_getD, List.getElem?_eq_getElem hi]; rfl
 refine ⟨fun x hx => ?_, ?_⟩
 · obtain ⟨i, hi, rfl⟩ := List.getElem_of_mem hx
   have h1 := hh i hi
   have h2 := hz i (by omega)
   rw [hg i hi] at h1
   omega
 · rw [List.pairwise_iff_getElem]
   have key : ∀ d i, i + d + 1 < hs.length → zN hs (i + 1) < (hs.getD (i + d + 1) default).z := by
    intro d
    induction d with
    | zero => intro i hi; exact (hh (i + 1) (by omega)).1
    | succ d ih =>
     intro i hi
     have h1 := ih i (by omega)
     have h2 := (hh (i + d + 1 + 1) (by omega)).1
     exact Int.lt_trans h1 h2
   intro i j hi hj hij
   have := key (j - i - 1) i (by omega)
   rw [show i + (j - i - 1) + 1 = j by omega, hg j hj] at this
   have e : zN hs (i + 1) = hs[i].z := by show (hs.getD i default).z = _; rw [hg i hi]
   rw [e] at this
   exact this
/-- what stands ahead of a round -/
structure PreI (l : List Req) (hs : List Hd) (k j : Nat) (W : Wd) : Prop where
 st : stE l hs k = some W
 lo : ∀ x ∈ hs.take j, x.z ≤ (k : Int)
 hi : ∀ x ∈ hs.drop j, (k : Int) < x.z
section
variable {l : List Req} {hs : List Hd} {k j : Nat} {W : Wd}
theorem PreI.begin {n : Nat} (h : riseH n hs = true) : PreI l hs 0 0 ⟨[], [], []⟩ := ⟨rfl, (fun x hx => by cases hx), fun x hx => (((riseH_parts h).1 x hx).1)⟩
theorem PreI.inv (h : PreI l hs k j W) (hk : k ≤ l.length) : InvW W ∧ W.tk.length = k := by
 obtain ⟨h1, h2⟩ := stE_inv l hs k hk h.st
 exact ⟨h1, by rw [h2, List.length_take]; omega⟩
theorem PreI.fail (h : PreI l hs k j W) (hk : k < l.length) (he : (askS W (l.getD k default)).tk.length = W.tk.length) : stE l hs l.length = none := by
 have : stE l hs (k + 1) = none := by
  unfold stE
  rw [h.st]
  dsimp only
  rw [if_pos he]
 have := stE_none l hs (k + 1) this (l.length - (k + 1))
 rwa [show k + 1 + (l.length - (k + 1)) = l.length by omega] at this
theorem PreI.ask (h : PreI l hs k j W) (hk : k < l.length) (hne : (askS W (l.getD k default)).tk.length ≠ W.tk.length) : (askS W (l.getD k default)).tk.length = k + 1 ∧ InvW (askS W (l.getD k default)) ∧ stE l hs (k + 1) = some (cutsE hs (askS W (l.getD k default))) := by
 obtain ⟨h1, h2⟩ := h.inv (by omega)
 refine ⟨?_, h1.ask _, ?_⟩
 · rw [(askS_len _ _ hne).1, List.length_append, h2]
   rfl
 · unfold stE
   rw [h.st]
   dsimp only
   rw [if_neg hne]
/-- no head tells this length -/
theorem PreI.none (h : PreI l hs k j W) (hp : hs.Pairwise fun a b => a.z < b.z) (hk : k < l.length) (hne : (askS W (l.getD k default)).tk.length ≠ W.tk.length) (hh : ∀ x r, hs.drop j = x :: r → x.z ≠ ((k + 1 : Nat) : Int)) : PreI l hs (k + 1) j (askS W (l.getD k default)) := by
 obtain ⟨h1, _, h3⟩ := h.ask hk hne
 have hd : ∀ x ∈ hs.drop j, ((k + 1 : Nat) : Int) < x.z := by
  intro x hx
  have hq := h.hi
  cases e : hs.drop j with
  | nil => rw [e] at hx; cases hx
  | cons y r =>
   have hy := hh y r e
   have hpd := hp.drop (i := j)
   rw [e] at hx hpd hq
   have hy2 := hq y (by simp)
   rcases List.mem_cons.1 hx with rfl | hx
   · push_cast at hy ⊢; omega
   · have := (List.pairwise_cons.1 hpd).1 x hx
     push_cast at hy ⊢
     omega
 refine ⟨?_, fun x hx => by have := h.lo x hx; push_cast; omega, hd⟩
 rw [h3, cutsE_none]
 intro x hx
 rw [h1]
 rw [← List.take_append_drop j hs] at hx
 rcases List.mem_append.1 hx with hx | hx
 · have := h.lo x hx; push_cast; omega
 · have := hd x hx; omega
/-- the first of the heads that are left tells this length -/
theorem PreI.one (h : PreI l hs k j W) (hp : hs.Pairwise fun a b => a.z < b.z) (hk : k < l.length) (hne : (askS W (l.getD k default)).tk.length ≠ W.tk.length) {x : Hd} {r : List Hd} (e : hs.drop j = x :: r) (hz : x.z = ((k + 1 : Nat) : Int)) : PreI l hs (k + 1) (j + 1) (cutS (askS W (l.getD k default)) x.t) := by
 obtain ⟨h1, _, h3⟩ := h.ask hk hne
 have hpd := hp.drop (i := j)
 rw [e] at hpd
 have hr : ∀ y ∈ r, ((k + 1 : Nat) : Int) < y.z := fun y hy => by rw [← hz]; exact (List.pairwise_cons.1 hpd).1 y hy
 have hj : j < hs.length := by
  rcases Nat.lt_or_ge j hs.length with h | h
  · exact h
  · rw [List.drop_of_length_le h] at e; cases e
 have hd1 : hs.drop (j + 1) = r := by rw [← List.drop_drop, e]; rfl
 have ht1 : hs.take (j + 1) = hs.take j ++ [x] := by
  rw [List.take_succ_eq_append_getElem hj]
  rw [List.drop_eq_getElem_cons hj] at e
  injection e with e1 e2
  rw [e1]
 refine ⟨?_, ?_, ?_⟩
 · rw [h3]
   conv => lhs; rw [← List.take_append_drop j hs, e]
   rw [cutsE_one]
   · intro y hy
     have := h.lo y hy
     rw [h1]; push_cast; omega
   · intro y hy
     have := hr y hy
     rw [h1]; omega
   · rw [h1]; exact hz
 · intro y hy
   rw [ht1] at hy
   rcases List.mem_append.1 hy with hy | hy
   · have := h.lo y hy; push_cast; omega
   · obtain rfl := List.mem_singleton.1 hy
     exact Int.le_of_eq hz
 · rw [hd1]; exact hr
end
end Go.Proofs.YtnbboabaihddbaaGreat
namespace Go.Proofs.YtnbboabaihddbaaGreat
open Go.RowKit

set_option maxRecDepth 100000 in
set_option maxHeartbeats 1000000 in
theorem clone_reqs (oa : Option Addr) (n c : Nat) (ts : List Req) (hn : ts.length = n) (hlen : n ≤ 1048576) (hle : n ≤ c) (hna : oa = none → c = 0) (w : World) (ha : RowG reqK w oa ts) :
 Calls Tryz.prog 65 #[.slice oa n c] w (RG reqK ts w) := by
 have q : ∀ (W : World) (a : Option Addr) (n c n' c' : Nat), (binOp .eql 32 (.slice a n c) (.slice none n' c')).run Tryz.prog W = .ok (.bool a.isNone) W := fun W a n c n' c' => Lib.run_eql_slice_nil W _ _ a n c n' c' Tryz.underlying32
 have HRT := Lib.hid (show ∀ e w', RG reqK ts w e w' = ∃ v, e = .returned v ∧ OwnG reqK w' w.heap.size v ts ∧ Below w.heap.size w w' from fun _ _ => rfl)
 cases oa with
 | none =>
  obtain rfl : c = 0 := hna rfl
  obtain rfl : n = 0 := by omega
  obtain rfl : ts = [] := List.length_eq_zero_iff.1 hn
  generalize RG reqK [] w = PO at *
  go_enter Tryz.func65, Tryz.ntmps65
  go_wp2
  rw [HRT.out]
  exact ⟨_, rfl, ownG_nil _ _, Below.refl _ _⟩
 | some a =>
  have hm0 : OwnG reqK (w.alloc (.cells #[] 58)) w.heap.size (.slice (some ⟨w.heap.size, 0, none⟩) 0 0) [] := ownG_lit reqOk w w.heap.size (Nat.le_refl _)
  have hB0 := (Below.refl _ w).alloc (Nat.le_refl _) (.cells #[] 58)
  obtain ⟨v', w', hr, hown', hg'⟩ := append_g reqOk hm0 (some a) n c hn (ha.below hB0) (fun _ h => by cases h) (by simp; omega) (by simp)
  have hr : (Builtin.append_ #[32, 32] 32 #[.slice (some ⟨w.heap.size, 0, none⟩) 0 0, .slice (some a) n c]).run Tryz.prog (w.alloc (.cells #[] 58)) = .ok v' w' := hr
  have hB' := ownG_below hB0 hm0 (Nat.le_refl _) hg'
  have HO := Lib.hid hown'
  generalize RG reqK ts w = PO at *
  clear hown' hg' hm0
  go_enter Tryz.func65, Tryz.ntmps65
  go_wp2_with (at_builtin; refine Lib.wpList_append_run _ rfl _ _ 32 32 rfl _ _ rfl rfl _ _ hr ?_)
  go_wp2
  rw [HRT.out]
  exact ⟨_, rfl, by simpa using HO.out, hB'⟩
set_option maxRecDepth 100000 in
set_option maxHeartbeats 1000000 in
theorem clone_heads (oa : Option Addr) (n c : Nat) (ts : List Hd) (hn : ts.length = n) (hlen : n ≤ 1048576) (hle : n ≤ c) (hna : oa = none → c = 0) (w : World) (ha : RowG hdK w oa ts) :
 Calls Tryz.prog 66 #[.slice oa n c] w (RG hdK ts w) := by
 have q : ∀ (W : World) (a : Option Addr) (n c n' c' : Nat), (binOp .eql 39 (.slice a n c) (.slice none n' c')).run Tryz.prog W = .ok (.bool a.isNone) W := fun W a n c n' c' => Lib.run_eql_slice_nil W _ _ a n c n' c' Tryz.underlying39
 have HRT := Lib.hid (show ∀ e w', RG hdK ts w e w' = ∃ v, e = .returned v ∧ OwnG hdK w' w.heap.size v ts ∧ Below w.heap.size w w' from fun _ _ => rfl)
 cases oa with
 | none =>
  obtain rfl : c = 0 := hna rfl
  obtain rfl : n = 0 := by omega
  obtain rfl : ts = [] := List.length_eq_zero_iff.1 hn
  generalize RG hdK [] w = PO at *
  go_enter Tryz.func66, Tryz.ntmps66
  go_wp2
  rw [HRT.out]
  exact ⟨_, rfl, ownG_nil _ _, Below.refl _ _⟩
 | some a =>
  have hm0 : OwnG hdK (w.alloc (.cells #[] 48)) w.heap.size (.slice (some ⟨w.heap.size, 0, none⟩) 0 0) [] := ownG_lit hdOk w w.heap.size (Nat.le_refl _)
  have hB0 := (Below.refl _ w).alloc (Nat.le_refl _) (.cells #[] 48)
  obtain ⟨v', w', hr, hown', hg'⟩ := append_g hdOk hm0 (some a) n c hn (ha.below hB0) (fun _ h => by cases h) (by simp; omega) (by simp)
  have hr : (Builtin.append_ #[39, 39] 39 #[.slice (some ⟨w.heap.size, 0, none⟩) 0 0, .slice (some a) n c]).run Tryz.prog (w.alloc (.cells #[] 48)) = .ok v' w' := hr
  have hB' := ownG_below hB0 hm0 (Nat.le_refl _) hg'
  have HO := Lib.hid hown'
  generalize RG hdK ts w = PO at *
  clear hown' hg' hm0
  go_enter Tryz.func66, Tryz.ntmps66
  go_wp2_with (at_builtin; refine Lib.wpList_append_run _ rfl _ _ 39 39 rfl _ _ rfl rfl _ _ hr ?_)
  go_wp2
  rw [HRT.out]
  exact ⟨_, rfl, by simpa using HO.out, hB'⟩
end Go.Proofs.YtnbboabaihddbaaGreat
