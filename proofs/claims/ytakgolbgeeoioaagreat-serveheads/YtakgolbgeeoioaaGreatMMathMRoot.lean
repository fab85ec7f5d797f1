/-
  Layer 4 in plain words: roots, proofs, and what is put together of them. Leaves, nodes, roots: the program's and the reference's.
-/
import Derived.Test.YtakgolbgeeoioaaGreatRefSumHSumMLen
import Derived.Deep.RegionHeld3
namespace Go.Proofs.YtakgolbgeeoioaaGreat
open Go.RowKit

/-- a leaf's hash; two parts together -/
def leafM (b : ByteArray) : ByteArray := hB (⟨#[0]⟩ ++ b)
def nodM (l r : ByteArray) : ByteArray := hB (⟨#[1]⟩ ++ l ++ r)
theorem nodM_size (l r : ByteArray) : (nodM l r).size = 32 := hB_size _
theorem kM_pos (n : Nat) : 0 < kM n := Nat.two_pow_pos _
theorem kM_lt {n : Nat} (h : 2 ≤ n) : kM n < n := by
 have := Nat.log2_self_le (show n - 1 ≠ 0 by omega)
 unfold kM
 omega
theorem kM_le {n : Nat} (h : 2 ≤ n) : n ≤ 2 * kM n := by
 have := Nat.lt_log2_self (n := n - 1)
 unfold kM
 rw [Nat.pow_succ] at this
 omega
theorem kM_same {n m : Nat} (h : 2 ≤ n) (h1 : kM n < m) (h2 : m ≤ n) : kM m = kM n := by
 have h3 := kM_le h
 have h4 := kM_pos n
 unfold kM at *
 have e : Nat.log2 (m - 1) = Nat.log2 (n - 1) := (Nat.log2_eq_iff (show m - 1 ≠ 0 by omega)).2 ⟨by omega, by rw [Nat.pow_succ]; omega⟩
 rw [e]

/-- the root of hashes -/
def rootM (l : List ByteArray) : ByteArray :=
 if _h : 2 ≤ l.length then nodM (rootM (l.take (kM l.length))) (rootM (l.drop (kM l.length)))
 else if l.length = 0 then hB ⟨#[]⟩ else l.getD 0 ByteArray.empty
termination_by l.length
decreasing_by
 · have := kM_lt _h; rw [List.length_take]; omega
 · have := kM_pos l.length; rw [List.length_drop]; omega
/-- an inclusion proof -/
def incM (l : List ByteArray) (i : Nat) : List ByteArray :=
 if _h : 2 ≤ l.length then
  if i < kM l.length then incM (l.take (kM l.length)) i ++ [rootM (l.drop (kM l.length))]
  else incM (l.drop (kM l.length)) (i - kM l.length) ++ [rootM (l.take (kM l.length))]
 else []
termination_by l.length
decreasing_by
 · have := kM_lt _h; rw [List.length_take]; omega
 · have := kM_pos l.length; rw [List.length_drop]; omega
/-- a consistency proof -/
def conM (l : List ByteArray) (m : Nat) (b : Bool) : List ByteArray :=
 if m = l.length then (if b = true then [] else [rootM l])
 else if _h : 2 ≤ l.length then
  if m ≤ kM l.length then conM (l.take (kM l.length)) m b ++ [rootM (l.drop (kM l.length))]
  else conM (l.drop (kM l.length)) (m - kM l.length) false ++ [rootM (l.take (kM l.length))]
 else []
termination_by l.length
decreasing_by
 · have := kM_lt _h; rw [List.length_take]; omega
 · have := kM_pos l.length; rw [List.length_drop]; omega
/-- how many hashes they have -/
def depM (i n : Nat) : Nat :=
 if _h : 2 ≤ n then (if i < kM n then depM i (kM n) + 1 else depM (i - kM n) (n - kM n) + 1) else 0
termination_by n
decreasing_by
 · exact kM_lt _h
 · have := kM_pos n; omega
def lenM (m n : Nat) (b : Bool) : Nat :=
 if m = n then (if b = true then 0 else 1)
 else if _h : 2 ≤ n then (if m ≤ kM n then lenM m (kM n) b + 1 else lenM (m - kM n) (n - kM n) false + 1) else 0
termination_by n
decreasing_by
 · exact kM_lt _h
 · have := kM_pos n; omega
/-- the last one; the others -/
def endM (p : List ByteArray) : ByteArray := p.getD (p.length - 1) ByteArray.empty
def cutM (p : List ByteArray) : List ByteArray := p.take (p.length - 1)
theorem endM_snoc (p : List ByteArray) (x : ByteArray) : endM (p ++ [x]) = x := by simp [endM, List.getD_eq_getElem?_getD]
theorem cutM_snoc (p : List ByteArray) (x : ByteArray) : cutM (p ++ [x]) = p := by simp [cutM]
theorem cutM_length (p : List ByteArray) : (cutM p).length = p.length - 1 := by unfold cutM; rw [List.length_take]; omega
/-- what a proof makes of a leaf -/
def rebM (leaf : ByteArray) (i n : Nat) (p : List ByteArray) : ByteArray × Bool :=
 if _h : 2 ≤ n then
  if p.length = 0 then (⟨#[]⟩, false)
  else if i < kM n then (nodM (rebM leaf i (kM n) (cutM p)).1 (endM p), (rebM leaf i (kM n) (cutM p)).2)
  else (nodM (endM p) (rebM leaf (i - kM n) (n - kM n) (cutM p)).1, (rebM leaf (i - kM n) (n - kM n) (cutM p)).2)
 else (leaf, p.length == 0)
termination_by n
decreasing_by
 all_goals first
  | exact kM_lt _h
  | (have := kM_pos n; omega)
/-- what a proof makes of the first ones' root -/
def botM (m n : Nat) (first : ByteArray) (b : Bool) (p : List ByteArray) : ByteArray × ByteArray × Bool :=
 if m = n ∧ b = true then (first, first, p.length == 0)
 else if p.length = 0 then (⟨#[]⟩, ⟨#[]⟩, false)
 else if m = n then (endM p, endM p, (cutM p).length == 0)
 else if _h : 2 ≤ n then
  if m ≤ kM n then ((botM m (kM n) first b (cutM p)).1, nodM (botM m (kM n) first b (cutM p)).2.1 (endM p), (botM m (kM n) first b (cutM p)).2.2)
  else (nodM (endM p) (botM (m - kM n) (n - kM n) first false (cutM p)).1, nodM (endM p) (botM (m - kM n) (n - kM n) first false (cutM p)).2.1, (botM (m - kM n) (n - kM n) first false (cutM p)).2.2)
 else (⟨#[]⟩, ⟨#[]⟩, false)
termination_by n
decreasing_by
 all_goals first
  | exact kM_lt _h
  | (have := kM_pos n; omega)

theorem rootM_nil {l : List ByteArray} (h : l.length = 0) : rootM l = hB ⟨#[]⟩ := by rw [rootM, dif_neg (by omega), if_pos h]
theorem rootM_one {l : List ByteArray} (h : l.length = 1) : rootM l = l.getD 0 ByteArray.empty := by rw [rootM, dif_neg (by omega), if_neg (by omega)]
theorem rootM_more {l : List ByteArray} (h : 2 ≤ l.length) : rootM l = nodM (rootM (l.take (kM l.length))) (rootM (l.drop (kM l.length))) := by rw [rootM, dif_pos h]

theorem len_take {l : List ByteArray} (h : 2 ≤ l.length) : (l.take (kM l.length)).length = kM l.length := by rw [List.length_take]; have := kM_lt h; omega
theorem len_drop (l : List ByteArray) : (l.drop (kM l.length)).length = l.length - kM l.length := List.length_drop

theorem incM_length (l : List ByteArray) (i : Nat) : (incM l i).length = depM i l.length := by
 induction h : l.length using Nat.strongRecOn generalizing l i with
 | _ n ih =>
  subst h
  rw [incM, depM]
  by_cases h2 : 2 ≤ l.length
  · rw [dif_pos h2, dif_pos h2]
    split
    · rw [List.length_append, ih _ (kM_lt h2) _ _ (len_take h2)]; rfl
    · rw [List.length_append, ih _ (by have := kM_pos l.length; omega) _ _ (len_drop l)]; rfl
  · rw [dif_neg h2, dif_neg h2]; rfl
theorem conM_length (l : List ByteArray) (m : Nat) (b : Bool) : (conM l m b).length = lenM m l.length b := by
 induction h : l.length using Nat.strongRecOn generalizing l m b with
 | _ n ih =>
  subst h
  rw [conM, lenM]
  by_cases h1 : m = l.length
  · rw [if_pos h1, if_pos h1]; split <;> rfl
  · rw [if_neg h1, if_neg h1]
    by_cases h2 : 2 ≤ l.length
    · rw [dif_pos h2, dif_pos h2]
      split
      · rw [List.length_append, ih _ (kM_lt h2) _ _ _ (len_take h2)]; rfl
      · rw [List.length_append, ih _ (by have := kM_pos l.length; omega) _ _ _ (len_drop l)]; rfl
    · rw [dif_neg h2, dif_neg h2]; rfl

/-- a leaf's own proof holds -/
theorem rebM_inc (l : List ByteArray) (i : Nat) (hi : i < l.length) : rebM (l.getD i ByteArray.empty) i l.length (incM l i) = (rootM l, true) := by
 induction h : l.length using Nat.strongRecOn generalizing l i with
 | _ n ih =>
  subst h
  rw [rebM]
  by_cases h2 : 2 ≤ l.length
  · rw [dif_pos h2, incM, dif_pos h2, rootM_more h2]
    have hk := kM_lt h2
    by_cases hc : i < kM l.length
    · rw [if_pos hc, if_pos hc, if_neg (by rw [List.length_append]; simp), cutM_snoc, endM_snoc]
      have := ih _ hk (l.take (kM l.length)) i (by rw [len_take h2]; exact hc) (len_take h2)
      rw [List.getD_eq_getElem?_getD, List.getElem?_take, if_pos hc, ← List.getD_eq_getElem?_getD] at this
      rw [this]
    · rw [if_neg hc, if_neg hc, if_neg (by rw [List.length_append]; simp), cutM_snoc, endM_snoc]
      have := ih _ (by have := kM_pos l.length; omega) (l.drop (kM l.length)) (i - kM l.length) (by rw [len_drop]; omega) (len_drop l)
      rw [List.getD_eq_getElem?_getD, List.getElem?_drop, show kM l.length + (i - kM l.length) = i by omega, ← List.getD_eq_getElem?_getD] at this
      rw [this]
  · obtain rfl : i = 0 := by omega
    rw [dif_neg h2, incM, dif_neg h2, rootM_one (by omega)]
    rfl
/-- a beginning's own proof holds -/
theorem botM_con (l : List ByteArray) (m : Nat) (b : Bool) (first : ByteArray) (h0 : 1 ≤ m) (hm : m ≤ l.length) (hf : b = true → first = rootM (l.take m)) : botM m l.length first b (conM l m b) = (rootM (l.take m), rootM l, true) := by
 induction h : l.length using Nat.strongRecOn generalizing l m b with
 | _ n ih =>
  subst h
  rw [botM]
  by_cases h1 : m = l.length
  · have ht : l.take m = l := by rw [h1, List.take_length]
    rw [conM, if_pos h1]
    cases b with
    | true => rw [if_pos ⟨h1, rfl⟩, hf rfl, ht]; rfl
    | false =>
     rw [if_neg (fun h => by cases h.2), show (if false = true then ([] : List ByteArray) else [rootM l]) = [rootM l] from rfl, if_neg (by simp), if_pos h1, ht]
     rfl
  · have h2 : 2 ≤ l.length := by omega
    have hk := kM_lt h2
    have hk0 := kM_pos l.length
    rw [if_neg (fun h => h1 h.1), if_neg h1, dif_pos h2, conM, if_neg h1, dif_pos h2]
    by_cases hc : m ≤ kM l.length
    · rw [if_pos hc, if_pos hc, if_neg (by rw [List.length_append]; simp), cutM_snoc, endM_snoc]
      have ht : (l.take (kM l.length)).take m = l.take m := by rw [List.take_take, Nat.min_eq_left hc]
      have := ih _ hk (l.take (kM l.length)) m b h0 (by rw [len_take h2]; exact hc) (by rw [ht]; exact hf) (len_take h2)
      rw [ht] at this
      rw [this]
      show (rootM (l.take m), nodM (rootM (l.take (kM l.length))) (rootM (l.drop (kM l.length))), true) = _
      rw [← rootM_more h2]
    · rw [if_neg hc, if_neg hc, if_neg (by rw [List.length_append]; simp), cutM_snoc, endM_snoc]
      have := ih _ (by omega) (l.drop (kM l.length)) (m - kM l.length) false (by omega) (by rw [len_drop]; omega) (fun h => by cases h) (len_drop l)
      rw [this]
      show (nodM (rootM (l.take (kM l.length))) (rootM ((l.drop (kM l.length)).take (m - kM l.length))), nodM (rootM (l.take (kM l.length))) (rootM (l.drop (kM l.length))), true) = _
      rw [← rootM_more h2]
      have hl : (l.take m).length = m := by rw [List.length_take]; omega
      have e : rootM (l.take m) = nodM (rootM (l.take (kM l.length))) (rootM ((l.drop (kM l.length)).take (m - kM l.length))) := by
       rw [rootM_more (by rw [hl]; omega), hl, kM_same h2 (by omega) hm, List.take_take, Nat.min_eq_left (by omega), List.drop_take]
      rw [e]

/-- a proof's number of hashes is told -/
theorem rebM_two (leaf : ByteArray) (i n : Nat) (p : List ByteArray) : (rebM leaf i n p).2 = decide (p.length = depM i n) := by
 induction n using Nat.strongRecOn generalizing i p with
 | _ n ih =>
  rw [rebM, depM]
  by_cases h2 : 2 ≤ n
  · rw [dif_pos h2, dif_pos h2]
    by_cases hp : p.length = 0
    · rw [if_pos hp]
      symm
      rw [decide_eq_false_iff_not]
      split <;> omega
    · rw [if_neg hp]
      by_cases hc : i < kM n
      · rw [if_pos hc, if_pos hc]
        show (rebM leaf i (kM n) (cutM p)).2 = _
        rw [ih _ (kM_lt h2), cutM_length]
        exact decide_eq_decide.2 (by omega)
      · rw [if_neg hc, if_neg hc]
        show (rebM leaf (i - kM n) (n - kM n) (cutM p)).2 = _
        rw [ih _ (by have := kM_pos n; omega), cutM_length]
        exact decide_eq_decide.2 (by omega)
  · rw [dif_neg h2, dif_neg h2]
    show (p.length == 0) = _
    rw [Bool.eq_iff_iff, beq_iff_eq, decide_eq_true_iff]
theorem botM_two (m n : Nat) (first : ByteArray) (b : Bool) (p : List ByteArray) (h0 : 1 ≤ m) (hm : m ≤ n) : (botM m n first b p).2.2 = decide (p.length = lenM m n b) := by
 induction n using Nat.strongRecOn generalizing m b p with
 | _ n ih =>
  rw [botM, lenM]
  by_cases h1 : m = n
  · rw [if_pos h1, if_pos h1]
    cases b with
    | true => rw [if_pos ⟨h1, rfl⟩, if_pos rfl]; show (p.length == 0) = _; rw [Bool.eq_iff_iff, beq_iff_eq, decide_eq_true_iff]
    | false =>
     rw [if_neg (fun h => by cases h.2), show (if false = true then 0 else 1) = 1 from rfl]
     by_cases hp : p.length = 0
     · rw [if_pos hp]; symm; rw [decide_eq_false_iff_not]; omega
     · rw [if_neg hp]; show ((cutM p).length == 0) = _; rw [Bool.eq_iff_iff, beq_iff_eq, decide_eq_true_iff, cutM_length]; omega
  · rw [if_neg (fun h => h1 h.1), if_neg h1, if_neg h1]
    have h2 : 2 ≤ n := by omega
    rw [dif_pos h2, dif_pos h2]
    have hk := kM_lt h2
    have hk0 := kM_pos n
    by_cases hp : p.length = 0
    · rw [if_pos hp]
      symm
      rw [decide_eq_false_iff_not]
      split <;> omega
    · rw [if_neg hp]
      by_cases hc : m ≤ kM n
      · rw [if_pos hc, if_pos hc]
        show (botM m (kM n) first b (cutM p)).2.2 = _
        rw [ih _ hk _ _ _ h0 hc, cutM_length]
        exact decide_eq_decide.2 (by omega)
      · rw [if_neg hc, if_neg hc]
        show (botM (m - kM n) (n - kM n) first false (cutM p)).2.2 = _
        rw [ih _ (by omega) _ _ _ (by omega) (by omega), cutM_length]
        exact decide_eq_decide.2 (by omega)

/-- texts none of which is too long -/
def Sz (l : List ByteArray) : Prop := ∀ x ∈ l, x.size ≤ 1073741824
theorem Sz.get {l : List ByteArray} (h : Sz l) (i : Nat) : (l.getD i ByteArray.empty).size ≤ 1073741824 := by
 rw [List.getD_eq_getElem?_getD]
 cases e : l[i]? with
 | none => exact Nat.zero_le _
 | some x => exact h x (List.mem_of_getElem? e)
theorem Sz.take {l : List ByteArray} (h : Sz l) (k : Nat) : Sz (l.take k) := fun x hx => h x (List.mem_of_mem_take hx)
theorem Sz.drop {l : List ByteArray} (h : Sz l) (k : Nat) : Sz (l.drop k) := fun x hx => h x (List.mem_of_mem_drop hx)
theorem nod_le (l r : ByteArray) : (nodM l r).size ≤ 1073741824 := by rw [nodM_size]; decide
theorem rootM_sz {l : List ByteArray} (h : Sz l) : (rootM l).size ≤ 1073741824 := by
 rw [rootM]
 split
 · rw [nodM_size]; decide
 · split
   · rw [hB_size]; decide
   · exact h.get 0
theorem endM_sz {p : List ByteArray} (h : Sz p) : (endM p).size ≤ 1073741824 := h.get _
theorem cutM_sz {p : List ByteArray} (h : Sz p) : Sz (cutM p) := h.take _
theorem rebM_sz {leaf : ByteArray} (i n : Nat) {p : List ByteArray} (hl : leaf.size ≤ 1073741824) : (rebM leaf i n p).1.size ≤ 1073741824 := by
 rw [rebM]
 split
 · split
   · exact Nat.zero_le _
   · split
     · dsimp only; exact nod_le _ _
     · dsimp only; exact nod_le _ _
 · exact hl
theorem botM_sz (m n : Nat) {first : ByteArray} (b : Bool) {p : List ByteArray} (hl : first.size ≤ 1073741824) (hp : Sz p) : (botM m n first b p).1.size ≤ 1073741824 ∧ (botM m n first b p).2.1.size ≤ 1073741824 := by
 induction n using Nat.strongRecOn generalizing m b p with
 | _ n ih =>
  rw [botM]
  split
  · exact ⟨hl, hl⟩
  · split
    · exact ⟨Nat.zero_le _, Nat.zero_le _⟩
    · split
      · exact ⟨endM_sz hp, endM_sz hp⟩
      · split
        · rename_i h2
          split
          · exact ⟨(ih _ (kM_lt h2) _ _ (cutM_sz hp)).1, by dsimp only; exact nod_le _ _⟩
          · exact ⟨by dsimp only; exact nod_le _ _, by dsimp only; exact nod_le _ _⟩
        · exact ⟨Nat.zero_le _, Nat.zero_le _⟩
end Go.Proofs.YtakgolbgeeoioaaGreat
namespace Go.Proofs.YtakgolbgeeoioaaGreat
open Go.RowKit

set_option maxRecDepth 100000 in
/-- slices of slices of texts -/
theorem slice_to (oa : Option Addr) (n cap k : Nat) (hk : k ≤ cap) (W : World) : (Instr.slice 86 (.slice oa n cap) none (some (.int .i64 (k : Int))) none).run Tryz.prog W = .ok (.slice oa k cap) W := by
 rw [run_slice_h W _ _ n cap Tryz.underlying86 .i64 (k : Int) (by omega) (by omega)]
 have hs : (sizeOf (Tryz.prog.elem 86)).run Tryz.prog W = .ok 1 W := by kernel_rfl
 rw [hs]
 simp only [Result.andThen_ok, sliced, Int.toNat_natCast, Nat.zero_mul, Nat.sub_zero]
 congr 2
 split
 · rfl
 · cases oa with
   | none => rfl
   | some a => simp [Addr.add]
set_option maxRecDepth 100000 in
theorem slice_on (oa : Option Addr) (n cap k : Nat) (hk : k < n) (hn : n ≤ cap) (W : World) : (Instr.slice 86 (.slice oa n cap) (some (.int .i64 (k : Int))) none none).run Tryz.prog W = .ok (.slice (oa.map (·.add k)) (n - k) (cap - k)) W := by
 rw [run_slice_l W _ _ n cap Tryz.underlying86 .i64 (k : Int) (by omega) (by omega)]
 have hs : (sizeOf (Tryz.prog.elem 86)).run Tryz.prog W = .ok 1 W := by kernel_rfl
 rw [hs]
 simp only [Result.andThen_ok, sliced, Int.toNat_natCast, if_neg (show ¬ cap = k by omega), Nat.mul_one]
theorem add_add (a : Addr) (k i : Nat) : (a.add k).add i = a.add (k + i) := by
 unfold Addr.add
 by_cases hk : k = 0
 · subst hk; simp
 · by_cases hi : i = 0
   · subst hi; simp
   · rw [if_neg hk, if_neg hi, if_neg (by omega)]
     simp [Nat.add_assoc]
theorem Strs.take {w : World} {oa : Option Addr} {ss : List ByteArray} (h : Strs w oa ss) (k : Nat) : Strs w oa (ss.take k) := by
 intro i hi
 rw [List.length_take] at hi
 obtain ⟨a, h1, h2, h3⟩ := h i (by omega)
 refine ⟨a, h1, h2, ?_⟩
 rw [h3, List.getD_eq_getElem?_getD, List.getD_eq_getElem?_getD, List.getElem?_take, if_pos (by omega)]
theorem Strs.drop {w : World} {oa : Option Addr} {ss : List ByteArray} (h : Strs w oa ss) (k : Nat) : Strs w (oa.map (·.add k)) (ss.drop k) := by
 intro i hi
 rw [List.length_drop] at hi
 obtain ⟨a, rfl, h2, h3⟩ := h (k + i) (by omega)
 refine ⟨a.add k, rfl, by rw [add_block]; exact h2, ?_⟩
 rw [add_add, h3, List.getD_eq_getElem?_getD, List.getD_eq_getElem?_getD, List.getElem?_drop]

section
attribute [-go_sem] loadVar
set_option maxRecDepth 100000 in
set_option maxHeartbeats 1000000 in
theorem mjoin_any (l r : ByteArray) (hl : l.size ≤ 1073741824) (hr : r.size ≤ 1073741824) (w : World) :
 Calls Tryz.prog 75 #[.agg tabV, .string l, .string r] w fun e w' => e = .returned (.string (nodM l r)) ∧ Below w.heap.size w w' := by
 have z0 : (⟨#[1]⟩ : ByteArray).size = 1 := rfl
 have a1 : ¬ (⟨#[1]⟩ : ByteArray).size + l.size > 9223372036854775807 := by omega
 have a2 : ¬ ((⟨#[1]⟩ : ByteArray) ++ l).size + r.size > 9223372036854775807 := by simp only [ByteArray.size_append]; omega
 have HS := Lib.hid (fun W => hsum_any (⟨#[1]⟩ ++ l ++ r) (by simp only [ByteArray.size_append]; omega) W)
 change Hid (∀ W, Calls Tryz.prog 73 _ W fun e w' => e = .returned (.string (nodM l r)) ∧ Below W.heap.size W w') at HS
 generalize nodM l r = R at *
 have hB0 := (Below.refl _ w).alloc (Nat.le_refl _) (.cells tabV 29)
 have hT := tab_run (Blk.new w 29 tabV)
 clear z0
 go_enter Tryz.func75, Tryz.ntmps75
 go_wp2_with fail
 refine (HS.out _).mono ?_
 rintro e w' ⟨rfl, hB⟩
 have hB2 := hB0.trans (hB.mono hB0.size)
 go_wp2
 go_ret
 exact ⟨rfl, hB2⟩
set_option maxRecDepth 100000 in
set_option maxHeartbeats 4000000 in
theorem mroot_any (n : Nat) : ∀ (oa : Option Addr) (cap : Nat) (ss : List ByteArray) (_ : ss.length = n) (_ : n ≤ 256) (_ : n ≤ cap) (_ : Sz ss) (w : World) (_ : Strs w oa ss),
 Calls Tryz.prog 47 #[.agg tabV, .slice oa n cap] w fun e w' => e = .returned (.string (rootM ss)) ∧ Below w.heap.size w w' := by
 induction n using Nat.strongRecOn with
 | _ n ih =>
 intro oa cap ss hn hm hcap hz w hc
 have hB0 := (Below.refl _ w).alloc (Nat.le_refl _) (.cells tabV 29)
 have hT : Blk (w.alloc (.cells tabV 29)) w.heap.size 29 tabV := Blk.new _ _ _
 have hc0 := hc.below hB0
 clear hc
 by_cases h2 : 2 ≤ n
 · have hn0 : ((n : Int) == 0) = false := by rw [beq_eq_false_iff_ne]; omega
   have hn1 : ((n : Int) == 1) = false := by rw [beq_eq_false_iff_ne]; omega
   have HP := Lib.hid (fun W => parting_any n h2 hm W)
   have hk1 := kM_lt h2
   have hk0 := kM_pos n
   have HR := Lib.hid (show rootM ss = nodM (rootM (ss.take (kM n))) (rootM (ss.drop (kM n))) by rw [rootM_more (by omega), hn])
   have HL := Lib.hid (fun W hW => ih (kM n) hk1 oa cap (ss.take (kM n)) (by rw [List.length_take]; omega) (by omega) (by omega) (hz.take _) W hW)
   have HRR := Lib.hid (fun W hW => ih (n - kM n) (by omega) (oa.map (·.add (kM n))) (cap - kM n) (ss.drop (kM n)) (by rw [List.length_drop]; omega) (by omega) (by omega) (hz.drop _) W hW)
   have HJ := Lib.hid (fun W => mjoin_any (rootM (ss.take (kM n))) (rootM (ss.drop (kM n))) (rootM_sz (hz.take _)) (rootM_sz (hz.drop _)) W)
   rw [← HR.out] at HJ
   have hs1 := slice_to oa n cap (kM n) (by omega)
   have hs2 := slice_on oa n cap (kM n) hk1 hcap
   have HC1 := Lib.hid (hc0.take (kM n))
   have HC2 := Lib.hid (hc0.drop (kM n))
   generalize ss.take (kM n) = s1 at *
   generalize ss.drop (kM n) = s2 at *
   generalize rootM ss = R at *
   generalize rootM s1 = R1 at *
   generalize rootM s2 = R2 at *
   generalize kM n = k at *
   generalize oa.map (·.add k) = ob at *
   clear HR ih hz hc0 hn
   go_enter Tryz.func47, Tryz.ntmps47
   go_wp2_with fail
   refine (HP.out _).mono ?_
   rintro e w' ⟨rfl, rfl⟩
   go_wp2
   generalize w.alloc (.cells tabV 29) = w0 at *
   obtain ⟨B, hBB⟩ : ∃ B, w.heap.size = B := ⟨_, rfl⟩
   rw [hBB] at hB0 hT ⊢
   have HBB := Lib.hid hBB
   clear hBB
   have HKP : Hid (∀ W, Below w0.heap.size w0 W → (loadVar 29 ⟨B, 0, none⟩).run Tryz.prog W = .ok (.agg tabV) W ∧ Below w0.heap.size w0 W) := Lib.hid fun W hW => ⟨tab_run (hT.below hW hT.lt), hW⟩
   clear hT
   go_region_held3 (fun w' => (loadVar 29 ⟨B, 0, none⟩).run Tryz.prog w' = .ok (.agg tabV) w' ∧ Below w0.heap.size w0 w')
    ((refine HKP.out _ ?_; first | exact hB3' | exact hB2' | exact hB1' | exact (Below.refl _ _).drew | exact Below.refl _ _))
    (first
     | (have := hB2'; go_at_call 75; refine (HJ.out _).mono ?_; rintro e w3 ⟨rfl, hb3⟩; have hB3' : Below w0.heap.size w0 w3 := hB2'.trans (hb3.mono hB2'.size))
     | (have := hB1'; go_at_call 47; refine (HRR.out _ (HC2.out.below hB1')).mono ?_; rintro e w2 ⟨rfl, hb2⟩; have hB2' : Below w0.heap.size w0 w2 := hB1'.trans (hb2.mono hB1'.size))
     | (go_at_call 47; refine (HL.out _ (HC1.out.below (Below.refl _ _).drew)).mono ?_; rintro e w1 ⟨rfl, hb1⟩; have hB1' : Below w0.heap.size w0 w1 := (Below.refl _ _).drew.trans hb1))
   have hB6 := hB0.trans (hB3'.mono (by have := hB0.size; have := HBB.out; omega))
   rw [← HBB.out] at hB6
   go_wp2
   go_ret
   exact ⟨rfl, hB6⟩
 · by_cases h1 : n = 1
   · have HR := Lib.hid (rootM_one (l := ss) (by omega))
     have hn1 : n = 1 := h1
     obtain ⟨a, rfl, hab, hcell⟩ := hc0 0 (by omega)
     rw [HR.out]
     generalize ss.getD 0 ByteArray.empty = R at *
     rw [show a.add 0 = a from rfl] at hcell
     have hld := txt_load hcell
     subst hn1
     clear HR ih hz hc0 hn h2 hT
     go_enter Tryz.func47, Tryz.ntmps47
     go_wp2
     go_ret
     exact ⟨rfl, hB0⟩
   · obtain rfl : n = 0 := by omega
     have HR := Lib.hid (rootM_nil hn)
     have HS := Lib.hid (fun W => hsum_any ⟨#[]⟩ (by decide) W)
     rw [HR.out]
     generalize hB ⟨#[]⟩ = R at *
     have hT1 := tab_run hT
     clear HR ih hz hc0 hn h2 hT
     go_enter Tryz.func47, Tryz.ntmps47
     go_wp2_with fail
     refine (HS.out _).mono ?_
     rintro e w' ⟨rfl, hB⟩
     have hB2 := hB0.trans (hB.mono hB0.size)
     go_wp2
     go_ret
     exact ⟨rfl, hB2⟩
end

set_option maxRecDepth 100000 in
set_option maxHeartbeats 400000 in
theorem rh4_any (b : ByteArray) (hn : b.size ≤ 1099511627776) (w : World) :
 Calls Tryz.prog 81 #[.string b] w fun e w' => e = .returned (.string (hB b)) ∧ Below w.heap.size w w' := by
 have HS := Lib.hid (fun W => refsum_any b hn W)
 change Hid (∀ W, Calls Tryz.prog 70 _ W fun e w' => e = .returned (.string (hB b)) ∧ Below W.heap.size W w') at HS
 generalize hB b = R at *
 go_enter Tryz.func81, Tryz.ntmps81
 go_wp2_with fail
 refine (HS.out _).mono ?_
 rintro e w' ⟨rfl, hB⟩
 go_wp2
 go_ret
 exact ⟨rfl, hB⟩

/-- halving 64 comes to the greatest power of two below n -/
theorem kM_half : ∀ j : Fin 7, ∀ n : Fin 65, 2 ≤ n.val → (n.val ≤ 64 / 2 ^ j.val → n.val ≤ 64 / 2 ^ j.val ∧ kM n.val ≤ 64 / 2 ^ j.val / 2 ∧ j.val + 1 < 7) ∧ (64 / 2 ^ j.val < n.val → kM n.val ≤ 64 / 2 ^ j.val → 64 / 2 ^ j.val = kM n.val) := by decide +kernel
set_option maxRecDepth 100000 in
set_option maxHeartbeats 400000 in
theorem half_any (n : Nat) (h2 : 2 ≤ n) (hn : n ≤ 64) (w : World) : Calls Tryz.prog 64 #[.int .i64 n] w fun e w' => e = .returned (.int .i64 (kM n : Nat)) ∧ w' = w := by
 have HK := Lib.hid (show ∀ j, j < 7 → (n ≤ 64 / 2 ^ j → n ≤ 64 / 2 ^ j ∧ kM n ≤ 64 / 2 ^ j / 2 ∧ j + 1 < 7) ∧ (64 / 2 ^ j < n → kM n ≤ 64 / 2 ^ j → 64 / 2 ^ j = kM n) from fun j hj => kM_half ⟨j, hj⟩ ⟨n, by omega⟩ h2)
 have HK0 := Lib.hid (show kM n ≤ 64 by have := kM_lt h2; omega)
 generalize kM n = k at *
 go_enter Tryz.func64, Tryz.ntmps64
 go_wp2
 go_loop [3] (fun v => ∃ j : Nat, j < 7 ∧ k ≤ 64 / 2 ^ j ∧ v = .int .i64 (64 / 2 ^ j : Nat)) (fun v => (intOf v).toNat)
 case atStart => exact ⟨0, by omega, HK0.out, rfl⟩
 case round =>
  obtain ⟨j, hj, hkj, rfl⟩ := hrel
  have h1 := (HK.out j hj).1
  have h3 := (HK.out j hj).2
  have HE := Lib.hid (show 64 / 2 ^ (j + 1) = 64 / 2 ^ j / 2 by rw [Nat.pow_succ, Nat.div_div_eq_div_mul])
  have hle : 64 / 2 ^ j ≤ 64 := Nat.div_le_self _ _
  generalize 64 / 2 ^ j = p at *
  by_cases hlt : n ≤ p
  · have hlt' : (n : Int) ≤ (p : Int) := by omega
    obtain ⟨_, h4, h5⟩ := h1 hlt
    have H4 := Lib.hid h4
    clear h1 h3 h4
    go_wp2
    go_round
    case rel => exact ⟨j + 1, h5, by rw [HE.out]; exact H4.out, by rw [HE.out]; go_num⟩
    case measure => simp [intOf]; omega
  · have hlt' : ¬ (n : Int) ≤ (p : Int) := by omega
    obtain rfl := h3 (by omega) hkj
    clear h1 h3
    go_wp2
    go_ret
    exact ⟨rfl, rfl⟩
end Go.Proofs.YtakgolbgeeoioaaGreat
