/-
  Layer 7 in plain words: levels, counts, widths, plans, edges.
-/
import Derived.Test.YtpapmcdnaplmkaaRLaw
namespace Go.Proofs.Ytpapmcdnaplmkaa

/-- levels and how many hashes each has, from one level on -/
def lvs : Nat → Nat → Nat → List (Nat × Nat)
  | 0, _, _ => []
  | f + 1, l, c => if c = 0 then [] else (l, c) :: lvs f (l + 1) (c / 4)
theorem lvs_zero (f l : Nat) : lvs f l 0 = [] := by cases f <;> simp [lvs]
theorem lvs_pos (f l c : Nat) (h : 0 < c) : lvs (f + 1) l c = (l, c) :: lvs f (l + 1) (c / 4) := by simp [lvs]; omega
/-- the levels of a log -/
def lvl (z : Int) : List (Nat × Nat) := if z ≤ 64 then lvs 4 0 z.toNat else []
theorem lvl_big {z : Int} (h : 64 < z) : lvl z = [] := by unfold lvl; rw [if_neg (by omega)]
theorem lvl_neg {z : Int} (h : z ≤ 0) : lvl z = [] := by
  unfold lvl
  rw [if_pos (by omega), show z.toNat = 0 by omega, lvs_zero]
theorem lvl_nat {k : Nat} (h : k ≤ 64) : lvl (k : Int) = lvs 4 0 k := by
  unfold lvl
  rw [if_pos (by omega), Int.toNat_natCast]
/-- an element's level is this one -/
def isL (level : Int) (p : Nat × Nat) : Bool := (p.1 : Int) == level
/-- Count -/
def cntT (n level : Int) : Nat := match (lvl n).find? (isL level) with
  | some p => p.2
  | none => 0
def tlT (c : Nat) : Nat := (c + 3) / 4
/-- Width -/
def widT (n level index : Int) : Nat := if index < 0 ∨ (tlT (cntT n level) : Int) ≤ index then 0 else min 4 (cntT n level - 4 * index.toNat)
def rowT (l c : Nat) : List (Nat × Nat) := (List.range (tlT c)).map fun i => (l, i)
/-- Plan -/
def planL (ps : List (Nat × Nat)) : List (Nat × Nat) := ps.foldl (fun acc p => rowT p.1 p.2 ++ acc) []
def planT (n : Int) : List (Nat × Nat) := planL (lvl n)
theorem planL_snoc (ps : List (Nat × Nat)) (p : Nat × Nat) : planL (ps ++ [p]) = rowT p.1 p.2 ++ planL ps := by simp [planL]
/-- Edge, from the lowest level up -/
def edgeL (ps : List (Nat × Nat)) : List (Nat × Nat) := (ps.filter fun p => p.2 % 4 != 0).map fun p => (p.1, p.2 / 4)
def edgeT (n : Int) : List (Nat × Nat) := (edgeL (lvl n)).reverse
theorem edgeL_yes (ps : List (Nat × Nat)) (p : Nat × Nat) (h : p.2 % 4 ≠ 0) : edgeL (ps ++ [p]) = edgeL ps ++ [(p.1, p.2 / 4)] := by simp [edgeL, h]
theorem edgeL_no (ps : List (Nat × Nat)) (p : Nat × Nat) (h : p.2 % 4 = 0) : edgeL (ps ++ [p]) = edgeL ps := by simp [edgeL, h]
/-- the reference's -/
def rcntT (n level : Int) : Nat := if n < 0 ∨ 64 < n ∨ level < 0 ∨ 3 < level then 0 else n.toNat / 4 ^ level.toNat
def rwidC (c : Nat) (index : Int) : Nat := (List.range c).countP fun i => ((i / 4 : Nat) : Int) == index
def rwidT (n level index : Int) : Nat := rwidC (rcntT n level) index
def keepP (w : Nat) (edge : Bool) : Bool := decide (0 < w) && (decide (w < 4) || !edge)
/-- the tiles of a level below index k -/
def rrowT (n : Nat) (edge : Bool) (l k : Nat) : List (Nat × Nat) := ((List.range k).filter fun i : Nat => keepP (rwidT n l (i : Int)) edge).map fun i => (l, i)
/-- the tiles of the levels from 4 - j up -/
def rplanT (n : Nat) (edge : Bool) : Nat → List (Nat × Nat)
  | 0 => []
  | j + 1 => rplanT n edge j ++ rrowT n edge (3 - j) 17
theorem lvl_facts : ((List.range 65).all fun k => (lvs 4 0 k).all fun p => decide (p.1 ≤ 3) && decide (p.2 ≤ 64) && decide (0 < p.2)) = true := by decide +kernel
theorem lvl_bound {n : Int} {p : Nat × Nat} (h : p ∈ lvl n) : p.1 ≤ 3 ∧ p.2 ≤ 64 ∧ 0 < p.2 := by
  by_cases h0 : n ≤ 0
  · rw [lvl_neg h0] at h; cases h
  by_cases h1 : 64 < n
  · rw [lvl_big h1] at h; cases h
  obtain ⟨k, rfl⟩ : ∃ k : Nat, n = (k : Int) := ⟨n.toNat, by omega⟩
  rw [lvl_nat (by omega)] at h
  have := List.all_eq_true.1 (List.all_eq_true.1 lvl_facts k (List.mem_range.2 (by omega))) p h
  simp only [Bool.and_eq_true, decide_eq_true_eq] at this
  exact ⟨this.1.1, this.1.2, this.2⟩
theorem lvl_len (n : Int) : (lvl n).length ≤ 4 := by
  have hl : ∀ f l c, (lvs f l c).length ≤ f := by
    intro f
    induction f with
    | zero => intro l c; simp [lvs]
    | succ f ih =>
      intro l c
      unfold lvs
      by_cases hc : c = 0
      · simp [hc]
      · rw [if_neg hc]; have := ih (l + 1) (c / 4); simp; omega
  unfold lvl
  by_cases h : n ≤ 64
  · rw [if_pos h]; exact hl _ _ _
  · rw [if_neg h]; simp
theorem cnt_facts : ((List.range 65).all fun k => (List.range 4).all fun l => decide (cntT k l = rcntT k l)) = true := by decide +kernel
theorem cnt_eq (n level : Int) : cntT n level = rcntT n level := by
  by_cases h0 : n ≤ 0
  · unfold cntT rcntT
    rw [lvl_neg h0]
    by_cases hc : n < 0 ∨ 64 < n ∨ level < 0 ∨ 3 < level
    · rw [if_pos hc]; rfl
    · rw [if_neg hc, show n.toNat = 0 by omega, Nat.zero_div]; rfl
  by_cases h1 : 64 < n
  · unfold cntT rcntT
    rw [lvl_big h1, if_pos (by omega)]; rfl
  by_cases h2 : level < 0 ∨ 3 < level
  · have hn : (lvl n).find? (isL level) = none := by
      rw [List.find?_eq_none]
      intro p hp
      have := lvl_bound hp
      unfold isL
      simp
      omega
    unfold cntT rcntT
    rw [hn, if_pos (by omega)]
  · obtain ⟨k, rfl⟩ : ∃ k : Nat, n = (k : Int) := ⟨n.toNat, by omega⟩
    obtain ⟨l, rfl⟩ : ∃ l : Nat, level = (l : Int) := ⟨level.toNat, by omega⟩
    have := List.all_eq_true.1 (List.all_eq_true.1 cnt_facts k (List.mem_range.2 (by omega))) l (List.mem_range.2 (by omega))
    simpa using this
theorem cnt_le (n level : Int) : cntT n level ≤ 64 := by
  rw [cnt_eq]
  unfold rcntT
  split
  · omega
  · have := Nat.div_le_self n.toNat (4 ^ level.toNat)
    omega
theorem wid_facts : ((List.range 65).all fun c => (List.range 17).all fun i => decide ((if tlT c ≤ i then 0 else min 4 (c - 4 * i)) = rwidC c i)) = true := by decide +kernel
theorem wid_eq (n level index : Int) : widT n level index = rwidT n level index := by
  unfold widT rwidT
  have hc := cnt_le n level
  rw [← cnt_eq]
  generalize cntT n level = c at *
  by_cases h0 : index < 0
  · rw [if_pos (Or.inl h0)]
    unfold rwidC
    rw [eq_comm, List.countP_eq_zero]
    intro i _
    simp; omega
  obtain ⟨i, rfl⟩ : ∃ i : Nat, index = (i : Int) := ⟨index.toNat, by omega⟩
  by_cases h1 : i < 17
  · have := List.all_eq_true.1 (List.all_eq_true.1 wid_facts c (List.mem_range.2 (by omega))) i (List.mem_range.2 h1)
    rw [← of_decide_eq_true this, Int.toNat_natCast]
    by_cases h2 : tlT c ≤ i
    · rw [if_pos h2, if_pos (by omega)]
    · rw [if_neg h2, if_neg (by omega)]
  · rw [if_pos (by unfold tlT; omega)]
    unfold rwidC
    rw [eq_comm, List.countP_eq_zero]
    intro j hj
    have := List.mem_range.1 hj
    simp; omega
theorem wid_le (n level index : Int) : widT n level index ≤ 4 := by
  unfold widT
  split <;> omega
theorem plan_facts : ((List.range 65).all fun k => decide (planT k = rplanT k false 4) && decide (edgeT k = rplanT k true 4) && decide ((planT k).length ≤ 22)) = true := by decide +kernel
theorem plan_eq {k : Nat} (h : k ≤ 64) : planT k = rplanT k false 4 := by
  have := List.all_eq_true.1 plan_facts k (List.mem_range.2 (by omega))
  simp only [Bool.and_eq_true, decide_eq_true_eq] at this
  exact this.1.1
theorem edge_eq {k : Nat} (h : k ≤ 64) : edgeT k = rplanT k true 4 := by
  have := List.all_eq_true.1 plan_facts k (List.mem_range.2 (by omega))
  simp only [Bool.and_eq_true, decide_eq_true_eq] at this
  exact this.1.2
theorem plan_big {n : Int} (h : n < 0 ∨ 64 < n) : planT n = [] ∧ edgeT n = [] := by
  unfold planT edgeT
  rcases h with h | h
  · rw [lvl_neg (by omega)]; exact ⟨rfl, rfl⟩
  · rw [lvl_big h]; exact ⟨rfl, rfl⟩
/-- what a plan's tiles have of a level -/
def sumW (n : Int) (level : Nat) (ps : List (Nat × Nat)) : Nat := ps.foldl (fun s p => if p.1 = level then s + widT n p.1 p.2 else s) 0
theorem sumW_yes (n : Int) (level : Nat) (ps : List (Nat × Nat)) (p : Nat × Nat) (h : p.1 = level) : sumW n level (ps ++ [p]) = sumW n level ps + widT n p.1 p.2 := by simp [sumW, h]
theorem sumW_no (n : Int) (level : Nat) (ps : List (Nat × Nat)) (p : Nat × Nat) (h : p.1 ≠ level) : sumW n level (ps ++ [p]) = sumW n level ps := by simp [sumW, h]
theorem cover_facts : ((List.range 65).all fun k => (List.range 5).all fun l => decide (sumW k l (planT k) = cntT k l)) = true := by decide +kernel
theorem cover_sum {k l : Nat} (hk : k ≤ 64) (hl : l < 5) : sumW k l (planT k) = cntT k l := by
  have := List.all_eq_true.1 (List.all_eq_true.1 cover_facts k (List.mem_range.2 (by omega))) l (List.mem_range.2 (by omega))
  simpa using this
theorem order_facts : ((List.range 65).all fun k => (List.range ((planT k).length - 1)).all fun i => decide (((planT k).getD (i + 1) (0, 0)).1 < ((planT k).getD i (0, 0)).1) || (decide (((planT k).getD (i + 1) (0, 0)).1 = ((planT k).getD i (0, 0)).1) && decide (((planT k).getD (i + 1) (0, 0)).2 = ((planT k).getD i (0, 0)).2 + 1))) = true := by decide +kernel
theorem plan_small : ((List.range 65).all fun k => (planT k).all fun p => decide (p.1 ≤ 3) && decide (p.2 ≤ 16)) = true := by decide +kernel
theorem plan_mem {n : Int} {p : Nat × Nat} (h : p ∈ planT n) : p.1 ≤ 3 ∧ p.2 ≤ 16 := by
  by_cases hn : n < 0 ∨ 64 < n
  · rw [(plan_big hn).1] at h; cases h
  obtain ⟨k, rfl⟩ : ∃ k : Nat, n = (k : Int) := ⟨n.toNat, by omega⟩
  have := List.all_eq_true.1 (List.all_eq_true.1 plan_small k (List.mem_range.2 (by omega))) p h
  simpa using this
theorem plan_len (n : Int) : (planT n).length ≤ 22 := by
  by_cases hn : n < 0 ∨ 64 < n
  · rw [(plan_big hn).1]; simp
  obtain ⟨k, rfl⟩ : ∃ k : Nat, n = (k : Int) := ⟨n.toNat, by omega⟩
  have := List.all_eq_true.1 plan_facts k (List.mem_range.2 (by omega))
  simp only [Bool.and_eq_true, decide_eq_true_eq] at this
  exact this.2
end Go.Proofs.Ytpapmcdnaplmkaa
