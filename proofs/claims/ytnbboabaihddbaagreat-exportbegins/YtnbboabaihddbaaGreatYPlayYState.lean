/-
  What a log's calls come to, in plain words: each client's last one; what holds of all that is made by calls of the empty state. A state's value, a world's value; what the laws of layer 11 ask of the program's calls.
-/
import Derived.Test.YtnbboabaihddbaaGreatYMathYSt
namespace Go.Proofs.YtnbboabaihddbaaGreat
open Go.RowKit

def lstL (c : Int) (tk : List Req) (rp : List Rep) : Nat → Lst
 | 0 => default
 | j + 1 => if (tk.getD j default).c = c then ⟨(tk.getD j default).q, (lstL c tk rp j).n + 1, rp.getD j default⟩ else lstL c tk rp j
theorem lstL_none (c : Int) (tk : List Req) (rp : List Rep) : ∀ j, lstN c tk j < 0 → lstL c tk rp j = default
 | 0, _ => rfl
 | j + 1, h => by
  unfold lstN at h
  unfold lstL
  split at h
  · omega
  · rename_i hc
    rw [if_neg hc]
    exact lstL_none c tk rp j h
theorem lstL_some (c : Int) (tk : List Req) (rp : List Rep) : ∀ j, 0 ≤ lstN c tk j →
 (lstL c tk rp j).q = (tk.getD (lstN c tk j).toNat default).q ∧ (lstL c tk rp j).r = rp.getD (lstN c tk j).toNat default ∧ (tk.getD (lstN c tk j).toNat default).c = c
 | 0, h => by unfold lstN at h; omega
 | j + 1, h => by
  unfold lstN at h ⊢
  unfold lstL
  by_cases hc : (tk.getD j default).c = c
  · rw [if_pos hc, if_pos hc]
    exact ⟨rfl, rfl, hc⟩
  · rw [if_neg hc] at h
    rw [if_neg hc, if_neg hc]
    exact lstL_some c tk rp j h
theorem lstL_n (c : Int) (tk : List Req) (rp : List Rep) : ∀ j, (lstL c tk rp j).n = cntN c tk j
 | 0 => rfl
 | j + 1 => by
  unfold lstL cntN
  split
  · show (lstL c tk rp j).n + 1 = _
    rw [lstL_n c tk rp j]
  · exact lstL_n c tk rp j
theorem getD_front {α : Type} (d : α) (l m : List α) {j : Nat} (h : j < l.length) : (l ++ m).getD j d = l.getD j d := by
 rw [List.getD_eq_getElem?_getD, List.getD_eq_getElem?_getD, List.getElem?_append_left h]
theorem getD_last {α : Type} (d : α) (l : List α) (x : α) : (l ++ [x]).getD l.length d = x := by
 rw [List.getD_eq_getElem?_getD, List.getElem?_append_right (Nat.le_refl _), Nat.sub_self]
 rfl
theorem lstL_front (c : Int) (tk : List Req) (rp : List Rep) (hl : rp.length = tk.length) (a : List Req) (b : List Rep) : ∀ j, j ≤ tk.length → lstL c (tk ++ a) (rp ++ b) j = lstL c tk rp j
 | 0, _ => rfl
 | j + 1, h => by
  unfold lstL
  rw [getD_front _ tk a (by omega), getD_front _ rp b (by omega), lstL_front c tk rp hl a b j (by omega)]
theorem lstL_snoc (c : Int) (tk : List Req) (rp : List Rep) (hl : rp.length = tk.length) (r : Req) (x : Rep) :
 lstL c (tk ++ [r]) (rp ++ [x]) (tk ++ [r]).length = if r.c = c then ⟨r.q, (lstL c tk rp tk.length).n + 1, x⟩ else lstL c tk rp tk.length := by
 rw [List.length_append]
 show lstL c (tk ++ [r]) (rp ++ [x]) (tk.length + 1) = _
 conv => lhs; unfold lstL
 rw [getD_last, ← hl, getD_last, hl, lstL_front c tk rp hl [r] [x] tk.length (Nat.le_refl _)]
theorem rightQ_q {r : Req} (h : rightQ r = true) : 1 ≤ r.q ∧ r.q ≤ 2147483647 ∧ 0 ≤ r.c ∧ r.c < 4 := by
 unfold rightQ rightB at h
 simp at h
 omega
/-- what a request is answered, of the client's last one -/
theorem askW_last (tk : List Req) (rp : List Rep) (h : Nat) (r : Req) : askW tk rp h r =
 if rightQ r = false then (tk, rp, ⟨1, 0, 0⟩)
 else if (lstL r.c tk rp tk.length).q = r.q then (tk, rp, (lstL r.c tk rp tk.length).r)
 else if r.q < (lstL r.c tk rp tk.length).q then (tk, rp, ⟨7, 0, 0⟩)
 else if (lstL r.c tk rp tk.length).n = 20 then (tk, rp, ⟨6, 0, 0⟩)
 else if tk.length = 64 then (tk, rp, ⟨10, 0, 0⟩)
 else (tk ++ [r], rp ++ [⟨0, tk.length, (h : Int) + 1⟩], ⟨0, tk.length, (h : Int) + 1⟩) := by
 unfold askW
 rw [lstL_n]
 by_cases hr : rightQ r = false
 · rw [if_pos hr, if_pos hr]
 · rw [if_neg hr, if_neg hr]
   have hq := (rightQ_q (by simpa using hr)).1
   by_cases h0 : 0 ≤ lstN r.c tk tk.length
   · obtain ⟨e1, e2, _⟩ := lstL_some r.c tk rp tk.length h0
     rw [e1, e2]
     simp only [h0, true_and]
   · have e := lstL_none r.c tk rp tk.length (by omega)
     have z : (lstL r.c tk rp tk.length).q = 0 := by rw [e]; rfl
     rw [if_neg (fun x => h0 x.1), if_neg (fun x => h0 x.1), z, if_neg (show ¬ (0 : Int) = r.q by omega), if_neg (show ¬ r.q < (0 : Int) by omega)]
/-- a log: what was taken, the replies, heads -/
structure Wd where
 tk : List Req
 rp : List Rep
 hd : List Hd
def stepW (w : Wd) (x : OpR) : Wd := if x.cut then ⟨w.tk, w.rp, (cutW w.tk w.hd x.now).1⟩ else ⟨(askW w.tk w.rp w.hd.length x.r).1, (askW w.tk w.rp w.hd.length x.r).2.1, w.hd⟩
def playW (l : List OpR) : Wd := l.foldl stepW ⟨[], [], []⟩
theorem playW_snoc (l : List OpR) (x : OpR) : playW (l ++ [x]) = stepW (playW l) x := by unfold playW; rw [List.foldl_append]; rfl
/-- what holds of all logs -/
structure InvW (w : Wd) : Prop where
 len : w.rp.length = w.tk.length
 most : w.tk.length ≤ 64
 right : ∀ x ∈ w.tk, rightQ x = true
 cnt : ∀ c, cntN c w.tk w.tk.length ≤ 20
 ans : ∀ i, i < w.tk.length → (w.rp.getD i default).e = 0 ∧ (w.rp.getD i default).i = i
 hq : ∀ i, i < w.hd.length → (w.hd.getD i default).q = (i : Int) + 1
 hz : ∀ i, i < w.hd.length → zN w.hd i < (w.hd.getD i default).z
 hzl : zN w.hd w.hd.length ≤ w.tk.length
 ht : ∀ i, i < w.hd.length → tN w.hd i ≤ (w.hd.getD i default).t
 roots : ∀ x ∈ w.hd, x.r.size = 32 ∧ x.m.size = 32
theorem rootQ_size (tk : List Req) : (rootM (tk.map leafQ)).size = 32 := by
 rcases Nat.lt_or_ge (tk.map leafQ).length 2 with h2 | h2
 · rcases (by omega : (tk.map leafQ).length = 0 ∨ (tk.map leafQ).length = 1) with h0 | h1
   · rw [rootM_nil h0]; exact hB_size _
   · rw [rootM_one h1, List.getD_eq_getElem?_getD, List.getElem?_eq_getElem (by omega)]
     obtain ⟨y, _, hy⟩ := List.mem_map.1 (List.getElem_mem (l := tk.map leafQ) (n := 0) (by omega))
     show ((tk.map leafQ)[0]).size = 32
     rw [← hy]
     exact hB_size _
 · rw [rootM_more h2]; exact nodM_size _ _
theorem InvW.nil : InvW ⟨[], [], []⟩ where
 len := rfl
 most := by decide
 right := fun x h => by cases h
 cnt := fun c => by show cntN c [] 0 ≤ 20; unfold cntN; omega
 ans := fun i h => by simp at h
 hq := fun i h => by simp at h
 hz := fun i h => by simp at h
 hzl := by show zN [] 0 ≤ _; unfold zN; simp
 ht := fun i h => by simp at h
 roots := fun x h => by cases h
theorem askW_cases (tk : List Req) (rp : List Rep) (h : Nat) (r : Req) :
 ((askW tk rp h r).1 = tk ∧ (askW tk rp h r).2.1 = rp) ∨ (rightQ r = true ∧ (lstL r.c tk rp tk.length).q < r.q ∧ (lstL r.c tk rp tk.length).n ≠ 20 ∧ tk.length ≠ 64 ∧ askW tk rp h r = (tk ++ [r], rp ++ [⟨0, tk.length, (h : Int) + 1⟩], ⟨0, tk.length, (h : Int) + 1⟩)) := by
 rw [askW_last]
 split
 · exact .inl ⟨rfl, rfl⟩
 · rename_i h1
   split
   · exact .inl ⟨rfl, rfl⟩
   · rename_i h2
     split
     · exact .inl ⟨rfl, rfl⟩
     · rename_i h3
       split
       · exact .inl ⟨rfl, rfl⟩
       · rename_i h4
         split
         · exact .inl ⟨rfl, rfl⟩
         · rename_i h5
           exact .inr ⟨by simpa using h1, by omega, h4, h5, rfl⟩
theorem zN_front (hd m : List Hd) : ∀ i, i ≤ hd.length → zN (hd ++ m) i = zN hd i
 | 0, _ => rfl
 | j + 1, h => by show ((hd ++ m).getD j default).z = (hd.getD j default).z; rw [getD_front _ hd m (by omega)]
theorem tN_front (hd m : List Hd) : ∀ i, i ≤ hd.length → tN (hd ++ m) i = tN hd i
 | 0, _ => rfl
 | j + 1, h => by show ((hd ++ m).getD j default).t = (hd.getD j default).t; rw [getD_front _ hd m (by omega)]
theorem InvW.ask {w : Wd} (h : InvW w) (r : Req) : InvW ⟨(askW w.tk w.rp w.hd.length r).1, (askW w.tk w.rp w.hd.length r).2.1, w.hd⟩ := by
 rcases askW_cases w.tk w.rp w.hd.length r with ⟨e1, e2⟩ | ⟨hr, _, hn, hf, e⟩
 · rw [e1, e2]
   exact h
 · rw [e]
   have hm := h.most
   refine ⟨?_, ?_, ?_, ?_, ?_, h.hq, h.hz, ?_, h.ht, h.roots⟩
   · show (w.rp ++ _).length = (w.tk ++ _).length
     rw [List.length_append, List.length_append, h.len]
     rfl
   · show (w.tk ++ [r]).length ≤ 64
     rw [List.length_append]
     simp
     omega
   · intro x hx
     rcases List.mem_append.1 hx with hx | hx
     · exact h.right x hx
     · obtain rfl : x = r := by simpa using hx
       exact hr
   · intro c
     show cntN c (w.tk ++ [r]) (w.tk ++ [r]).length ≤ 20
     rw [← lstL_n c (w.tk ++ [r]) (w.rp ++ [⟨0, w.tk.length, (w.hd.length : Int) + 1⟩]), lstL_snoc c w.tk w.rp h.len]
     have hc := h.cnt c
     rw [← lstL_n c w.tk w.rp] at hc
     split
     · rename_i hc'
       subst hc'
       show (lstL r.c w.tk w.rp w.tk.length).n + 1 ≤ 20
       omega
     · exact hc
   · intro i hi
     have hi' : i < w.tk.length + 1 := by simpa using hi
     show ((w.rp ++ _).getD i default).e = 0 ∧ ((w.rp ++ _).getD i default).i = i
     by_cases hl : i < w.tk.length
     · rw [getD_front _ w.rp _ (by rw [h.len]; exact hl)]
       exact h.ans i hl
     · obtain rfl : i = w.rp.length := by rw [h.len]; omega
       rw [getD_last]
       exact ⟨rfl, by show ((w.tk.length : Nat) : Int) = _; rw [h.len]⟩
   · have := h.hzl
     show zN w.hd w.hd.length ≤ ((w.tk ++ [r]).length : Int)
     rw [List.length_append]
     push_cast
     omega
theorem InvW.cut {w : Wd} (h : InvW w) (now : Int) : InvW ⟨w.tk, w.rp, (cutW w.tk w.hd now).1⟩ := by
 unfold cutW
 split
 · exact h
 · rename_i hne
   have hz := h.hzl
   refine ⟨h.len, h.most, h.right, h.cnt, h.ans, ?_, ?_, ?_, ?_, ?_⟩
   · intro i hi
     have hi' : i < w.hd.length + 1 := by simpa using hi
     show ((w.hd ++ [headW w.tk w.hd now]).getD i default).q = _
     by_cases hl : i < w.hd.length
     · rw [getD_front _ w.hd _ hl]
       exact h.hq i hl
     · obtain rfl : i = w.hd.length := by omega
       rw [getD_last]
       rfl
   · intro i hi
     have hi' : i < w.hd.length + 1 := by simpa using hi
     show zN (w.hd ++ [headW w.tk w.hd now]) i < ((w.hd ++ [headW w.tk w.hd now]).getD i default).z
     rw [zN_front _ _ i (by omega)]
     by_cases hl : i < w.hd.length
     · rw [getD_front _ w.hd _ hl]
       exact h.hz i hl
     · obtain rfl : i = w.hd.length := by omega
       rw [getD_last]
       show zN w.hd w.hd.length < (w.tk.length : Int)
       omega
   · show zN (w.hd ++ [headW w.tk w.hd now]) (w.hd ++ [headW w.tk w.hd now]).length ≤ (w.tk.length : Int)
     rw [List.length_append]
     show ((w.hd ++ [headW w.tk w.hd now]).getD w.hd.length default).z ≤ _
     rw [getD_last]
     exact Int.le_refl _
   · intro i hi
     have hi' : i < w.hd.length + 1 := by simpa using hi
     show tN (w.hd ++ [headW w.tk w.hd now]) i ≤ ((w.hd ++ [headW w.tk w.hd now]).getD i default).t
     rw [tN_front _ _ i (by omega)]
     by_cases hl : i < w.hd.length
     · rw [getD_front _ w.hd _ hl]
       exact h.ht i hl
     · obtain rfl : i = w.hd.length := by omega
       rw [getD_last]
       show tN w.hd w.hd.length ≤ max (tN w.hd w.hd.length) now
       omega
   · intro x hx
     rcases List.mem_append.1 hx with hx | hx
     · exact h.roots x hx
     · obtain rfl : x = headW w.tk w.hd now := by simpa using hx
       exact ⟨rootQ_size _, mapR_size _⟩
theorem InvW.step {w : Wd} (h : InvW w) (x : OpR) : InvW (stepW w x) := by
 unfold stepW
 split
 · exact h.cut x.now
 · exact h.ask x.r
theorem InvW.steps : ∀ (l : List OpR) {w : Wd}, InvW w → InvW (l.foldl stepW w)
 | [], _, h => h
 | x :: l, _, h => InvW.steps l (h.step x)
theorem InvW.play (l : List OpR) : InvW (playW l) := InvW.steps l InvW.nil
/-- more calls: what was there stays ahead -/
theorem stepW_front (w : Wd) (x : OpR) : (∃ a, (stepW w x).tk = w.tk ++ a) ∧ ∃ b, (stepW w x).hd = w.hd ++ b := by
 unfold stepW
 split
 · refine ⟨⟨[], by simp⟩, ?_⟩
   show ∃ b, (cutW w.tk w.hd x.now).1 = _
   unfold cutW
   split
   · exact ⟨[], by simp⟩
   · exact ⟨_, rfl⟩
 · refine ⟨?_, [], by simp⟩
   rcases askW_cases w.tk w.rp w.hd.length x.r with ⟨e, _⟩ | ⟨_, _, _, _, e⟩
   · exact ⟨[], by rw [List.append_nil]; exact e⟩
   · exact ⟨[x.r], by show (askW w.tk w.rp w.hd.length x.r).1 = _; rw [e]⟩
theorem steps_front : ∀ (l : List OpR) (w : Wd), (∃ a, (l.foldl stepW w).tk = w.tk ++ a) ∧ ∃ b, (l.foldl stepW w).hd = w.hd ++ b
 | [], w => ⟨⟨[], by simp⟩, [], by simp⟩
 | x :: l, w => by
  obtain ⟨⟨a, ha⟩, b, hb⟩ := stepW_front w x
  obtain ⟨⟨a', ha'⟩, b', hb'⟩ := steps_front l (stepW w x)
  refine ⟨⟨a ++ a', ?_⟩, b ++ b', ?_⟩
  · show (l.foldl stepW (stepW w x)).tk = _
    rw [ha', ha, List.append_assoc]
  · show (l.foldl stepW (stepW w x)).hd = _
    rw [hb', hb, List.append_assoc]
theorem play_front (l m : List OpR) : (∃ a, (playW (l ++ m)).tk = (playW l).tk ++ a) ∧ ∃ b, (playW (l ++ m)).hd = (playW l).hd ++ b := by
 unfold playW
 rw [List.foldl_append]
 exact steps_front m _
/-- heads' numbers -/
theorem InvW.least {w : Wd} (h : InvW w) : ∀ i, i ≤ w.hd.length → (i : Int) ≤ zN w.hd i
 | 0, _ => by unfold zN; simp
 | i + 1, hi => by
  have := h.least i (by omega)
  have := h.hz i (by omega)
  show ((i + 1 : Nat) : Int) ≤ (w.hd.getD i default).z
  omega
theorem InvW.heads {w : Wd} (h : InvW w) : w.hd.length ≤ w.tk.length := by
 have := h.least w.hd.length (Nat.le_refl _)
 have := h.hzl
 omega
theorem InvW.tpos {w : Wd} (h : InvW w) : ∀ i, i ≤ w.hd.length → 0 ≤ tN w.hd i
 | 0, _ => by unfold tN; simp
 | i + 1, hi => by
  have := h.tpos i (by omega)
  have := h.ht i (by omega)
  show 0 ≤ (w.hd.getD i default).t
  omega
theorem InvW.zle {w : Wd} (h : InvW w) : ∀ d i, i + d = w.hd.length → zN w.hd i ≤ w.tk.length
 | 0, i, e => by
  obtain rfl : i = w.hd.length := by omega
  exact h.hzl
 | d + 1, i, e => by
  have := h.zle d (i + 1) (by omega)
  have := h.hz i (by omega)
  have : zN w.hd (i + 1) = (w.hd.getD i default).z := rfl
  omega
theorem InvW.size {w : Wd} (h : InvW w) {i : Nat} (hi : i < w.hd.length) : (w.hd.getD i default).z ≤ w.tk.length := h.zle (w.hd.length - (i + 1)) (i + 1) (by omega)
/-- a request that is asked again: the same answer, and nothing is taken -/
theorem ask_again {w : Wd} (h : InvW w) (r : Req) (h2 : Nat) : askW (askW w.tk w.rp w.hd.length r).1 (askW w.tk w.rp w.hd.length r).2.1 h2 r = askW w.tk w.rp w.hd.length r ∨ (askW w.tk w.rp w.hd.length r).1 = w.tk ∧ (askW w.tk w.rp w.hd.length r).2.1 = w.rp ∧ askW w.tk w.rp h2 r = askW w.tk w.rp w.hd.length r := by
 rcases askW_cases w.tk w.rp w.hd.length r with ⟨e1, e2⟩ | ⟨hr, hl, hn, hf, e⟩
 · refine .inr ⟨e1, e2, ?_⟩
   have k1 := askW_last w.tk w.rp w.hd.length r
   rw [askW_last w.tk w.rp h2 r]
   rw [k1] at e1 ⊢
   split
   · rfl
   · rename_i h1
     rw [if_neg h1] at e1
     split
     · rfl
     · rename_i h2
       rw [if_neg h2] at e1
       split
       · rfl
       · rename_i h3
         rw [if_neg h3] at e1
         split
         · rfl
         · rename_i h4
           rw [if_neg h4] at e1
           split
           · rfl
           · rename_i h5
             rw [if_neg h5] at e1
             have := congrArg List.length e1
             simp at this
 · refine .inl ?_
   rw [e]
   show askW (w.tk ++ [r]) (w.rp ++ [⟨0, w.tk.length, (w.hd.length : Int) + 1⟩]) h2 r = _
   rw [askW_last, lstL_snoc r.c w.tk w.rp h.len, if_pos rfl, if_neg (by rw [hr]; decide), if_pos rfl]
/-- what was answered OK is in the log, at its index -/
theorem ask_ok {w : Wd} (h : InvW w) (r : Req) (hok : (askW w.tk w.rp w.hd.length r).2.2.e = 0) : ∃ i : Nat, (askW w.tk w.rp w.hd.length r).2.2.i = i ∧ i < (askW w.tk w.rp w.hd.length r).1.length ∧
 ((askW w.tk w.rp w.hd.length r).1.getD i default).c = r.c ∧ ((askW w.tk w.rp w.hd.length r).1.getD i default).q = r.q := by
 have k := askW_last w.tk w.rp w.hd.length r
 by_cases h1 : rightQ r = false
 · rw [if_pos h1] at k
   rw [k] at hok
   exact absurd (show (1 : Int) = 0 from hok) (by decide)
 rw [if_neg h1] at k
 have hq := (rightQ_q (by simpa using h1)).1
 by_cases h2 : (lstL r.c w.tk w.rp w.tk.length).q = r.q
 · rw [if_pos h2] at k
   rw [k]
   have h0 : 0 ≤ lstN r.c w.tk w.tk.length := by
    rcases Int.lt_or_le (lstN r.c w.tk w.tk.length) 0 with hx | hx
    · rw [lstL_none r.c w.tk w.rp w.tk.length hx] at h2
      have : r.q = 0 := h2.symm
      omega
    · exact hx
   obtain ⟨e1, e2, e3⟩ := lstL_some r.c w.tk w.rp w.tk.length h0
   have hlt := (lstN_lt r.c w.tk w.tk.length).2
   refine ⟨(lstN r.c w.tk w.tk.length).toNat, ?_, by show _ < w.tk.length; omega, e3, by rw [← h2, e1]⟩
   show (lstL r.c w.tk w.rp w.tk.length).r.i = _
   rw [e2]
   exact (h.ans _ (by omega)).2
 rw [if_neg h2] at k
 by_cases h3 : r.q < (lstL r.c w.tk w.rp w.tk.length).q
 · rw [if_pos h3] at k
   rw [k] at hok
   exact absurd (show (7 : Int) = 0 from hok) (by decide)
 rw [if_neg h3] at k
 by_cases h4 : (lstL r.c w.tk w.rp w.tk.length).n = 20
 · rw [if_pos h4] at k
   rw [k] at hok
   exact absurd (show (6 : Int) = 0 from hok) (by decide)
 rw [if_neg h4] at k
 by_cases h5 : w.tk.length = 64
 · rw [if_pos h5] at k
   rw [k] at hok
   exact absurd (show (10 : Int) = 0 from hok) (by decide)
 rw [if_neg h5] at k
 rw [k]
 refine ⟨w.tk.length, rfl, ?_, ?_, ?_⟩
 · show w.tk.length < (w.tk ++ [r]).length
   simp
 · show ((w.tk ++ [r]).getD w.tk.length default).c = r.c
   rw [getD_last]
 · show ((w.tk ++ [r]).getD w.tk.length default).q = r.q
   rw [getD_last]
/-- the others' last ones stay -/
theorem ask_others {w : Wd} (h : InvW w) (r : Req) {c : Int} (hc : c ≠ r.c) : lstL c (askW w.tk w.rp w.hd.length r).1 (askW w.tk w.rp w.hd.length r).2.1 (askW w.tk w.rp w.hd.length r).1.length = lstL c w.tk w.rp w.tk.length := by
 rcases askW_cases w.tk w.rp w.hd.length r with ⟨e1, e2⟩ | ⟨_, _, _, _, e⟩
 · rw [e1, e2]
 · rw [e]
   show lstL c (w.tk ++ [r]) (w.rp ++ [_]) (w.tk ++ [r]).length = _
   rw [lstL_snoc c w.tk w.rp h.len, if_neg (fun x => hc x.symm)]
end Go.Proofs.YtnbboabaihddbaaGreat
namespace Go.Proofs.YtnbboabaihddbaaGreat
open Go.RowKit

/-- the client's last one, of all -/
def lastW (c : Int) (W : Wd) : Lst := lstL c W.tk W.rp W.tk.length
/-- a slice that reads as xs; its block, where there is something in it, is as P says -/
def SlP {α : Type} (K : Kind α) (w : World) (P : Nat → Prop) (v : Value) (xs : List α) : Prop := ∃ oa cap, v = .slice oa xs.length cap ∧ RowG K w oa xs ∧ xs.length ≤ cap ∧ (oa = none → cap = 0) ∧ (∀ a, oa = some a → xs ≠ [] → P a.block)
def geP (B : Nat) : Nat → Prop := fun g => B ≤ g
section
variable {α : Type} {K : Kind α} {w w' : World} {P P' : Nat → Prop} {v : Value} {xs : List α}
theorem SlP.below (h : SlP K w P v xs) (hb : Below w.heap.size w w') : SlP K w' P v xs := by
 obtain ⟨oa, cap, h1, h2, h3, h4, h5⟩ := h
 exact ⟨oa, cap, h1, h2.below hb, h3, h4, h5⟩
theorem SlP.zero (h : SlP K w P v xs) : SlB K w 0 v xs := by
 obtain ⟨oa, cap, h1, h2, h3, h4, _⟩ := h
 exact ⟨oa, cap, h1, h2, h3, h4, fun _ _ => Nat.zero_le _⟩
theorem SlB.slP {B : Nat} (h : SlB K w B v xs) : SlP K w (geP B) v xs := by
 obtain ⟨oa, cap, h1, h2, h3, h4, h5⟩ := h
 exact ⟨oa, cap, h1, h2, h3, h4, fun a ha _ => h5 a ha⟩
theorem RowG.lt {oa : Option Addr} (h : RowG K w oa xs) (hx : xs ≠ []) {a : Addr} (ha : oa = some a) : a.block < w.heap.size := by
 cases xs with
 | nil => exact absurd rfl hx
 | cons x r =>
  obtain ⟨g, o, e, hg, _⟩ := h 0 x rfl
  rw [e] at ha
  injection ha with ha
  rw [← ha]
  exact hg
theorem SlP.imp (h : SlP K w P v xs) (hP : ∀ g, g < w.heap.size → P g → P' g) : SlP K w P' v xs := by
 obtain ⟨oa, cap, h1, h2, h3, h4, h5⟩ := h
 exact ⟨oa, cap, h1, h2, h3, h4, fun a ha hx => hP _ (h2.lt hx ha) (h5 a ha hx)⟩
/-- all blocks that P says are as they were -/
theorem SlP.same (h : SlP K w P v xs) (hs : w.heap.size ≤ w'.heap.size) (hb : ∀ g, g < w.heap.size → P g → w'.heap[g]? = w.heap[g]?) : SlP K w' P v xs := by
 obtain ⟨oa, cap, h1, h2, h3, h4, h5⟩ := h
 refine ⟨oa, cap, h1, fun i x hx => ?_, h3, h4, h5⟩
 obtain ⟨g, o, e, hg, hc⟩ := h2 i x hx
 have hne : xs ≠ [] := fun e => by rw [e] at hx; simp at hx
 refine ⟨g, o, e, Nat.lt_of_lt_of_le hg hs, fun j u hu => ?_⟩
 rw [World.cell?_of_block (a := ⟨g, o + (i * K.k + j), none⟩) (hb g hg (h5 ⟨g, o, none⟩ e hne))]
 exact hc j u hu
theorem SlO.slP {o0 : Option Addr} {xs0 : List α} {B : Nat} (h : SlO K w o0 xs0 B v xs) (h0 : ∀ a, o0 = some a → xs0 ≠ [] → P a.block) (hB : ∀ g, B ≤ g → P g) : SlP K w P v xs := by
 obtain ⟨oa, cap, h1, h2, h3, h4, h5⟩ := h
 refine ⟨oa, cap, h1, h2, h3, h4, fun a ha hx => ?_⟩
 rcases h5 with ⟨e, e2⟩ | h5
 · exact h0 a (by rw [← e]; exact ha) (by rw [← e2]; exact hx)
 · exact hB _ (h5 a ha)
theorem slP_nil (w : World) (P : Nat → Prop) : SlP K w P (.slice none 0 0) [] := ⟨none, 0, rfl, RowG.nil w none, Nat.le_refl _, fun _ => rfl, fun a e => by cases e⟩
end
/-- cells that hold a state, whose slices lie where P says -/
def StC (w : World) (P : Nat → Prop) (cs : Array Value) (W : Wd) : Prop := ∃ a b, cs = cellsS a (lastW 0 W) (lastW 1 W) (lastW 2 W) (lastW 3 W) b ∧ SlP reqK w P a W.tk ∧ SlP hdK w P b W.hd
section
variable {w w' : World} {P P' : Nat → Prop} {cs : Array Value} {W : Wd}
theorem StC.size (h : StC w P cs W) : cs.size = 22 := by
 obtain ⟨a, b, rfl, _⟩ := h
 exact cellsS_size _ _ _ _ _ _
theorem StC.below (h : StC w P cs W) (hb : Below w.heap.size w w') : StC w' P cs W := by
 obtain ⟨a, b, e, h1, h2⟩ := h
 exact ⟨a, b, e, h1.below hb, h2.below hb⟩
theorem StC.imp (h : StC w P cs W) (hP : ∀ g, g < w.heap.size → P g → P' g) : StC w P' cs W := by
 obtain ⟨a, b, e, h1, h2⟩ := h
 exact ⟨a, b, e, h1.imp hP, h2.imp hP⟩
theorem StC.same (h : StC w P cs W) (hs : w.heap.size ≤ w'.heap.size) (hb : ∀ g, g < w.heap.size → P g → w'.heap[g]? = w.heap[g]?) : StC w' P cs W := by
 obtain ⟨a, b, e, h1, h2⟩ := h
 exact ⟨a, b, e, h1.same hs hb, h2.same hs hb⟩
theorem StC.one (h : StC w P cs W) : (cs.all fun x => x.oneCell') = true := by
 obtain ⟨a, b, rfl, ⟨_, _, rfl, _⟩, ⟨_, _, rfl, _⟩⟩ := h
 exact cellsS_one _ _ _ _ _ _ _ _ _ _
/-- cells that hold a world -/
def WdC (w : World) (P : Nat → Prop) (cs : Array Value) (W : Wd) : Prop := ∃ a b c, cs = #[a, b, c] ∧ SlP reqK w P a W.tk ∧ SlP repK w P b W.rp ∧ SlP hdK w P c W.hd
theorem WdC.size (h : WdC w P cs W) : cs.size = 3 := by
 obtain ⟨a, b, c, rfl, _⟩ := h
 rfl
theorem WdC.one (h : WdC w P cs W) : (cs.all fun x => x.oneCell') = true := by
 obtain ⟨a, b, c, rfl, ⟨_, _, rfl, _⟩, ⟨_, _, rfl, _⟩, ⟨_, _, rfl, _⟩⟩ := h
 simp [Value.oneCell']
theorem WdC.below (h : WdC w P cs W) (hb : Below w.heap.size w w') : WdC w' P cs W := by
 obtain ⟨a, b, c, e, h1, h2, h3⟩ := h
 exact ⟨a, b, c, e, h1.below hb, h2.below hb, h3.below hb⟩
theorem WdC.imp (h : WdC w P cs W) (hP : ∀ g, g < w.heap.size → P g → P' g) : WdC w P' cs W := by
 obtain ⟨a, b, c, e, h1, h2, h3⟩ := h
 exact ⟨a, b, c, e, h1.imp hP, h2.imp hP, h3.imp hP⟩
theorem WdC.same (h : WdC w P cs W) (hs : w.heap.size ≤ w'.heap.size) (hb : ∀ g, g < w.heap.size → P g → w'.heap[g]? = w.heap[g]?) : WdC w' P cs W := by
 obtain ⟨a, b, c, e, h1, h2, h3⟩ := h
 exact ⟨a, b, c, e, h1.same hs hb, h2.same hs hb, h3.same hs hb⟩
end
theorem wd_load {w : World} {g : Nat} {cs : Array Value} (hs : cs.size = 3) (h : Blk w g 44 cs) : (loadVar 44 ⟨g, 0, none⟩).run Tryz.prog w = .ok (.agg cs) w :=
 run_loadVar_row w g 44 44 cs (0, 0) _ h Tryz.underlying44 rfl (by rw [hs]; kernel_rfl)
/-- a request is asked -/
def askS (W : Wd) (r : Req) : Wd := ⟨(askW W.tk W.rp W.hd.length r).1, (askW W.tk W.rp W.hd.length r).2.1, W.hd⟩
def saysS (W : Wd) (r : Req) : Rep := (askW W.tk W.rp W.hd.length r).2.2
/-- a head is cut -/
def cutS (W : Wd) (now : Int) : Wd := ⟨W.tk, W.rp, (cutW W.tk W.hd now).1⟩
def isS (W : Wd) (now : Int) : Bool := (cutW W.tk W.hd now).2
theorem stepW_eq (W : Wd) (x : OpR) : stepW W x = if x.cut then cutS W x.now else askS W x.r := rfl
/-- THE PROGRAM'S Apply, as the laws want it -/
def ApplyC : Prop := ∀ (P : Nat → Prop) (cs : Array Value) (W : Wd) (r : Req) (w : World), InvW W → smallB r = true → StC w P cs W →
 Calls Tryz.prog 28 #[.agg cs, .agg r.enc.toArray] w fun e w' => ∃ cs', e = .returned (.tuple #[.agg cs', .agg (saysS W r).enc.toArray]) ∧ StC w' (geP w.heap.size) cs' (askS W r) ∧ Below w.heap.size w w'
/-- THE PROGRAM'S Cut -/
def CutC : Prop := ∀ (P : Nat → Prop) (cs : Array Value) (W : Wd) (now : Int) (w : World), InvW W → (-9223372036854775808 ≤ now ∧ now ≤ 9223372036854775807) → StC w P cs W →
 Calls Tryz.prog 26 #[.agg cs, .agg tabV, .int .i64 now] w fun e w' => ∃ cs', e = .returned (.tuple #[.agg cs', .bool (isS W now)]) ∧ StC w' (geP w.heap.size) cs' (cutS W now) ∧ Below w.heap.size w w'
/-- the reference's -/
def RAskC : Prop := ∀ (P : Nat → Prop) (cs : Array Value) (W : Wd) (r : Req) (w : World), (∀ g, w.heap.size ≤ g → P g) → InvW W → smallB r = true → WdC w P cs W →
 Calls Tryz.prog 29 #[.agg cs, .agg r.enc.toArray] w fun e w' => ∃ cs', e = .returned (.tuple #[.agg cs', .agg (saysS W r).enc.toArray]) ∧ WdC w' P cs' (askS W r) ∧ Below w.heap.size w w'
def RCutC : Prop := ∀ (P : Nat → Prop) (cs : Array Value) (W : Wd) (now : Int) (w : World), (∀ g, w.heap.size ≤ g → P g) → InvW W → WdC w P cs W →
 Calls Tryz.prog 27 #[.agg cs, .agg (emC emp), .int .i64 now] w fun e w' => ∃ cs', e = .returned (.tuple #[.agg cs', .bool (isS W now)]) ∧ WdC w' P cs' (cutS W now) ∧ Below w.heap.size w w'
/-- what is right is small -/
theorem InvW.szq {W : Wd} (h : InvW W) : SzQ W.tk := fun r hr => by
 have := h.right r hr
 unfold rightQ rightB at this
 unfold smallB
 simp at this ⊢
 omega
def zeroWd : Array Value := #[.slice none 0 0, .slice none 0 0, .slice none 0 0]
theorem zeroW (w : World) : (zeroValue 44).run Tryz.prog w = .ok (.agg zeroWd) w := by kernel_rfl
theorem zeroSt_at (w : World) (P : Nat → Prop) : StC w P zeroSt ⟨[], [], []⟩ := ⟨_, _, rfl, slP_nil w P, slP_nil w P⟩
theorem zeroWd_at (w : World) (P : Nat → Prop) : WdC w P zeroWd ⟨[], [], []⟩ := ⟨_, _, _, rfl, slP_nil w P, slP_nil w P, slP_nil w P⟩
/-- what Do comes to -/
def RDo (l : List OpR) (w : World) (e : Ending) (w' : World) : Prop := ∃ cs ds, e = .returned (.tuple #[.agg cs, .agg ds, .bool true]) ∧ StC w' (geP w.heap.size) cs (playW l) ∧ WdC w' (geP w.heap.size) ds (playW l) ∧ Below w.heap.size w w'
end Go.Proofs.YtnbboabaihddbaaGreat
