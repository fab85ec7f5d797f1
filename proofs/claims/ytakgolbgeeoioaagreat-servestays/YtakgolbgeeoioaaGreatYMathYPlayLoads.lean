/-
  Layer 11's reference in plain words: heads, cuts, requests that are asked. What a log's calls come to, in plain words: each client's last one; what holds of all that is made by calls of the empty state. Loads of plain cells, as equations.
-/
import Derived.Test.YtakgolbgeeoioaaGreatYSlYStYFirst
import Derived.Test.YtakgolbgeeoioaaGreatYRef3SRefD
import Derived.Test.YtakgolbgeeoioaaGreatSRefV
import Derived.Test.YtakgolbgeeoioaaGreatBase
namespace Go.Proofs.YtakgolbgeeoioaaGreat
open Go.RowKit

/-- the size and the time of the j-th head; of none 0 -/
def zN (hd : List Hd) : Nat → Int
 | 0 => 0
 | j + 1 => (hd.getD j default).z
def tN (hd : List Hd) : Nat → Int
 | 0 => 0
 | j + 1 => (hd.getD j default).t
/-- the root of pairs, whole -/
def rtL (ps : List (ByteArray × ByteArray)) : ByteArray := rootL 256 (ps.map entP)
theorem rtL_eq (ps : List (ByteArray × ByteArray)) : rtL ps = rootL 256 (ps.map entP) := by unfold rtL; exact Eq.refl _
/-- the root of the map behind requests -/
def mapR (tk : List Req) : ByteArray := rtL (lastK (prsQ tk) (prsQ tk).length)
theorem mapR_eq (tk : List Req) : mapR tk = rtL (lastK (prsQ tk) (prsQ tk).length) := by unfold mapR; exact Eq.refl _
theorem mapR_size (tk : List Req) : (mapR tk).size = 32 := by rw [mapR_eq, rtL_eq]; exact rootL_size _ _
/-- the head of all that was taken, at a time -/
def headW (tk : List Req) (hd : List Hd) (now : Int) : Hd := ⟨(hd.length : Int) + 1, tk.length, max (tN hd hd.length) now, rootM (tk.map leafQ), mapR tk⟩
def cutW (tk : List Req) (hd : List Hd) (now : Int) : List Hd × Bool := if (tk.length : Int) = zN hd hd.length then (hd, false) else (hd ++ [headW tk hd now], true)
theorem Own.formY {w : World} {B : Nat} {v : Value} {ss : List ByteArray} (h : Own w B v ss) : ∃ oa cap, v = .slice oa ss.length cap ∧ Strs w oa ss ∧ ss.length ≤ cap := by
 obtain ⟨oa, cap, hv, hs⟩ := h.form
 refine ⟨oa, cap, hv, hs, ?_⟩
 rcases h.2 with ⟨h1, hn⟩ | ⟨g, cap', cur, h1, hg, hk, hc1, _⟩
 · rw [h1] at hv; injection hv with _ h2 h3; omega
 · rw [h1] at hv; injection hv with _ h2 h3; omega
theorem pthL_fst (ps : List (ByteArray × ByteArray)) : fstN (fun i => pathS (keyP ps i)) ps.length = pthL ps := by
 apply List.ext_getElem
 · rw [fstN_length]; unfold pthL; rw [List.length_map]
 · intro i h1 h2
   rw [fstN_length] at h1
   have e1 := fstN_get (fun i => pathS (keyP ps i)) h1
   rw [List.getD_eq_getElem?_getD, List.getElem?_eq_getElem (by rw [fstN_length]; exact h1)] at e1
   have e2 := pthL_at h1
   rw [List.getD_eq_getElem?_getD, List.getElem?_eq_getElem h2] at e2
   simp only [Option.getD_some] at e1 e2
   rw [e1, e2]
   unfold keyP
   rw [getD_pair h1]
theorem root0_any (oa ob : Option Addr) (n cap capb : Nat) (ps : List (ByteArray × ByteArray)) (hn : ps.length = n) (hsz : n ≤ 1000) (hF : FitP ps) (w : World) (hP : Prs w oa ps) (hT : Strs w ob (pthL ps)) :
 Calls Tryz.prog 52 #[.agg (emC emp), .slice oa n cap, .slice ob n capb, .int .i64 0] w fun e w' => e = .returned (.string (rtL ps)) ∧ Below w.heap.size w w' := by
 have h := vroot_any 256 0 (Nat.zero_add _) oa ob n cap capb ps (pthL ps) hn (by unfold pthL; rw [List.length_map]; exact hn) hsz hF (fun s hs => by unfold pthL at hs; obtain ⟨p, _, rfl⟩ := List.mem_map.1 hs; exact pathS_size _) (Eq.refl _) w hP hT
 rw [← rtL_eq] at h
 unfold RVs at h
 generalize rtL ps = R at *
 generalize emC emp = E at *
 exact h
theorem pthL_len (ps : List (ByteArray × ByteArray)) : (pthL ps).length = ps.length := by unfold pthL; rw [List.length_map]
theorem paths0_any (oa : Option Addr) (cap n : Nat) (ps : List (ByteArray × ByteArray)) (hn : ps.length = n) (hsz : n ≤ 1000) (hF : FitP ps) (w : World) (hP : Prs w oa ps) :
 Calls Tryz.prog 53 #[.slice oa n cap] w fun e w' => ∃ oq cq, e = .returned (.slice oq n cq) ∧ Strs w' oq (pthL ps) ∧ Below w.heap.size w w' := by
 subst hn
 have h := paths_any oa ps.length cap ps (Eq.refl _) hsz hF w hP
 rw [pthL_fst ps] at h
 have hl := pthL_len ps
 unfold RT at h
 generalize pthL ps = L at *
 refine h.mono ?_
 rintro e w' ⟨v, rfl, hv, hb⟩
 obtain ⟨oq, cq, rfl, hs⟩ := hv.form
 exact ⟨oq, cq, by rw [hl], hs, hb⟩
theorem sl_rep {w : World} {p : Addr} {v : Value} (h : w.cell? p = some v) : (loadVar 41 p).run Tryz.prog w = .ok v w := by
 go_simp
theorem wld_load {w : World} {g : Nat} {a b c : Value} (h : Blk w g 43 #[a, b, c]) : (loadVar 43 ⟨g, 0, none⟩).run Tryz.prog w = .ok (.agg #[a, b, c]) w :=
 run_loadVar_row w g 43 43 #[a, b, c] (0, 0) _ h Tryz.underlying43 rfl (by kernel_rfl)
/-- the last of the first j requests that is the client's, and how many are -/
def lstN (c : Int) (tk : List Req) : Nat → Int
 | 0 => -1
 | j + 1 => if (tk.getD j default).c = c then (j : Int) else lstN c tk j
def cntN (c : Int) (tk : List Req) : Nat → Int
 | 0 => 0
 | j + 1 => if (tk.getD j default).c = c then cntN c tk j + 1 else cntN c tk j
theorem lstN_lt (c : Int) (tk : List Req) : ∀ j, -1 ≤ lstN c tk j ∧ lstN c tk j < j
 | 0 => ⟨by show (-1 : Int) ≤ -1; omega, by show (-1 : Int) < 0; omega⟩
 | j + 1 => by
  have := lstN_lt c tk j
  unfold lstN
  split <;> omega
theorem cntN_le (c : Int) (tk : List Req) : ∀ j, 0 ≤ cntN c tk j ∧ cntN c tk j ≤ j
 | 0 => ⟨by show (0 : Int) ≤ 0; omega, by show (0 : Int) ≤ 0; omega⟩
 | j + 1 => by
  have := cntN_le c tk j
  unfold cntN
  split <;> omega
def rightQ (r : Req) : Bool := rightB r.c r.q r.l r.k r.v
/-- what a request is answered, and what was taken then -/
def askW (tk : List Req) (rp : List Rep) (h : Nat) (r : Req) : List Req × List Rep × Rep :=
 if rightQ r = false then (tk, rp, ⟨1, 0, 0⟩)
 else if 0 ≤ lstN r.c tk tk.length ∧ (tk.getD (lstN r.c tk tk.length).toNat default).q = r.q then (tk, rp, rp.getD (lstN r.c tk tk.length).toNat default)
 else if 0 ≤ lstN r.c tk tk.length ∧ r.q < (tk.getD (lstN r.c tk tk.length).toNat default).q then (tk, rp, ⟨7, 0, 0⟩)
 else if cntN r.c tk tk.length = 20 then (tk, rp, ⟨6, 0, 0⟩)
 else if tk.length = 64 then (tk, rp, ⟨10, 0, 0⟩)
 else (tk ++ [r], rp ++ [⟨0, tk.length, (h : Int) + 1⟩], ⟨0, tk.length, (h : Int) + 1⟩)
/-- three cells of a block are stored -/
abbrev set3 (w : World) (b : Nat) (x y z : Value) : World := ((w.setCell ⟨b, 0, none⟩ x).setCell ⟨b, 1, none⟩ y).setCell ⟨b, 2, none⟩ z
theorem Blk.set3 {w : World} {b : Nat} {t : TypeId} {p q r : Value} (h : Blk w b t #[p, q, r]) (x y z : Value) : Blk (set3 w b x y z) b t #[x, y, z] := ((h.set_ 0 x).set_ 1 y).set_ 2 z
theorem Blk.far3 {w : World} {g b : Nat} {t : TypeId} {cs : Array Value} (h : Blk w g t cs) (hn : g ≠ b) (x y z : Value) : Blk (Go.Proofs.YtakgolbgeeoioaaGreat.set3 w b x y z) g t cs := ((h.far (p := ⟨b, 0, none⟩) hn x).far (p := ⟨b, 1, none⟩) hn y).far (p := ⟨b, 2, none⟩) hn z
theorem Below.set3 {B : Nat} {a w : World} {b : Nat} (h : Below B a w) (hb : B ≤ b) (x y z : Value) : Below B a (Go.Proofs.YtakgolbgeeoioaaGreat.set3 w b x y z) := ((h.setCell (p := ⟨b, 0, none⟩) hb x).setCell (p := ⟨b, 1, none⟩) hb y).setCell (p := ⟨b, 2, none⟩) hb z
theorem RowG.set3 {α : Type} {K : Kind α} {w : World} {oa : Option Addr} {xs : List α} {b : Nat} (h : RowG K w oa xs) (hn : ∀ a, oa = some a → a.block ≠ b) (x y z : Value) : RowG K (Go.Proofs.YtakgolbgeeoioaaGreat.set3 w b x y z) oa xs :=
 ((h.grown (grownG_setCell _ ⟨b, 0, none⟩ x) (fun a ha e => hn a ha (by injection e with e; exact e.symm))).grown (grownG_setCell _ ⟨b, 1, none⟩ y) (fun a ha e => hn a ha (by injection e with e; exact e.symm))).grown (grownG_setCell _ ⟨b, 2, none⟩ z) (fun a ha e => hn a ha (by injection e with e; exact e.symm))
end Go.Proofs.YtakgolbgeeoioaaGreat
namespace Go.Proofs.YtakgolbgeeoioaaGreat
open Go.RowKit

def lstL (c : Int) (tk : List Req) (rp : List Rep) : Nat → Lst
 | 0 => default
 | j + 1 => if (tk.getD j default).c = c then ⟨(tk.getD j default).q, (lstL c tk rp j).n + 1, rp.getD j default⟩ else lstL c tk rp j
theorem lstL_none (c : Int) (tk : List Req) (rp : List Rep) : ∀ j, lstN c tk j < 0 → lstL c tk rp j = default
 | 0, _ => rfl
 | j + 1, h => by
  unfold lstN at h
  unfold lstL
  split at h
  · omega
  · rename_i hc
    rw [if_neg hc]
    exact lstL_none c tk rp j h
theorem lstL_some (c : Int) (tk : List Req) (rp : List Rep) : ∀ j, 0 ≤ lstN c tk j →
 (lstL c tk rp j).q = (tk.getD (lstN c tk j).toNat default).q ∧ (lstL c tk rp j).r = rp.getD (lstN c tk j).toNat default ∧ (tk.getD (lstN c tk j).toNat default).c = c
 | 0, h => by unfold lstN at h; omega
 | j + 1, h => by
  unfold lstN at h ⊢
  unfold lstL
  by_cases hc : (tk.getD j default).c = c
  · rw [if_pos hc, if_pos hc]
    exact ⟨rfl, rfl, hc⟩
  · rw [if_neg hc] at h
    rw [if_neg hc, if_neg hc]
    exact lstL_some c tk rp j h
theorem lstL_n (c : Int) (tk : List Req) (rp : List Rep) : ∀ j, (lstL c tk rp j).n = cntN c tk j
 | 0 => rfl
 | j + 1 => by
  unfold lstL cntN
  split
  · show (lstL c tk rp j).n + 1 = _
    rw [lstL_n c tk rp j]
  · exact lstL_n c tk rp j
theorem getD_front {α : Type} (d : α) (l m : List α) {j : Nat} (h : j < l.length) : (l ++ m).getD j d = l.getD j d := by
 rw [List.getD_eq_getElem?_getD, List.getD_eq_getElem?_getD, List.getElem?_append_left h]
theorem getD_last {α : Type} (d : α) (l : List α) (x : α) : (l ++ [x]).getD l.length d = x := by
 rw [List.getD_eq_getElem?_getD, List.getElem?_append_right (Nat.le_refl _), Nat.sub_self]
 rfl
theorem lstL_front (c : Int) (tk : List Req) (rp : List Rep) (hl : rp.length = tk.length) (a : List Req) (b : List Rep) : ∀ j, j ≤ tk.length → lstL c (tk ++ a) (rp ++ b) j = lstL c tk rp j
 | 0, _ => rfl
 | j + 1, h => by
  unfold lstL
  rw [getD_front _ tk a (by omega), getD_front _ rp b (by omega), lstL_front c tk rp hl a b j (by omega)]
theorem lstL_snoc (c : Int) (tk : List Req) (rp : List Rep) (hl : rp.length = tk.length) (r : Req) (x : Rep) :
 lstL c (tk ++ [r]) (rp ++ [x]) (tk ++ [r]).length = if r.c = c then ⟨r.q, (lstL c tk rp tk.length).n + 1, x⟩ else lstL c tk rp tk.length := by
 rw [List.length_append]
 show lstL c (tk ++ [r]) (rp ++ [x]) (tk.length + 1) = _
 conv => lhs; unfold lstL
 rw [getD_last, ← hl, getD_last, hl, lstL_front c tk rp hl [r] [x] tk.length (Nat.le_refl _)]
theorem rightQ_q {r : Req} (h : rightQ r = true) : 1 ≤ r.q ∧ r.q ≤ 2147483647 ∧ 0 ≤ r.c ∧ r.c < 4 := by
 unfold rightQ rightB at h
 simp at h
 omega
/-- what a request is answered, of the client's last one -/
theorem askW_last (tk : List Req) (rp : List Rep) (h : Nat) (r : Req) : askW tk rp h r =
 if rightQ r = false then (tk, rp, ⟨1, 0, 0⟩)
 else if (lstL r.c tk rp tk.length).q = r.q then (tk, rp, (lstL r.c tk rp tk.length).r)
 else if r.q < (lstL r.c tk rp tk.length).q then (tk, rp, ⟨7, 0, 0⟩)
 else if (lstL r.c tk rp tk.length).n = 20 then (tk, rp, ⟨6, 0, 0⟩)
 else if tk.length = 64 then (tk, rp, ⟨10, 0, 0⟩)
 else (tk ++ [r], rp ++ [⟨0, tk.length, (h : Int) + 1⟩], ⟨0, tk.length, (h : Int) + 1⟩) := by
 unfold askW
 rw [lstL_n]
 by_cases hr : rightQ r = false
 · rw [if_pos hr, if_pos hr]
 · rw [if_neg hr, if_neg hr]
   have hq := (rightQ_q (by simpa using hr)).1
   by_cases h0 : 0 ≤ lstN r.c tk tk.length
   · obtain ⟨e1, e2, _⟩ := lstL_some r.c tk rp tk.length h0
     rw [e1, e2]
     simp only [h0, true_and]
   · have e := lstL_none r.c tk rp tk.length (by omega)
     have z : (lstL r.c tk rp tk.length).q = 0 := by rw [e]; rfl
     rw [if_neg (fun x => h0 x.1), if_neg (fun x => h0 x.1), z, if_neg (show ¬ (0 : Int) = r.q by omega), if_neg (show ¬ r.q < (0 : Int) by omega)]
/-- a log: what was taken, the replies, heads -/
structure Wd where
 tk : List Req
 rp : List Rep
 hd : List Hd
def stepW (w : Wd) (x : OpR) : Wd := if x.cut then ⟨w.tk, w.rp, (cutW w.tk w.hd x.now).1⟩ else ⟨(askW w.tk w.rp w.hd.length x.r).1, (askW w.tk w.rp w.hd.length x.r).2.1, w.hd⟩
def playW (l : List OpR) : Wd := l.foldl stepW ⟨[], [], []⟩
theorem playW_snoc (l : List OpR) (x : OpR) : playW (l ++ [x]) = stepW (playW l) x := by unfold playW; rw [List.foldl_append]; rfl
/-- what holds of all logs -/
structure InvW (w : Wd) : Prop where
 len : w.rp.length = w.tk.length
 most : w.tk.length ≤ 64
 right : ∀ x ∈ w.tk, rightQ x = true
 cnt : ∀ c, cntN c w.tk w.tk.length ≤ 20
 ans : ∀ i, i < w.tk.length → (w.rp.getD i default).e = 0 ∧ (w.rp.getD i default).i = i
 hq : ∀ i, i < w.hd.length → (w.hd.getD i default).q = (i : Int) + 1
 hz : ∀ i, i < w.hd.length → zN w.hd i < (w.hd.getD i default).z
 hzl : zN w.hd w.hd.length ≤ w.tk.length
 ht : ∀ i, i < w.hd.length → tN w.hd i ≤ (w.hd.getD i default).t
 roots : ∀ x ∈ w.hd, x.r.size = 32 ∧ x.m.size = 32
theorem rootQ_size (tk : List Req) : (rootM (tk.map leafQ)).size = 32 := by
 rcases Nat.lt_or_ge (tk.map leafQ).length 2 with h2 | h2
 · rcases (by omega : (tk.map leafQ).length = 0 ∨ (tk.map leafQ).length = 1) with h0 | h1
   · rw [rootM_nil h0]; exact hB_size _
   · rw [rootM_one h1, List.getD_eq_getElem?_getD, List.getElem?_eq_getElem (by omega)]
     obtain ⟨y, _, hy⟩ := List.mem_map.1 (List.getElem_mem (l := tk.map leafQ) (n := 0) (by omega))
     show ((tk.map leafQ)[0]).size = 32
     rw [← hy]
     exact hB_size _
 · rw [rootM_more h2]; exact nodM_size _ _
theorem InvW.nil : InvW ⟨[], [], []⟩ where
 len := rfl
 most := by decide
 right := fun x h => by cases h
 cnt := fun c => by show cntN c [] 0 ≤ 20; unfold cntN; omega
 ans := fun i h => by simp at h
 hq := fun i h => by simp at h
 hz := fun i h => by simp at h
 hzl := by show zN [] 0 ≤ _; unfold zN; simp
 ht := fun i h => by simp at h
 roots := fun x h => by cases h
theorem askW_cases (tk : List Req) (rp : List Rep) (h : Nat) (r : Req) :
 ((askW tk rp h r).1 = tk ∧ (askW tk rp h r).2.1 = rp) ∨ (rightQ r = true ∧ (lstL r.c tk rp tk.length).q < r.q ∧ (lstL r.c tk rp tk.length).n ≠ 20 ∧ tk.length ≠ 64 ∧ askW tk rp h r = (tk ++ [r], rp ++ [⟨0, tk.length, (h : Int) + 1⟩], ⟨0, tk.length, (h : Int) + 1⟩)) := by
 rw [askW_last]
 split
 · exact .inl ⟨rfl, rfl⟩
 · rename_i h1
   split
   · exact .inl ⟨rfl, rfl⟩
   · rename_i h2
     split
     · exact .inl ⟨rfl, rfl⟩
     · rename_i h3
       split
       · exact .inl ⟨rfl, rfl⟩
       · rename_i h4
         split
         · exact .inl ⟨rfl, rfl⟩
         · rename_i h5
           exact .inr ⟨by simpa using h1, by omega, h4, h5, rfl⟩
theorem zN_front (hd m : List Hd) : ∀ i, i ≤ hd.length → zN (hd ++ m) i = zN hd i
 | 0, _ => rfl
 | j + 1, h => by show ((hd ++ m).getD j default).z = (hd.getD j default).z; rw [getD_front _ hd m (by omega)]
theorem tN_front (hd m : List Hd) : ∀ i, i ≤ hd.length → tN (hd ++ m) i = tN hd i
 | 0, _ => rfl
 | j + 1, h => by show ((hd ++ m).getD j default).t = (hd.getD j default).t; rw [getD_front _ hd m (by omega)]
theorem InvW.ask {w : Wd} (h : InvW w) (r : Req) : InvW ⟨(askW w.tk w.rp w.hd.length r).1, (askW w.tk w.rp w.hd.length r).2.1, w.hd⟩ := by
 rcases askW_cases w.tk w.rp w.hd.length r with ⟨e1, e2⟩ | ⟨hr, _, hn, hf, e⟩
 · rw [e1, e2]
   exact h
 · rw [e]
   have hm := h.most
   refine ⟨?_, ?_, ?_, ?_, ?_, h.hq, h.hz, ?_, h.ht, h.roots⟩
   · show (w.rp ++ _).length = (w.tk ++ _).length
     rw [List.length_append, List.length_append, h.len]
     rfl
   · show (w.tk ++ [r]).length ≤ 64
     rw [List.length_append]
     simp
     omega
   · intro x hx
     rcases List.mem_append.1 hx with hx | hx
     · exact h.right x hx
     · obtain rfl : x = r := by simpa using hx
       exact hr
   · intro c
     show cntN c (w.tk ++ [r]) (w.tk ++ [r]).length ≤ 20
     rw [← lstL_n c (w.tk ++ [r]) (w.rp ++ [⟨0, w.tk.length, (w.hd.length : Int) + 1⟩]), lstL_snoc c w.tk w.rp h.len]
     have hc := h.cnt c
     rw [← lstL_n c w.tk w.rp] at hc
     split
     · rename_i hc'
       subst hc'
       show (lstL r.c w.tk w.rp w.tk.length).n + 1 ≤ 20
       omega
     · exact hc
   · intro i hi
     have hi' : i < w.tk.length + 1 := by simpa using hi
     show ((w.rp ++ _).getD i default).e = 0 ∧ ((w.rp ++ _).getD i default).i = i
     by_cases hl : i < w.tk.length
     · rw [getD_front _ w.rp _ (by rw [h.len]; exact hl)]
       exact h.ans i hl
     · obtain rfl : i = w.rp.length := by rw [h.len]; omega
       rw [getD_last]
       exact ⟨rfl, by show ((w.tk.length : Nat) : Int) = _; rw [h.len]⟩
   · have := h.hzl
     show zN w.hd w.hd.length ≤ ((w.tk ++ [r]).length : Int)
     rw [List.length_append]
     push_cast
     omega
theorem InvW.cut {w : Wd} (h : InvW w) (now : Int) : InvW ⟨w.tk, w.rp, (cutW w.tk w.hd now).1⟩ := by
 unfold cutW
 split
 · exact h
 · rename_i hne
   have hz := h.hzl
   refine ⟨h.len, h.most, h.right, h.cnt, h.ans, ?_, ?_, ?_, ?_, ?_⟩
   · intro i hi
     have hi' : i < w.hd.length + 1 := by simpa using hi
     show ((w.hd ++ [headW w.tk w.hd now]).getD i default).q = _
     by_cases hl : i < w.hd.length
     · rw [getD_front _ w.hd _ hl]
       exact h.hq i hl
     · obtain rfl : i = w.hd.length := by omega
       rw [getD_last]
       rfl
   · intro i hi
     have hi' : i < w.hd.length + 1 := by simpa using hi
     show zN (w.hd ++ [headW w.tk w.hd now]) i < ((w.hd ++ [headW w.tk w.hd now]).getD i default).z
     rw [zN_front _ _ i (by omega)]
     by_cases hl : i < w.hd.length
     · rw [getD_front _ w.hd _ hl]
       exact h.hz i hl
     · obtain rfl : i = w.hd.length := by omega
       rw [getD_last]
       show zN w.hd w.hd.length < (w.tk.length : Int)
       omega
   · show zN (w.hd ++ [headW w.tk w.hd now]) (w.hd ++ [headW w.tk w.hd now]).length ≤ (w.tk.length : Int)
     rw [List.length_append]
     show ((w.hd ++ [headW w.tk w.hd now]).getD w.hd.length default).z ≤ _
     rw [getD_last]
     exact Int.le_refl _
   · intro i hi
     have hi' : i < w.hd.length + 1 := by simpa using hi
     show tN (w.hd ++ [headW w.tk w.hd now]) i ≤ ((w.hd ++ [headW w.tk w.hd now]).getD i default).t
     rw [tN_front _ _ i (by omega)]
     by_cases hl : i < w.hd.length
     · rw [getD_front _ w.hd _ hl]
       exact h.ht i hl
     · obtain rfl : i = w.hd.length := by omega
       rw [getD_last]
       show tN w.hd w.hd.length ≤ max (tN w.hd w.hd.length) now
       omega
   · intro x hx
     rcases List.mem_append.1 hx with hx | hx
     · exact h.roots x hx
     · obtain rfl : x = headW w.tk w.hd now := by simpa using hx
       exact ⟨rootQ_size _, mapR_size _⟩
theorem InvW.step {w : Wd} (h : InvW w) (x : OpR) : InvW (stepW w x) := by
 unfold stepW
 split
 · exact h.cut x.now
 · exact h.ask x.r
theorem InvW.steps : ∀ (l : List OpR) {w : Wd}, InvW w → InvW (l.foldl stepW w)
 | [], _, h => h
 | x :: l, _, h => InvW.steps l (h.step x)
theorem InvW.play (l : List OpR) : InvW (playW l) := InvW.steps l InvW.nil
/-- more calls: what was there stays ahead -/
theorem stepW_front (w : Wd) (x : OpR) : (∃ a, (stepW w x).tk = w.tk ++ a) ∧ ∃ b, (stepW w x).hd = w.hd ++ b := by
 unfold stepW
 split
 · refine ⟨⟨[], by simp⟩, ?_⟩
   show ∃ b, (cutW w.tk w.hd x.now).1 = _
   unfold cutW
   split
   · exact ⟨[], by simp⟩
   · exact ⟨_, rfl⟩
 · refine ⟨?_, [], by simp⟩
   rcases askW_cases w.tk w.rp w.hd.length x.r with ⟨e, _⟩ | ⟨_, _, _, _, e⟩
   · exact ⟨[], by rw [List.append_nil]; exact e⟩
   · exact ⟨[x.r], by show (askW w.tk w.rp w.hd.length x.r).1 = _; rw [e]⟩
theorem steps_front : ∀ (l : List OpR) (w : Wd), (∃ a, (l.foldl stepW w).tk = w.tk ++ a) ∧ ∃ b, (l.foldl stepW w).hd = w.hd ++ b
 | [], w => ⟨⟨[], by simp⟩, [], by simp⟩
 | x :: l, w => by
  obtain ⟨⟨a, ha⟩, b, hb⟩ := stepW_front w x
  obtain ⟨⟨a', ha'⟩, b', hb'⟩ := steps_front l (stepW w x)
  refine ⟨⟨a ++ a', ?_⟩, b ++ b', ?_⟩
  · show (l.foldl stepW (stepW w x)).tk = _
    rw [ha', ha, List.append_assoc]
  · show (l.foldl stepW (stepW w x)).hd = _
    rw [hb', hb, List.append_assoc]
theorem play_front (l m : List OpR) : (∃ a, (playW (l ++ m)).tk = (playW l).tk ++ a) ∧ ∃ b, (playW (l ++ m)).hd = (playW l).hd ++ b := by
 unfold playW
 rw [List.foldl_append]
 exact steps_front m _
/-- heads' numbers -/
theorem InvW.least {w : Wd} (h : InvW w) : ∀ i, i ≤ w.hd.length → (i : Int) ≤ zN w.hd i
 | 0, _ => by unfold zN; simp
 | i + 1, hi => by
  have := h.least i (by omega)
  have := h.hz i (by omega)
  show ((i + 1 : Nat) : Int) ≤ (w.hd.getD i default).z
  omega
theorem InvW.heads {w : Wd} (h : InvW w) : w.hd.length ≤ w.tk.length := by
 have := h.least w.hd.length (Nat.le_refl _)
 have := h.hzl
 omega
theorem InvW.tpos {w : Wd} (h : InvW w) : ∀ i, i ≤ w.hd.length → 0 ≤ tN w.hd i
 | 0, _ => by unfold tN; simp
 | i + 1, hi => by
  have := h.tpos i (by omega)
  have := h.ht i (by omega)
  show 0 ≤ (w.hd.getD i default).t
  omega
theorem InvW.zle {w : Wd} (h : InvW w) : ∀ d i, i + d = w.hd.length → zN w.hd i ≤ w.tk.length
 | 0, i, e => by
  obtain rfl : i = w.hd.length := by omega
  exact h.hzl
 | d + 1, i, e => by
  have := h.zle d (i + 1) (by omega)
  have := h.hz i (by omega)
  have : zN w.hd (i + 1) = (w.hd.getD i default).z := rfl
  omega
theorem InvW.size {w : Wd} (h : InvW w) {i : Nat} (hi : i < w.hd.length) : (w.hd.getD i default).z ≤ w.tk.length := h.zle (w.hd.length - (i + 1)) (i + 1) (by omega)
/-- a request that is asked again: the same answer, and nothing is taken -/
theorem ask_again {w : Wd} (h : InvW w) (r : Req) (h2 : Nat) : askW (askW w.tk w.rp w.hd.length r).1 (askW w.tk w.rp w.hd.length r).2.1 h2 r = askW w.tk w.rp w.hd.length r ∨ (askW w.tk w.rp w.hd.length r).1 = w.tk ∧ (askW w.tk w.rp w.hd.length r).2.1 = w.rp ∧ askW w.tk w.rp h2 r = askW w.tk w.rp w.hd.length r := by
 rcases askW_cases w.tk w.rp w.hd.length r with ⟨e1, e2⟩ | ⟨hr, hl, hn, hf, e⟩
 · refine .inr ⟨e1, e2, ?_⟩
   have k1 := askW_last w.tk w.rp w.hd.length r
   rw [askW_last w.tk w.rp h2 r]
   rw [k1] at e1 ⊢
   split
   · rfl
   · rename_i h1
     rw [if_neg h1] at e1
     split
     · rfl
     · rename_i h2
       rw [if_neg h2] at e1
       split
       · rfl
       · rename_i h3
         rw [if_neg h3] at e1
         split
         · rfl
         · rename_i h4
           rw [if_neg h4] at e1
           split
           · rfl
           · rename_i h5
             rw [if_neg h5] at e1
             have := congrArg List.length e1
             simp at this
 · refine .inl ?_
   rw [e]
   show askW (w.tk ++ [r]) (w.rp ++ [⟨0, w.tk.length, (w.hd.length : Int) + 1⟩]) h2 r = _
   rw [askW_last, lstL_snoc r.c w.tk w.rp h.len, if_pos rfl, if_neg (by rw [hr]; decide), if_pos rfl]
/-- what was answered OK is in the log, at its index -/
theorem ask_ok {w : Wd} (h : InvW w) (r : Req) (hok : (askW w.tk w.rp w.hd.length r).2.2.e = 0) : ∃ i : Nat, (askW w.tk w.rp w.hd.length r).2.2.i = i ∧ i < (askW w.tk w.rp w.hd.length r).1.length ∧
 ((askW w.tk w.rp w.hd.length r).1.getD i default).c = r.c ∧ ((askW w.tk w.rp w.hd.length r).1.getD i default).q = r.q := by
 have k := askW_last w.tk w.rp w.hd.length r
 by_cases h1 : rightQ r = false
 · rw [if_pos h1] at k
   rw [k] at hok
   exact absurd (show (1 : Int) = 0 from hok) (by decide)
 rw [if_neg h1] at k
 have hq := (rightQ_q (by simpa using h1)).1
 by_cases h2 : (lstL r.c w.tk w.rp w.tk.length).q = r.q
 · rw [if_pos h2] at k
   rw [k]
   have h0 : 0 ≤ lstN r.c w.tk w.tk.length := by
    rcases Int.lt_or_le (lstN r.c w.tk w.tk.length) 0 with hx | hx
    · rw [lstL_none r.c w.tk w.rp w.tk.length hx] at h2
      have : r.q = 0 := h2.symm
      omega
    · exact hx
   obtain ⟨e1, e2, e3⟩ := lstL_some r.c w.tk w.rp w.tk.length h0
   have hlt := (lstN_lt r.c w.tk w.tk.length).2
   refine ⟨(lstN r.c w.tk w.tk.length).toNat, ?_, by show _ < w.tk.length; omega, e3, by rw [← h2, e1]⟩
   show (lstL r.c w.tk w.rp w.tk.length).r.i = _
   rw [e2]
   exact (h.ans _ (by omega)).2
 rw [if_neg h2] at k
 by_cases h3 : r.q < (lstL r.c w.tk w.rp w.tk.length).q
 · rw [if_pos h3] at k
   rw [k] at hok
   exact absurd (show (7 : Int) = 0 from hok) (by decide)
 rw [if_neg h3] at k
 by_cases h4 : (lstL r.c w.tk w.rp w.tk.length).n = 20
 · rw [if_pos h4] at k
   rw [k] at hok
   exact absurd (show (6 : Int) = 0 from hok) (by decide)
 rw [if_neg h4] at k
 by_cases h5 : w.tk.length = 64
 · rw [if_pos h5] at k
   rw [k] at hok
   exact absurd (show (10 : Int) = 0 from hok) (by decide)
 rw [if_neg h5] at k
 rw [k]
 refine ⟨w.tk.length, rfl, ?_, ?_, ?_⟩
 · show w.tk.length < (w.tk ++ [r]).length
   simp
 · show ((w.tk ++ [r]).getD w.tk.length default).c = r.c
   rw [getD_last]
 · show ((w.tk ++ [r]).getD w.tk.length default).q = r.q
   rw [getD_last]
/-- the others' last ones stay -/
theorem ask_others {w : Wd} (h : InvW w) (r : Req) {c : Int} (hc : c ≠ r.c) : lstL c (askW w.tk w.rp w.hd.length r).1 (askW w.tk w.rp w.hd.length r).2.1 (askW w.tk w.rp w.hd.length r).1.length = lstL c w.tk w.rp w.tk.length := by
 rcases askW_cases w.tk w.rp w.hd.length r with ⟨e1, e2⟩ | ⟨_, _, _, _, e⟩
 · rw [e1, e2]
 · rw [e]
   show lstL c (w.tk ++ [r]) (w.rp ++ [_]) (w.tk ++ [r]).length = _
   rw [lstL_snoc c w.tk w.rp h.len, if_neg (fun x => hc x.symm)]
end Go.Proofs.YtakgolbgeeoioaaGreat
namespace Go.Proofs.YtakgolbgeeoioaaGreat
open Go.RowKit

theorem byte_load {w : World} {p : Addr} {x : Int} (h : w.cell? p = some (.int .u8 x)) : (loadVar 5 p).run Tryz.prog w = .ok (.int .u8 x) w := by
  go_simp
end Go.Proofs.YtakgolbgeeoioaaGreat
