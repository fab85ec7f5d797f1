/-
  Requests and lists that are written are read as they were: in plain words. Layer 12 in plain words: a log's bytes, the log that requests and heads make, and that a log comes again of its own.
-/
import Derived.Test.YtnbboabaihddbaaGreatWReadWReadL
import Derived.Test.YtnbboabaihddbaaGreatYPlayYState
namespace Go.Proofs.YtnbboabaihddbaaGreat

theorem ext_left (a b : ByteArray) : (a ++ b).extract 0 a.size = a := by
 apply ByteArray.ext
 rw [ByteArray.data_extract, ByteArray.data_append, Array.extract_append]
 simp
theorem ext_right (a b : ByteArray) : (a ++ b).extract a.size (a ++ b).size = b := by
 apply ByteArray.ext
 apply Array.toList_inj.1
 rw [ByteArray.data_extract, ByteArray.data_append, ByteArray.size_append, Array.toList_extract, Array.toList_append, List.extract_eq_drop_take']
 have h1 : a.size = a.data.toList.length := by simp
 have h2 : a.size + b.size = (a.data.toList ++ b.data.toList).length := by simp
 rw [h2, List.take_of_length_le (Nat.le_refl _), h1, List.drop_left]
theorem cut_left (a r : ByteArray) (n : Int) (hn : n = a.size) : cutF n (a ++ r) = a := by
 subst hn
 unfold cutF
 rw [if_pos (by rw [ByteArray.size_append]; omega), Int.toNat_natCast]
 exact ext_left a r
theorem cut_right (a r : ByteArray) (n : Int) (hn : n = a.size) : cutR n (a ++ r) = r := by
 subst hn
 unfold cutR
 rw [if_pos (by rw [ByteArray.size_append]; omega), Int.toNat_natCast]
 exact ext_right a r
theorem numV_num4 (n : Int) : numV (num4 n) = clip n := by
 unfold numV num4
 rw [nums_strN (by4_lt _)]
 have h := clip_le n
 generalize clip n = m at *
 simp [beV, by4]
 omega
theorem nF_num (n : Int) (r : ByteArray) : nF (num4 n ++ r) = clip n := by
 unfold nF
 rw [cut_left (num4 n) r 4 (by rw [num4_size]; rfl), numV_num4]
theorem rest_num (n : Int) (r : ByteArray) : cutR 4 (num4 n ++ r) = r := cut_right (num4 n) r 4 (by rw [num4_size]; rfl)
theorem clip_size {s : ByteArray} (h : s.size ≤ 2147483647) : clip (s.size : Int) = s.size := by rw [clip_in (by omega) (by omega)]; omega
theorem txF_txt (s r : ByteArray) (h : s.size ≤ 2147483647) : txF (txt s ++ r) = s := by
 unfold txF txt
 rw [ByteArray.append_assoc, rest_num]
 have := nF_num s.size (s ++ r)
 unfold nF at this
 rw [this, clip_size h]
 exact cut_left s r _ rfl
theorem txR_txt (s r : ByteArray) (h : s.size ≤ 2147483647) : txR (txt s ++ r) = r := by
 unfold txR txt
 rw [ByteArray.append_assoc, rest_num]
 have := nF_num s.size (s ++ r)
 unfold nF at this
 rw [this, clip_size h]
 exact cut_right s r _ rfl

/-- a request that is written, and read -/
theorem req_read (c q : Int) (l k v : ByteArray) (hl : l.size ≤ 2147483647) (hk : k.size ≤ 2147483647) (hv : v.size ≤ 2147483647) :
 rqC (reqB c q l k v) = clip c ∧ rqQ (reqB c q l k v) = clip q ∧ rqL (reqB c q l k v) = l ∧ rqK (reqB c q l k v) = k ∧ rqV (reqB c q l k v) = v := by
 have e0' : q0 (reqB c q l k v) = num4 c ++ (num4 q ++ (txt l ++ (txt k ++ txt v))) := by
  unfold q0 reqB
  rw [ByteArray.append_assoc, ByteArray.append_assoc, ByteArray.append_assoc, ByteArray.append_assoc]
  rw [cut_right _ _ 1 rfl]
 have e1' : q1 (reqB c q l k v) = num4 q ++ (txt l ++ (txt k ++ txt v)) := by unfold q1; rw [e0', rest_num]
 have e2' : q2 (reqB c q l k v) = txt l ++ (txt k ++ txt v) := by unfold q2; rw [e1', rest_num]
 have e3' : q3 (reqB c q l k v) = txt k ++ txt v := by unfold q3; rw [e2', txR_txt _ _ hl]
 have e4' : q4 (reqB c q l k v) = txt v ++ ⟨#[]⟩ := by unfold q4; rw [e3', txR_txt _ _ hk, append_empty]
 refine ⟨?_, ?_, ?_, ?_, ?_⟩
 · unfold rqC; rw [e0', nF_num]
 · unfold rqQ; rw [e1', nF_num]
 · unfold rqL; rw [e2', txF_txt _ _ hl]
 · unfold rqK; rw [e3', txF_txt _ _ hk]
 · unfold rqV; rw [e4', txF_txt _ _ hv]
theorem right_parts {c q : Int} {l k v : ByteArray} (h : rightB c q l k v = true) : 0 ≤ c ∧ c ≤ 3 ∧ 1 ≤ q ∧ q ≤ 2147483647 ∧ 1 ≤ l.size ∧ l.size ≤ 200 ∧ k.size ≤ 50 ∧ v.size ≤ 100 ∧ (k.size ≠ 0 ∨ v.size = 0) := of_decide_eq_true h
theorem rdReq_right {c q : Int} {l k v : ByteArray} (h : rightB c q l k v = true) : rdReq (reqB c q l k v) = #[.agg (reqV c q l k v), .int .i64 0] := by
 obtain ⟨h1, h2, h3, h4, h5, h6, h7, h8, h9⟩ := right_parts h
 obtain ⟨f1, f2, f3, f4, f5⟩ := req_read c q l k v (by omega) (by omega) (by omega)
 have c1 : ((clip c : Nat) : Int) = c := by rw [clip_in (by omega) (by omega)]; omega
 have c2 : ((clip q : Nat) : Int) = q := by rw [clip_in (by omega) (by omega)]; omega
 unfold rdReq okReq
 rw [f1, f2, f3, f4, f5, c1, c2, h]
 simp
theorem okReq_right {b : ByteArray} (h : okReq b = true) : rightB (rqC b) (rqQ b) (rqL b) (rqK b) (rqV b) = true ∧ reqB (rqC b) (rqQ b) (rqL b) (rqK b) (rqV b) = b := by
 unfold okReq at h
 simpa using h

/-- a list that is written, and read -/
theorem rest_txts (ss : List ByteArray) (h : ∀ s ∈ ss, s.size ≤ 2147483647) : ∀ k, k ≤ ss.length → restT k (txts ss) = txts (ss.drop k) ∧ rdT k (txts ss) = ss.take k
 | 0, _ => ⟨rfl, rfl⟩
 | k + 1, hk => by
  obtain ⟨h1, h2⟩ := rest_txts ss h k (by omega)
  have hd : ss.drop k = ss[k] :: ss.drop (k + 1) := List.drop_eq_getElem_cons (by omega)
  have hs := h ss[k] (List.getElem_mem _)
  refine ⟨?_, ?_⟩
  · show txR (restT k (txts ss)) = _
    rw [h1, hd]
    exact txR_txt _ _ hs
  · show rdT k (txts ss) ++ [txF (restT k (txts ss))] = _
    rw [h1, h2, hd, List.take_succ_eq_append_getElem (by omega)]
    congr 2
    exact txF_txt _ _ hs
theorem list_read (ss : List ByteArray) (h : ∀ s ∈ ss, s.size ≤ 2147483647) (hn : ss.length ≤ 2147483647) : lsN (listB ss) = ss.length ∧ lsT (listB ss) = ss := by
 have e0' : cutR 1 (listB ss) = num4 ss.length ++ txts ss := by
  unfold listB
  rw [ByteArray.append_assoc, cut_right _ _ 1 rfl]
 have hN : lsN (listB ss) = ss.length := by
  unfold lsN
  rw [e0', nF_num, clip_in (by omega) (by omega)]
  omega
 have hS : lsS (listB ss) = txts ss := by unfold lsS; rw [e0', rest_num]
 refine ⟨hN, ?_⟩
 unfold lsT
 rw [hN, hS, (rest_txts ss h ss.length (Nat.le_refl _)).2, List.take_of_length_le (Nat.le_refl _)]
theorem okList_written (ss : List ByteArray) (h : ∀ s ∈ ss, s.size ≤ 2147483647) (hn : ss.length ≤ 2147483647) : okList (listB ss) = decide (ss.length ≤ 1000) := by
 obtain ⟨h1, h2⟩ := list_read ss h hn
 unfold okList
 rw [h1, h2]
 simp
end Go.Proofs.YtnbboabaihddbaaGreat
namespace Go.Proofs.YtnbboabaihddbaaGreat
open Go.RowKit

/-- a head's size and time as bytes -/
def ztB (h : Hd) : ByteArray := num4 h.z ++ num4 h.t
/-- a log's bytes -/
def expB (W : Wd) : ByteArray := ⟨#[83]⟩ ++ listB (W.tk.map reqQ) ++ listB (W.hd.map ztB)
/-- whether heads of these sizes and times may be cut of n requests -/
def riseH (n : Nat) (hs : List Hd) : Bool := decide (∀ i, i < hs.length → zN hs i < (hs.getD i default).z ∧ (hs.getD i default).z ≤ n ∧ tN hs i ≤ (hs.getD i default).t ∧ (hs.getD i default).t ≤ 2147483647)
/-- a head is cut for each that tells this length -/
def cutsE (hs : List Hd) (W : Wd) : Wd := hs.foldl (fun W h => if h.z = (W.tk.length : Int) then cutS W h.t else W) W
/-- the log behind the first i requests -/
def stE (l : List Req) (hs : List Hd) : Nat → Option Wd
 | 0 => some ⟨[], [], []⟩
 | i + 1 => match stE l hs i with
  | none => none
  | some W => if (askS W (l.getD i default)).tk.length = W.tk.length then none else some (cutsE hs (askS W (l.getD i default)))
/-- the log of requests and heads -/
def mkE (l : List Req) (hs : List Hd) : Option Wd := if riseH l.length hs then stE l hs l.length else none

theorem cutS_tk (W : Wd) (t : Int) : (cutS W t).tk = W.tk := rfl
theorem cutsE_tk : ∀ (hs : List Hd) (W : Wd), (cutsE hs W).tk = W.tk
 | [], _ => rfl
 | h :: r, W => by
  show (cutsE r (if h.z = (W.tk.length : Int) then cutS W h.t else W)).tk = _
  rw [cutsE_tk r]
  split <;> rfl
theorem cutsE_inv : ∀ (hs : List Hd) {W : Wd}, InvW W → InvW (cutsE hs W)
 | [], _, h => h
 | x :: r, W, h => by
  show InvW (cutsE r (if x.z = (W.tk.length : Int) then cutS W x.t else W))
  refine cutsE_inv r ?_
  split
  · exact h.cut x.t
  · exact h
theorem cutsE_none : ∀ (hs : List Hd) (W : Wd), (∀ h ∈ hs, h.z ≠ (W.tk.length : Int)) → cutsE hs W = W
 | [], _, _ => rfl
 | h :: r, W, hh => by
  show cutsE r (if h.z = (W.tk.length : Int) then cutS W h.t else W) = W
  rw [if_neg (hh h (by simp))]
  exact cutsE_none r W (fun x hx => hh x (by simp [hx]))
theorem cutsE_app (a b : List Hd) (W : Wd) : cutsE (a ++ b) W = cutsE b (cutsE a W) := by unfold cutsE; rw [List.foldl_append]
theorem cutsE_one (a b : List Hd) (h : Hd) (W : Wd) (ha : ∀ x ∈ a, x.z ≠ (W.tk.length : Int)) (hb : ∀ x ∈ b, x.z ≠ (W.tk.length : Int)) (hz : h.z = (W.tk.length : Int)) : cutsE (a ++ h :: b) W = cutS W h.t := by
 rw [cutsE_app, cutsE_none a W ha]
 show cutsE b (if h.z = (W.tk.length : Int) then cutS W h.t else W) = _
 rw [if_pos hz]
 exact cutsE_none b _ (fun x hx => by rw [cutS_tk]; exact hb x hx)
theorem cutsE_take (hs : List Hd) (W : Wd) {k : Nat} (hk : k < hs.length) : cutsE (hs.take (k + 1)) W = if (hs.getD k default).z = (W.tk.length : Int) then cutS (cutsE (hs.take k) W) (hs.getD k default).t else cutsE (hs.take k) W := by
 have e : hs.getD k default = hs[k] := by rw [List.getD_eq_getElem?_getD, List.getElem?_eq_getElem hk]; rfl
 rw [List.take_succ_eq_append_getElem hk, cutsE_app, e]
 show (if hs[k].z = ((cutsE (hs.take k) W).tk.length : Int) then _ else _) = _
 rw [cutsE_tk]
/-- heads that tell the same sizes and times -/
theorem cutsE_map (f : Hd → Hd) (hf : ∀ h, (f h).z = h.z ∧ (f h).t = h.t) : ∀ (hs : List Hd) (W : Wd), cutsE (hs.map f) W = cutsE hs W
 | [], _ => rfl
 | h :: r, W => by
  show cutsE (r.map f) (if (f h).z = (W.tk.length : Int) then cutS W (f h).t else W) = cutsE r (if h.z = (W.tk.length : Int) then cutS W h.t else W)
  rw [(hf h).1, (hf h).2]
  exact cutsE_map f hf r _
theorem cutsE_filter (p : Hd → Bool) (W : Wd) : ∀ (hs : List Hd), (∀ h ∈ hs, p h = false → h.z ≠ (W.tk.length : Int)) → cutsE (hs.filter p) W = cutsE hs W := by
 intro hs
 induction hs generalizing W with
 | nil => intro _; rfl
 | cons h r ih =>
  intro hh
  show _ = cutsE r (if h.z = (W.tk.length : Int) then cutS W h.t else W)
  cases hp : p h with
  | true =>
   rw [List.filter_cons_of_pos hp]
   show cutsE (r.filter p) (if h.z = (W.tk.length : Int) then cutS W h.t else W) = _
   refine ih _ (fun x hx hpx => ?_)
   have := hh x (by simp [hx]) hpx
   split <;> exact this
  | false =>
   rw [List.filter_cons_of_neg (by rw [hp]; decide), if_neg (hh h (by simp) hp)]
   exact ih W (fun x hx hpx => hh x (by simp [hx]) hpx)
/-- what a request that is taken makes -/
theorem askS_len (W : Wd) (r : Req) : (askS W r).tk.length ≠ W.tk.length → (askS W r).tk = W.tk ++ [r] ∧ (askS W r).hd = W.hd := by
 intro h
 rcases askW_cases W.tk W.rp W.hd.length r with ⟨e1, e2⟩ | ⟨_, _, _, _, e⟩
 · exact absurd (congrArg List.length e1) h
 · refine ⟨?_, rfl⟩
   show (askW W.tk W.rp W.hd.length r).1 = _
   rw [e]
theorem stE_inv (l : List Req) (hs : List Hd) : ∀ i {W : Wd}, i ≤ l.length → stE l hs i = some W → InvW W ∧ W.tk = l.take i
 | 0, W, _, h => by
  obtain rfl : (⟨[], [], []⟩ : Wd) = W := by injection h
  exact ⟨InvW.nil, rfl⟩
 | i + 1, W, hi, h => by
  unfold stE at h
  cases e : stE l hs i with
  | none => rw [e] at h; cases h
  | some V =>
   rw [e] at h
   obtain ⟨hV, ht⟩ := stE_inv l hs i (by omega) e
   dsimp only at h
   split at h
   · cases h
   · rename_i hne
     injection h with h
     subst h
     refine ⟨cutsE_inv hs (hV.ask _), ?_⟩
     rw [cutsE_tk, (askS_len _ _ hne).1, ht, List.take_succ_eq_append_getElem (by omega), List.getD_eq_getElem?_getD, List.getElem?_eq_getElem (by omega)]
     rfl
/-- the log hangs on the first requests, and on the heads that are cut of them -/
theorem stE_congr (l l' : List Req) (hs hs' : List Hd) : ∀ i, i ≤ l.length → i ≤ l'.length → l.take i = l'.take i → (∀ V : Wd, V.tk.length ≤ i → cutsE hs V = cutsE hs' V) → stE l hs i = stE l' hs' i
 | 0, _, _, _, _ => rfl
 | i + 1, h1, h2, ht, hc => by
  have ht' : l.take i = l'.take i := by
   have := congrArg (List.take i) ht
   rwa [List.take_take, List.take_take, Nat.min_eq_left (by omega)] at this
  have hg : l.getD i default = l'.getD i default := by
   have := congrArg (fun x => x[i]?) ht
   simp only [List.getElem?_take_of_lt (show i < i + 1 by omega)] at this
   rw [List.getD_eq_getElem?_getD, List.getD_eq_getElem?_getD, this]
  have ih := stE_congr l l' hs hs' i (by omega) (by omega) ht' (fun V hV => hc V (by omega))
  unfold stE
  rw [← ih, ← hg]
  cases e : stE l hs i with
  | none => rfl
  | some V =>
   dsimp only
   have hV := (stE_inv l hs i (by omega) e).2
   split
   · rfl
   · rename_i hne
     rw [hc _ (by rw [(askS_len _ _ hne).1, hV]; simp; omega)]
/-- all heads of a log tell at most its length -/
theorem InvW.zall {W : Wd} (h : InvW W) : ∀ x ∈ W.hd, x.z ≤ W.tk.length := by
 intro x hx
 obtain ⟨i, hi, rfl⟩ := List.getElem_of_mem hx
 have := h.size hi
 rw [List.getD_eq_getElem?_getD, List.getElem?_eq_getElem hi] at this
 exact this
/-- times up to the latest that has bytes -/
def TmW (W : Wd) : Prop := ∀ x ∈ W.hd, x.t ≤ 2147483647
theorem tN_le {hd : List Hd} (h : ∀ x ∈ hd, x.t ≤ 2147483647) : ∀ i, i ≤ hd.length → tN hd i ≤ 2147483647
 | 0, _ => by show (0 : Int) ≤ _; omega
 | i + 1, hi => by
  show (hd.getD i default).t ≤ _
  rw [List.getD_eq_getElem?_getD, List.getElem?_eq_getElem (by omega)]
  exact h _ (List.getElem_mem _)
theorem InvW.rise {W : Wd} (h : InvW W) (ht : TmW W) : riseH W.tk.length W.hd = true := by
 unfold riseH
 rw [decide_eq_true_iff]
 intro i hi
 have h1 := tN_le ht (i + 1) (by omega)
 exact ⟨h.hz i hi, h.size hi, h.ht i hi, h1⟩
theorem playW_tm : ∀ (n : Nat) (os : List OpR), os.length = n → (∀ x ∈ os, x.now ≤ 2147483647) → TmW (playW os)
 | 0, os, hn, _ => by
  obtain rfl : os = [] := List.length_eq_zero_iff.1 hn
  intro x hx; cases hx
 | n + 1, os, hn, hh => by
  obtain ⟨a, x, rfl⟩ := (List.eq_nil_or_concat os).resolve_left (by intro e; subst e; simp at hn)
  rw [List.concat_eq_append] at hn hh ⊢
  have ih := playW_tm n a (by simpa using hn) (fun y hy => hh y (by simp [hy]))
  rw [playW_snoc, stepW_eq]
  split
  · intro y hy
    unfold cutS cutW at hy
    dsimp only at hy
    split at hy
    · exact ih y hy
    · rcases List.mem_append.1 hy with hy | hy
      · exact ih y hy
      · obtain rfl := List.mem_singleton.1 hy
        have h1 := tN_le ih _ (Nat.le_refl _)
        have h2 := hh x (by simp)
        show max _ _ ≤ _
        omega
  · exact ih
/-- A LOG COMES AGAIN OF ITS OWN REQUESTS AND HEADS -/
theorem remake : ∀ (n : Nat) (os : List OpR), os.length = n → stE (playW os).tk (playW os).hd (playW os).tk.length = some (playW os)
 | 0, os, hn => by
  obtain rfl : os = [] := List.length_eq_zero_iff.1 hn
  rfl
 | n + 1, os, hn => by
  obtain ⟨a, x, rfl⟩ := (List.eq_nil_or_concat os).resolve_left (by intro e; subst e; simp at hn)
  rw [List.concat_eq_append] at hn ⊢
  have ih := remake n a (by simpa using hn)
  have hi := InvW.play a
  rw [playW_snoc, stepW_eq]
  generalize playW a = W at *
  split
  · -- a head is cut
    rename_i hc
    by_cases hz : (W.tk.length : Int) = zN W.hd W.hd.length
    · have e : cutS W x.now = W := by unfold cutS cutW; rw [if_pos hz]
      rw [e]
      exact ih
    · have e : cutS W x.now = ⟨W.tk, W.rp, W.hd ++ [headW W.tk W.hd x.now]⟩ := by unfold cutS cutW; rw [if_neg hz]
      rw [e]
      show stE W.tk (W.hd ++ [headW W.tk W.hd x.now]) W.tk.length = _
      have hpos : W.tk.length ≠ 0 := by
       intro h0
       refine hz ?_
       have := hi.heads
       have hl : W.hd.length = 0 := by omega
       rw [hl, h0]
       rfl
      obtain ⟨m, hm⟩ : ∃ m, W.tk.length = m + 1 := ⟨W.tk.length - 1, by omega⟩
      have hcg : stE W.tk (W.hd ++ [headW W.tk W.hd x.now]) m = stE W.tk W.hd m := by
       refine stE_congr _ _ _ _ m (by omega) (by omega) rfl (fun V hV => ?_)
       rw [cutsE_app]
       refine cutsE_none _ _ (fun y hy => ?_)
       obtain rfl := List.mem_singleton.1 hy
       rw [cutsE_tk]
       show (W.tk.length : Int) ≠ _
       omega
      rw [hm] at ih ⊢
      unfold stE at ih ⊢
      rw [hcg]
      cases e : stE W.tk W.hd m with
      | none => rw [e] at ih; cases ih
      | some V =>
       rw [e] at ih
       dsimp only at ih ⊢
       split at ih
       · cases ih
       · rename_i hne
         rw [if_neg hne]
         injection ih with ih
         rw [cutsE_app, ih]
         show some (if (W.tk.length : Int) = (W.tk.length : Int) then cutS W (max (tN W.hd W.hd.length) x.now) else W) = _
         rw [if_pos rfl]
         unfold cutS cutW
         rw [if_neg hz]
         have hmx : max (tN W.hd W.hd.length) (max (tN W.hd W.hd.length) x.now) = max (tN W.hd W.hd.length) x.now := by omega
         show some (⟨W.tk, W.rp, W.hd ++ [headW W.tk W.hd (max (tN W.hd W.hd.length) x.now)]⟩ : Wd) = _
         unfold headW
         rw [hmx]
  · -- a request is asked
    rcases askW_cases W.tk W.rp W.hd.length x.r with ⟨e1, e2⟩ | ⟨hr, _, _, _, e⟩
    · have e : askS W x.r = W := by unfold askS; rw [e1, e2]
      rw [e]
      exact ih
    · have e' : askS W x.r = ⟨W.tk ++ [x.r], W.rp ++ [⟨0, W.tk.length, (W.hd.length : Int) + 1⟩], W.hd⟩ := by unfold askS; rw [e]
      have hcg : stE (W.tk ++ [x.r]) W.hd W.tk.length = stE W.tk W.hd W.tk.length :=
       stE_congr _ _ _ _ _ (by simp) (Nat.le_refl _) (by rw [List.take_left, List.take_length]) (fun V _ => rfl)
      rw [e']
      show stE (W.tk ++ [x.r]) W.hd (W.tk ++ [x.r]).length = _
      rw [List.length_append]
      show stE (W.tk ++ [x.r]) W.hd (W.tk.length + 1) = _
      unfold stE
      rw [hcg, ih]
      dsimp only
      rw [getD_last, e']
      dsimp only
      rw [if_neg (by simp), cutsE_none]
      intro h hh
      have := hi.zall h hh
      show h.z ≠ ((W.tk ++ [x.r]).length : Int)
      rw [List.length_append]
      push_cast
      simp
      omega
/-- a log that is made of its own -/
def OwnW (W : Wd) : Prop := InvW W ∧ TmW W ∧ stE W.tk W.hd W.tk.length = some W
theorem OwnW.play (os : List OpR) (h : ∀ x ∈ os, x.now ≤ 2147483647) : OwnW (playW os) := ⟨InvW.play os, playW_tm _ os rfl h, remake _ os rfl⟩
theorem OwnW.mk {W : Wd} (h : OwnW W) : mkE W.tk W.hd = some W := by unfold mkE; rw [if_pos (h.1.rise h.2.1)]; exact h.2.2
/-- heads, with what is told of them alone -/
def barH (h : Hd) : Hd := ⟨0, h.z, h.t, ⟨#[]⟩, ⟨#[]⟩⟩
theorem getD_bar (hs : List Hd) (i : Nat) : ((hs.map barH).getD i default).z = (hs.getD i default).z ∧ ((hs.map barH).getD i default).t = (hs.getD i default).t := by
 rw [List.getD_eq_getElem?_getD, List.getD_eq_getElem?_getD, List.getElem?_map]
 cases hs[i]? <;> exact ⟨rfl, rfl⟩
theorem zN_bar (hs : List Hd) : ∀ i, zN (hs.map barH) i = zN hs i ∧ tN (hs.map barH) i = tN hs i
 | 0 => ⟨rfl, rfl⟩
 | i + 1 => getD_bar hs i
theorem mkE_bar (l : List Req) (hs : List Hd) : mkE l (hs.map barH) = mkE l hs := by
 have h1 : riseH l.length (hs.map barH) = riseH l.length hs := by
  unfold riseH
  simp only [List.length_map, (getD_bar hs _).1, (getD_bar hs _).2, (zN_bar hs _).1, (zN_bar hs _).2]
 unfold mkE
 rw [h1, stE_congr l l (hs.map barH) hs l.length (Nat.le_refl _) (Nat.le_refl _) rfl (fun V _ => cutsE_map barH (fun _ => ⟨rfl, rfl⟩) hs V)]
/-- the log behind fewer requests: its heads are those that tell at most so many -/
theorem stE_less (l : List Req) (hs : List Hd) : ∀ n {W : Wd}, n ≤ l.length → stE l hs n = some W → ∀ k, k ≤ n → ∃ V, stE l hs k = some V ∧ ∃ b, W.hd = V.hd ++ b ∧ ∀ x ∈ b, (k : Int) < x.z
 | 0, W, _, h, k, hk => by
  obtain rfl : k = 0 := by omega
  exact ⟨W, h, [], by simp, fun x hx => by cases hx⟩
 | n + 1, W, hn, h, k, hk => by
  by_cases e : k = n + 1
  · subst e
    exact ⟨W, h, [], by simp, fun x hx => by cases hx⟩
  · unfold stE at h
    cases e1 : stE l hs n with
    | none => rw [e1] at h; cases h
    | some U =>
     rw [e1] at h
     dsimp only at h
     split at h
     · cases h
     · rename_i hne
       injection h with h
       obtain ⟨V, hV, b, hb, hx⟩ := stE_less l hs n (by omega) e1 k (by omega)
       have hU := (stE_inv l hs n (by omega) e1).2
       obtain ⟨ht, hh⟩ := askS_len _ _ hne
       have key : ∀ (hs : List Hd) (X : Wd), X.tk.length = n + 1 → ∃ c, (cutsE hs X).hd = X.hd ++ c ∧ ∀ x ∈ c, x.z = ((n + 1 : Nat) : Int) := by
        intro hs
        induction hs with
        | nil => intro X _; exact ⟨[], by simp [cutsE], fun x hx => by cases hx⟩
        | cons y r ih =>
         intro X hX
         show ∃ c, (cutsE r (if y.z = (X.tk.length : Int) then cutS X y.t else X)).hd = _ ∧ _
         split
         · obtain ⟨c, h1, h2⟩ := ih (cutS X y.t) hX
           by_cases hq : (X.tk.length : Int) = zN X.hd X.hd.length
           · refine ⟨c, ?_, h2⟩
             rw [h1]
             unfold cutS cutW
             rw [if_pos hq]
           · refine ⟨headW X.tk X.hd y.t :: c, ?_, ?_⟩
             · rw [h1]
               unfold cutS cutW
               rw [if_neg hq]
               simp
             · intro x hx
               rcases List.mem_cons.1 hx with rfl | hx
               · show ((X.tk.length : Nat) : Int) = _
                 rw [hX]
               · exact h2 x hx
         · exact ih X hX
       obtain ⟨c, h1, h2⟩ := key hs (askS U (l.getD n default)) (by rw [ht, hU]; simp; omega)
       refine ⟨V, hV, b ++ c, ?_, fun x hx' => ?_⟩
       · rw [← h, h1, hh, hb, List.append_assoc]
       · rcases List.mem_append.1 hx' with q | q
         · exact hx x q
         · rw [h2 x q]; push_cast; omega
/-- A BEGINNING OF A LOG, WITH THE HEADS OF THAT -/
theorem begin_own {W : Wd} (h : OwnW W) {k : Nat} (hk : k ≤ W.tk.length) : ∃ V, mkE (W.tk.take k) (W.hd.filter fun x => decide (x.z ≤ (k : Int))) = some V ∧ V.tk.length = k ∧ V.hd = W.hd.filter fun x => decide (x.z ≤ (k : Int)) := by
 obtain ⟨hi, ht, hs⟩ := h
 obtain ⟨V, hV, b, hb, hx⟩ := stE_less W.tk W.hd _ (Nat.le_refl _) hs k hk
 obtain ⟨iV, tV⟩ := stE_inv W.tk W.hd k hk hV
 have hlen : V.tk.length = k := by rw [tV, List.length_take]; omega
 have hf : W.hd.filter (fun x => decide (x.z ≤ (k : Int))) = V.hd := by
  rw [hb, List.filter_append, List.filter_eq_self.2 (fun x hx' => by have := iV.zall x hx'; rw [decide_eq_true_iff]; omega), List.filter_eq_nil_iff.2 (fun x hx' => by have := hx x hx'; simp; omega), List.append_nil]
 refine ⟨V, ?_, hlen, hf.symm⟩
 have hr := iV.rise (fun x hx' => ht x (by rw [hb]; simp [hx']))
 unfold mkE
 rw [hf, show (W.tk.take k).length = k by rw [List.length_take]; omega]
 rw [hlen] at hr
 rw [if_pos hr, ← hf, ← hV]
 refine stE_congr _ _ _ _ k (by rw [List.length_take]; omega) hk (by rw [List.take_take, Nat.min_self]) (fun X hX => ?_)
 refine cutsE_filter _ X _ (fun y _ hy => ?_)
 have := of_decide_eq_false hy
 omega
def zReq5 : Array Value := #[.int .i64 0, .int .i64 0, .string ⟨#[]⟩, .string ⟨#[]⟩, .string ⟨#[]⟩]
theorem info5r : (Tryz.prog.info? 58).map (·.size) = some 5 := by kernel_rfl
theorem req_one (a b : Int) (c d e : ByteArray) : ((#[.int .i64 a, .int .i64 b, .string c, .string d, .string e] : Array Value).all fun x => x.oneCell') = true := by simp [Value.oneCell']
end Go.Proofs.YtnbboabaihddbaaGreat
