/-
 read: the requests and heads that stand in bytes.
-/
import Derived.Test.YtnbboabaihddbaaGreatEReadM
import Derived.Test.YtnbboabaihddbaaGreatECut
import Derived.Test.YtnbboabaihddbaaGreatWReadWReadL
import Derived.Test.YtnbboabaihddbaaGreatEExpYFirst
namespace Go.Proofs.YtnbboabaihddbaaGreat
open Go.RowKit

/-- heads that the texts tell -/
def HdsOf (ss : List ByteArray) (hs : List Hd) : Prop := hs.length = ss.length ∧ ∀ i (h1 : i < hs.length) (h2 : i < ss.length), hdOf ss[i] hs[i]
theorem HdsOf.nil : HdsOf [] [] := ⟨rfl, fun i h => absurd h (by simp)⟩
theorem HdsOf.snoc {ss : List ByteArray} {hs : List Hd} {s : ByteArray} {h : Hd} (k : HdsOf ss hs) (hd : hdOf s h) : HdsOf (ss ++ [s]) (hs ++ [h]) := by
 obtain ⟨k1, k2⟩ := k
 refine ⟨by simp [k1], fun i h1 h2 => ?_⟩
 by_cases hi : i < hs.length
 · rw [List.getElem_append_left hi, List.getElem_append_left (by omega)]
   exact k2 i hi (by omega)
 · obtain rfl : i = hs.length := by simp at h1; omega
   rw [List.getElem_append_right (Nat.le_refl _), List.getElem_append_right (by omega)]
   simpa [k1] using hd
/-- what read answers -/
def RdE (b : ByteArray) (w : World) (e : Ending) (w' : World) : Prop :=
 ((okE b = false ∧ e = .returned (.tuple #[.slice none 0 0, .slice none 0 0, .bool false])) ∨
  (okE b = true ∧ ∃ v1 v2 hs, e = .returned (.tuple #[v1, v2, .bool true]) ∧ OwnG reqK w' w.heap.size v1 ((lsT (b1E b)).map rqE) ∧ OwnG hdK w' w.heap.size v2 hs ∧ HdsOf (lsT (b2E b)) hs)) ∧ Below w.heap.size w w'
theorem reqV_enc (c q : Int) (l k v : ByteArray) : reqV c q l k v = (Req.enc ⟨c, q, l, k, v⟩).toArray := rfl
theorem rdReq_rq {x : ByteArray} (h : okReq x = true) : rdReq x = #[.agg (rqE x).enc.toArray, .int .i64 0] := by
 unfold rdReq rqE
 rw [if_pos h, reqV_enc]
theorem rdReq_no {x : ByteArray} (h : okReq x = false) : rdReq x = #[.agg zReq5, .int .i64 2] := by
 unfold rdReq
 rw [if_neg (by rw [h]; decide)]
 rfl
section
attribute [-go_sem] loadVar
set_option maxRecDepth 100000 in
set_option maxHeartbeats 4000000 in
theorem eread_any (b : ByteArray) (hb : b.size ≤ 268435456) (w : World) : Calls Tryz.prog 34 #[.string b] w (RdE b w) := by
 obtain ⟨s1, s2⟩ := b12_size b
 have s0 := rsE_size 1 b
 have H1 := Lib.hid (fun X => ecut_any 1 b (by omega) (by omega) X)
 have H2 := Lib.hid (fun X => ecutList_any (rsE 1 b) (by omega) X)
 have H3 := Lib.hid (fun X => readList_any (b1E b) (by omega) X)
 have H4 := Lib.hid (fun X => readList_any (b2E b) (by omega) X)
 change Hid (∀ X, Calls Tryz.prog 59 _ X fun e w' => e = .returned (.tuple #[.string (b1E b), .string (b2E b)]) ∧ _) at H2
 have HR3 := Lib.hid (show ∀ X e w', RL (b1E b) X e w' = ∃ oa n cap ss, e = .returned (.tuple #[.slice oa n cap, .int .i64 (if okList (b1E b) then 0 else 2)]) ∧ ss.length = n ∧ (ss = if okList (b1E b) then lsT (b1E b) else []) ∧ Strs w' oa ss ∧ Below X.heap.size X w' from fun _ _ _ => rfl)
 have HR4 := Lib.hid (show ∀ X e w', RL (b2E b) X e w' = ∃ oa n cap ss, e = .returned (.tuple #[.slice oa n cap, .int .i64 (if okList (b2E b) then 0 else 2)]) ∧ ss.length = n ∧ (ss = if okList (b2E b) then lsT (b2E b) else []) ∧ Strs w' oa ss ∧ Below X.heap.size X w' from fun _ _ _ => rfl)
 have HRD := Lib.hid (show ∀ e w', RdE b w e w' = (((okE b = false ∧ e = .returned (.tuple #[.slice none 0 0, .slice none 0 0, .bool false])) ∨
  (okE b = true ∧ ∃ v1 v2 hs, e = .returned (.tuple #[v1, v2, .bool true]) ∧ OwnG reqK w' w.heap.size v1 ((lsT (b1E b)).map rqE) ∧ OwnG hdK w' w.heap.size v2 hs ∧ HdsOf (lsT (b2E b)) hs)) ∧ Below w.heap.size w w') from fun _ _ => rfl)
 have HOK := Lib.hid (show okE b = (okList (b1E b) && (okList (b2E b) && (lsT (b1E b)).all okReq)) from rfl)
 have HN1 : Hid (okList (b1E b) = true → (lsT (b1E b)).length ≤ 1000) := Lib.hid fun h => by
  unfold okList at h
  rw [Bool.and_eq_true, decide_eq_true_iff] at h
  unfold lsT
  rw [rdT_length]
  exact h.1
 have HN2 : Hid (okList (b2E b) = true → (lsT (b2E b)).length ≤ 1000) := Lib.hid fun h => by
  unfold okList at h
  rw [Bool.and_eq_true, decide_eq_true_iff] at h
  unfold lsT
  rw [rdT_length]
  exact h.1
 have hrd : ∀ (s : ByteArray) (k : Nat), (∀ x ∈ rdT k s, x.size ≤ s.size) := fun s k => by
  induction k with
  | zero => intro x hx; cases hx
  | succ k ih =>
   intro x hx
   rcases List.mem_append.1 hx with hx | hx
   · exact ih x hx
   · obtain rfl := List.mem_singleton.1 hx
     exact Nat.le_trans (txF_size _) (restT_size _ _)
 have HZ1 : Hid (∀ x ∈ lsT (b1E b), x.size ≤ 268435456) := Lib.hid fun x hx => by
  have := hrd _ _ x hx
  have := lsS_size (b1E b)
  omega
 have HZ2 : Hid (∀ x ∈ lsT (b2E b), x.size ≤ 268435456) := Lib.hid fun x hx => by
  have := hrd _ _ x hx
  have := lsS_size (b2E b)
  omega
 clear hrd s0 s1 s2
 generalize RdE b w = PO at *
 generalize okE b = OK at *
 generalize RL (b1E b) = RL1 at *
 generalize RL (b2E b) = RL2 at *
 generalize lsT (b1E b) = TA at *
 generalize lsT (b2E b) = TB at *
 generalize okList (b1E b) = O1 at *
 generalize okList (b2E b) = O2 at *
 generalize b1E b = B1 at *
 generalize b2E b = B2 at *
 generalize rsE 1 b = x1 at *
 generalize frE 1 b = x0 at *
 go_enter Tryz.func34, Tryz.ntmps34
 go_wp2_with fail
 refine (H1.out _).mono ?_
 rintro e w1 ⟨rfl, hb1⟩
 go_wp2_with fail
 refine (H2.out _).mono ?_
 rintro e w2 ⟨rfl, hb2⟩
 have hb3 := hb1.trans (hb2.mono hb1.size)
 clear hb1 hb2 H1 H2
 go_wp2_with fail
 refine (H3.out _).mono ?_
 rintro e w3 he
 rw [HR3.out] at he
 obtain ⟨oa, n, ca, ss, rfl, hn, hss, hst, hb4⟩ := he
 have hb5 := hb3.trans (hb4.mono hb3.size)
 clear hb3 hb4 H3 HR3
 cases O1 with
 | false =>
  have HO := Lib.hid (show OK = false by rw [HOK.out]; rfl)
  clear hss hn hst HOK
  go_wp2_with fail
  go_ret3
  rw [HRD.out]
  exact ⟨.inl ⟨HO.out, rfl⟩, hb5⟩
 | true =>
  replace hss : ss = TA := hss
  subst hss
  have hn3 := HN1.out rfl
  go_wp2_with fail
  refine (H4.out _).mono ?_
  rintro e w4 he
  rw [HR4.out] at he
  obtain ⟨ob, m, cb, sb, rfl, hm, hsb, hst2, hb6⟩ := he
  have hb7 := hb5.trans (hb6.mono hb5.size)
  have hst1 := hst.below hb6
  clear hb5 hb6 H4 HR4 hst HN1
  cases O2 with
  | false =>
   have HO := Lib.hid (show OK = false by rw [HOK.out]; rfl)
   clear hsb hm hst2 HOK
   go_wp2_with fail
   go_ret3
   rw [HRD.out]
   exact ⟨.inl ⟨HO.out, rfl⟩, hb7⟩
  | true =>
   replace hsb : sb = TB := hsb
   subst hsb
   have hm3 := HN2.out rfl
   have HOK2 := Lib.hid (show OK = ss.all okReq by rw [HOK.out]; rfl)
   have HS1 := Lib.hid hst1
   have HS2 := Lib.hid hst2
   have HNN := Lib.hid hn
   have HMM := Lib.hid hm
   have HBB := Lib.hid hb7
   clear HN2 HOK hst1 hst2
   have HF0 := Lib.hid (show (ss.take 0).map rqE = [] from rfl)
   have HFL := Lib.hid (show ∀ k, k ≤ n → ((ss.take k).map rqE).length = k from fun k hk => by rw [List.length_map, List.length_take]; omega)
   have HFN : Hid ((fun k => (ss.take k).map rqE) n = ss.map rqE) := Lib.hid (by show (ss.take n).map rqE = _; rw [← hn, List.take_length])
   have HFS : Hid (∀ k (h : k < ss.length), (ss.take (k + 1)).map rqE = (ss.take k).map rqE ++ [rqE ss[k]]) := Lib.hid fun k h => by
    rw [List.take_succ_eq_append_getElem h, List.map_append]
    rfl
   generalize hF : (fun k => (ss.take k).map rqE) = F at *
   have hF' : ∀ k, (ss.take k).map rqE = F k := fun k => by rw [← hF]
   simp only [hF'] at HF0 HFS HFL
   clear hF hF'
   have hnn : n ≤ 1000 := by omega
   have hmm : m ≤ 1000 := by omega
   go_wp2_with fail
   go_loopw [2, 3, 46] (fun v h i wr => ∃ k : Nat, k ≤ n ∧ i = .int .i64 k ∧ h = .slice none 0 0 ∧ OwnG reqK wr w4.heap.size v (F k) ∧ Hid ((ss.take k).all okReq = true) ∧ Below w4.heap.size w4 wr) (fun _ _ i _ => n - (intOf i).toNat)
   case atStart => exact ⟨0, by omega, rfl, rfl, by rw [HF0.out]; exact ownG_nil _ _, Lib.hid rfl, Below.refl _ _⟩
   case round =>
    clear hb7 hn hm
    obtain ⟨k, hk, rfl, rfl, hown, HA, hB⟩ := hrel
    by_cases hlt : k < n
    · have hlt' : (k : Int) < (n : Int) := by omega
      have hkl : k < ss.length := by have := HNN.out; omega
      obtain ⟨a, rfl, hab, hc0⟩ := HS1.out k hkl
      have hc : wr.cell? (a.add k) = some (.string (ss.getD k ByteArray.empty)) := (hB.cell (by rw [add_block]; exact hab)).trans hc0
      have hge : ss.getD k ByteArray.empty = ss[k] := by rw [List.getD_eq_getElem?_getD, List.getElem?_eq_getElem hkl]; rfl
      rw [hge] at hc
      have hz := HZ1.out ss[k] (List.getElem_mem _)
      have hrr := fun X => readRequest_any ss[k] (by omega) X
      have HTK := Lib.hid (show ss.take (k + 1) = ss.take k ++ [ss[k]] from List.take_succ_eq_append_getElem hkl)
      have HFK := Lib.hid (HFS.out k hkl)
      have HTL := Lib.hid (HFL.out k hk)
      have HMEM := Lib.hid (List.getElem_mem (l := ss) hkl)
      have hl0 := txt_load hc
      generalize ss[k] = x at *
      clear hc0 hge hkl
      cases hok : okReq x with
      | false =>
       have hrv := rdReq_no hok
       have HX := Lib.hid hrr
       rw [hrv] at HX
       have HO : Hid (OK = false) := Lib.hid (by
        rw [HOK2.out, List.all_eq_false]
        exact ⟨x, HMEM.out, by rw [hok]; decide⟩)
       have HX : Hid (∀ X, Calls Tryz.prog 61 #[.string x] X fun e w' => e = .returned (.tuple #[.agg zReq5, .int .i64 2]) ∧ Below X.heap.size X w') := HX
       clear hrr hrv
       go_wp2_with fail
       refine (HX.out _).mono ?_
       rintro e w5 ⟨rfl, hb8⟩
       have hB5 := hB.trans (hb8.mono hB.size)
       have zq : ∀ W : World, (zeroValue 58).run Tryz.prog W = .ok (.agg zReq5) W := fun W => by kernel_rfl
       have hb9 := HBB.out.trans ((hB5.alloc hB5.size (.cells zReq5 58)).mono HBB.out.size)
       clear hown hB hb8 hl0 HX
       go_wp2_with (first
        | (refine wpList_store_row rfl 58 _ _ rfl w5.heap.size zReq5 rfl rfl 58 zReq5 (Blk.new _ _ _) info5r rfl (req_one _ _ _ _ _) ?_; rw [World.setRow_alloc_new]))
       go_ret3
       rw [HRD.out]
       exact ⟨.inl ⟨HO.out, rfl⟩, hb9⟩
      | true =>
       have hrv := rdReq_rq hok
       have HX := Lib.hid hrr
       rw [hrv] at HX
       clear hrr hrv
       obtain ⟨R, hR⟩ : ∃ R, rqE x = R := ⟨_, rfl⟩
       rw [hR] at HX
       rw [hR] at HFK
       clear hR
       obtain ⟨rc, rq, rl, rk, rv⟩ := R
       change Hid (∀ X, Calls Tryz.prog 61 _ X fun e w' => e = .returned (.tuple #[.agg #[.int .i64 rc, .int .i64 rq, .string rl, .string rk, .string rv], .int .i64 0]) ∧ _) at HX
       go_wp2_with fail
       refine (HX.out _).mono ?_
       rintro e w5 ⟨rfl, hb8⟩
       have hown5 := hown.below hb8
       have hB5 := hB.trans (hb8.mono hB.size)
       obtain ⟨w6, hw6⟩ : ∃ w6, w5.alloc (.cells #[.int .i64 rc, .int .i64 rq, .string rl, .string rk, .string rv] 58) = w6 := ⟨_, rfl⟩
       have hb9 : Below w5.heap.size w5 w6 := by rw [← hw6]; exact (Below.refl _ w5).alloc (Nat.le_refl _) _
       have k9 : Blk w6 w5.heap.size 58 #[.int .i64 rc, .int .i64 rq, .string rl, .string rk, .string rv] := by rw [← hw6]; exact Blk.new _ _ _
       have hown6 := hown5.below hb9
       have hB6 := hB5.trans (hb9.mono hB5.size)
       have d1 := req_load5 k9
       have HW6 := Lib.hid hw6
       obtain ⟨g9, hg9⟩ : ∃ g9, w5.heap.size = g9 := ⟨_, rfl⟩
       have HG9 := Lib.hid hg9
       rw [hg9] at d1
       have zq : ∀ W : World, (zeroValue 58).run Tryz.prog W = .ok (.agg zReq5) W := fun W => by kernel_rfl
       clear hown hB hb8 hb9 hown5 hB5 k9 hw6 hg9 hl0 HX
       go_wp2_with (first
        | (refine wpList_store_row rfl 58 _ _ rfl w5.heap.size #[.int .i64 rc, .int .i64 rq, .string rl, .string rk, .string rv] rfl rfl 58 zReq5 (Blk.new _ _ _) info5r rfl (req_one _ _ _ _ _) ?_; rw [World.setRow_alloc_new, HW6.out, HG9.out])
        | rw [HW6.out, HG9.out]
        | (at_builtin; refine wpList_append_g reqOk rfl _ _ rfl w4.heap.size u2 (F k) rfl hown6 ⟨rc, rq, rl, rk, rv⟩ rfl (by rw [HTL.out]; omega) hB6.size ?_))
       intro g5 c5 w7 hown7 hg7 _
       have hB7 := hB6.grown hg7 hB6.size (fun z hz => (World.ownsRow.lt hown6 z hz).1)
       rw [HTL.out, ← HFK.out] at hown7
       rw [HTL.out]
       have HA7 : Hid ((ss.take (k + 1)).all okReq = true) := Lib.hid (by rw [HTK.out, List.all_append, HA.out]; simp [hok])
       clear hown6 hB6 hg7 d1 hok HA hc
       go_wp2
       go_roundw
       case rel => exact ⟨k + 1, by omega, by go_num, rfl, hown7, HA7, hB7⟩
       case measure => simp [intOf]; omega
    · obtain rfl : n = k := by omega
      have hltN : ¬ (n : Int) < (n : Int) := by omega
      have HO : Hid (OK = true) := Lib.hid (by
       rw [HOK2.out, ← HA.out, List.take_of_length_le (by rw [HNN.out]; omega)])
      have hst2 := HS2.out.below hB
      rw [HFN.out] at hown
      have HB4 := Lib.hid (HBB.out.trans (hB.mono HBB.out.size))
      have HOW1 := Lib.hid (hown.mono HBB.out.size)
      clear hlt hB HFS HF0 HFL HFN HOK2 HS1 HS2 HZ1 HNN HA hown HBB
      generalize wr = wo at *
      have HS2 := Lib.hid hst2
      clear hst2
      go_wp2_with fail
      go_loopw [3, 64] (fun v i wr => ∃ k : Nat, ∃ hs : List Hd, k ≤ m ∧ i = .int .i64 k ∧ OwnG hdK wr wo.heap.size v hs ∧ Hid (HdsOf (sb.take k) hs) ∧ Below wo.heap.size wo wr) (fun _ i _ => m - (intOf i).toNat)
      case atStart => exact ⟨0, [], by omega, rfl, ownG_nil _ _, Lib.hid HdsOf.nil, Below.refl _ _⟩
      case round =>
       obtain ⟨k, hs, hk, rfl, hown, HA, hB⟩ := hrel
       by_cases hlt : k < m
       · have hlt' : (k : Int) < (m : Int) := by omega
         have hkl : k < sb.length := by have := HMM.out; omega
         obtain ⟨a, rfl, hab, hc0⟩ := HS2.out k hkl
         have hc : wr.cell? (a.add k) = some (.string (sb.getD k ByteArray.empty)) := (hB.cell (by rw [add_block]; exact hab)).trans hc0
         have hge : sb.getD k ByteArray.empty = sb[k] := by rw [List.getD_eq_getElem?_getD, List.getElem?_eq_getElem hkl]; rfl
         rw [hge] at hc
         have hz := HZ2.out sb[k] (List.getElem_mem _)
         have HTK := Lib.hid (show sb.take (k + 1) = sb.take k ++ [sb[k]] from List.take_succ_eq_append_getElem hkl)
         have HTL : Hid (hs.length = k) := Lib.hid (by rw [HA.out.1, List.length_take]; omega)
         have hl0 := txt_load hc
         generalize sb[k] = x at *
         have f4 := frE_size 4 x
         have r4 := rsE_size 4 x
         have H6 := Lib.hid (fun X => ecut_any 4 x (by omega) (by omega) X)
         have H7 := Lib.hid (fun X => enumber_any (frE 4 x) (by omega) X)
         have H8 := Lib.hid (fun X => enumber_any (rsE 4 x) (by omega) X)
         change Hid (∀ X, Calls Tryz.prog 62 _ X fun e w' => ∃ v : Int, e = .returned (.int .i64 v) ∧ _ ∧ (_ → v = (numV (frE 4 x) : Nat)) ∧ Below X.heap.size X w') at H7
         change Hid (∀ X, Calls Tryz.prog 62 _ X fun e w' => ∃ v : Int, e = .returned (.int .i64 v) ∧ _ ∧ (_ → v = (numV (rsE 4 x) : Nat)) ∧ Below X.heap.size X w') at H8
         clear hc0 hge hkl hc
         go_wp2_with fail
         refine (H6.out _).mono ?_
         rintro e w5 ⟨rfl, hb5⟩
         have hown5 := hown.below hb5
         have hB5 := hB.trans (hb5.mono hB.size)
         clear hown hB hb5 hl0 H6
         go_wp2_with fail
         refine (H7.out _).mono ?_
         rintro e w6 ⟨v1, rfl, hv1b, hv1, hb6⟩
         have hown6 := hown5.below hb6
         have hB6 := hB5.trans (hb6.mono hB5.size)
         clear hown5 hB5 hb6 H7
         go_wp2_with fail
         refine (H8.out _).mono ?_
         rintro e w7 ⟨v2, rfl, hv2b, hv2, hb7⟩
         have hown7 := hown6.below hb7
         have hB7 := hB6.trans (hb7.mono hB6.size)
         clear hown6 hB6 hb7 H8
         have HH : Hid (hdOf x ⟨0, v1, v2, ⟨#[]⟩, ⟨#[]⟩⟩) := Lib.hid ⟨rfl, rfl, rfl, fun h8 => ⟨hv1 (by omega), hv2 (by omega)⟩⟩
         clear hv1 hv2
         go_wp2_with (at_builtin; refine wpList_append_g hdOk rfl _ _ rfl wo.heap.size u3 hs rfl hown7 ⟨0, v1, v2, ⟨#[]⟩, ⟨#[]⟩⟩ rfl (by rw [HTL.out]; omega) hB7.size ?_)
         intro g8 c8 w8 hown8 hg8 _
         have hB8 := hB7.grown hg8 hB7.size (fun z hz => (World.ownsRow.lt hown7 z hz).1)
         rw [HTL.out] at hown8
         rw [HTL.out]
         have HA8 := Lib.hid (HA.out.snoc HH.out)
         rw [← HTK.out] at HA8
         clear hown7 hB7 hg8 HA
         go_wp2
         go_roundw
         case rel => exact ⟨k + 1, _, by omega, by go_num, hown8, HA8, hB8⟩
         case measure => simp [intOf]; omega
       · obtain rfl : m = k := by omega
         have hltM : ¬ (m : Int) < (m : Int) := by omega
         have HH := HA.out
         rw [List.take_of_length_le (by rw [HMM.out]; omega)] at HH
         have HHH := Lib.hid HH
         have hb9 := HB4.out.trans (hB.mono HB4.out.size)
         have hown9 := HOW1.out.below hB
         have hown10 := hown.mono HB4.out.size
         clear hlt HH HA hown hB
         go_wp2_with fail
         go_ret3
         rw [HRD.out]
         exact ⟨.inr ⟨HO.out, _, _, hs, rfl, hown9, hown10, HHH.out⟩, hb9⟩
end
end Go.Proofs.YtnbboabaihddbaaGreat
