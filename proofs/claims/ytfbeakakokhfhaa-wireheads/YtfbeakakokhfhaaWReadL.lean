/-
  Lists that are read.
-/
import Derived.Test.YtfbeakakokhfhaaWList2
import Derived.Test.YtfbeakakokhfhaaWRead
namespace Go.Proofs.Ytfbeakakokhfhaa
open Go.RowKit

/-- what is left behind k texts; these texts -/
def restT : Nat → ByteArray → ByteArray
  | 0, s => s
  | k + 1, s => txR (restT k s)
def rdT : Nat → ByteArray → List ByteArray
  | 0, _ => []
  | k + 1, s => rdT k s ++ [txF (restT k s)]
theorem restT_size (s : ByteArray) : ∀ k, (restT k s).size ≤ s.size
  | 0 => Nat.le_refl _
  | k + 1 => Nat.le_trans (txR_size _) (restT_size s k)
theorem rdT_length (s : ByteArray) : ∀ k, (rdT k s).length = k
  | 0 => rfl
  | k + 1 => by rw [rdT, List.length_append, rdT_length s k]; rfl
theorem rdT_txts (s : ByteArray) : ∀ k, (txts (rdT k s)).size ≤ k * (4 + s.size)
  | 0 => Nat.zero_le _
  | k + 1 => by
    have h1 := rdT_txts s k
    have h2 := Nat.le_trans (txF_size (restT k s)) (restT_size s k)
    rw [rdT, txts_append, ByteArray.size_append, show txts [txF (restT k s)] = txt (txF (restT k s)) ++ ⟨#[]⟩ from rfl, append_empty, txt_size, Nat.add_mul]
    omega
/-- how many texts b says it has, and what stands behind that -/
def lsN (b : ByteArray) : Nat := nF (cutR 1 b)
def lsS (b : ByteArray) : ByteArray := cutR 4 (cutR 1 b)
def lsT (b : ByteArray) : List ByteArray := rdT (lsN b) (lsS b)
def okList (b : ByteArray) : Bool := decide (lsN b ≤ 1000) && decide (listB (lsT b) = b)
theorem lsS_size (b : ByteArray) : (lsS b).size ≤ b.size := Nat.le_trans (cutR_size _ _) (cutR_size _ _)
/-- what ReadList answers -/
def RL (b : ByteArray) (w : World) (e : Ending) (w' : World) : Prop :=
  ∃ oa n cap ss, e = .returned (.tuple #[.slice oa n cap, .int .i64 (if okList b then 0 else 2)]) ∧ ss.length = n ∧ (ss = if okList b then lsT b else []) ∧ Strs w' oa ss ∧ Below w.heap.size w w'

theorem strInfo : (Try.prog.info? 9).map (fun i => (i.zero, i.size, i.bytes)) = some (some (.string ⟨#[]⟩), 1, 16) := by kernel_rfl
/-- a slice of texts that the call made -/
def Own (w : World) (B : Nat) (v : Value) (ss : List ByteArray) : Prop := w.ownsRow B 9 1 v ss.length (ss.map .string)
theorem Own.form {w : World} {B : Nat} {v : Value} {ss : List ByteArray} (h : Own w B v ss) : ∃ oa cap, v = .slice oa ss.length cap ∧ Strs w oa ss := by
  have h0 := h
  rcases h.2 with ⟨rfl, hn⟩ | ⟨g, cap, cur, rfl, hg, hk, hc1, hc2, hc3, hc4⟩
  · exact ⟨none, 0, by rw [hn], fun i hi => absurd hi (by omega)⟩
  · refine ⟨some ⟨g, 0, none⟩, cap, rfl, fun i hi => ⟨_, rfl, (show Blk w g 9 cur from hk).lt, ?_⟩⟩
    have := World.ownsRow.cells h0 (g := g) rfl i (.string (ss.getD i ByteArray.empty)) (by rw [List.getElem?_map, List.getElem?_eq_getElem hi, List.getD_eq_getElem?_getD, List.getElem?_eq_getElem hi]; rfl)
    exact this
theorem own_nil (w : World) (B : Nat) : Own w B (.slice none 0 0) [] := ⟨rfl, .inl ⟨rfl, rfl⟩⟩

set_option maxRecDepth 100000 in
set_option maxHeartbeats 2000000 in
theorem readList_any (b : ByteArray) (hb : b.size ≤ 268435456) (w : World) : Calls Try.prog 20 #[.string b] w (RL b w) := by
  have hsS := lsS_size b
  have hc1 := cutR_size 1 b
  have H0 := Lib.hid (fun g W hW => cut_any 1 g b (by omega) W hW)
  have H1 := Lib.hid (fun g W hW => cutNumber_any' g (cutR 1 b) (by omega) W hW)
  change Hid (∀ g W, Cut W g (cutR 1 b) → Calls Try.prog 26 _ W fun e w' => e = .returned (.int .i64 (lsN b : Nat)) ∧ Cut w' g (lsS b) ∧ _) at H1
  have HT := Lib.hid (show lsT b = rdT (lsN b) (lsS b) from rfl)
  have HK := Lib.hid (show okList b = (decide (lsN b ≤ 1000) && decide (listB (lsT b) = b)) from rfl)
  have HRL := Lib.hid (show ∀ e w', RL b w e w' = ∃ oa n cap ss, e = .returned (.tuple #[.slice oa n cap, .int .i64 (if okList b then 0 else 2)]) ∧ ss.length = n ∧ (ss = if okList b then lsT b else []) ∧ Strs w' oa ss ∧ Below w.heap.size w w' from fun _ _ => rfl)
  generalize okList b = OK at *
  generalize lsT b = TT at *
  generalize lsN b = n at *
  generalize lsS b = s at *
  generalize RL b w = PO at *
  go_enter Try.func20, Try.ntmps20
  go_wp2_with fail
  refine (cutter_any b _).mono ?_
  rintro e w1 ⟨rfl, hcu, hB1⟩
  obtain ⟨g, hg⟩ : ∃ g, w.heap.size = g := ⟨_, rfl⟩
  rw [hg] at hcu hB1 ⊢
  have HG := Lib.hid hg
  clear hg
  go_wp2_with fail
  refine (H0.out _ _ hcu).mono ?_
  rintro e w2 ⟨rfl, hcu2, hg2⟩
  have hB2 := hB1.grown hg2 (by have := hB1.size; have := HG.out; omega) (fun j hj => by injection hj; omega)
  clear hcu hB1 hg2
  go_wp2_with fail
  refine (H1.out _ _ hcu2).mono ?_
  rintro e w3 ⟨rfl, hcu3, hg3⟩
  have hB3 := hB2.grown hg3 (by have := hB2.size; have := HG.out; omega) (fun j hj => by injection hj; omega)
  clear hcu2 hB2 hg3 H0 H1
  by_cases hn : n ≤ 1000
  · have hn' : ¬ (1000 : Int) < (n : Int) := by omega
    have HVF := Lib.hid (show OK = decide (listB TT = b) by rw [HK.out]; simp [hn])
    obtain ⟨i0, hi, hz0, hz1, hz2⟩ := info_parts strInfo
    go_wp2
    go_loopw [6, 16] (fun t i wr => ∃ k : Nat, k ≤ n ∧ i = .int .i64 k ∧ Own wr (g + 1) t (rdT k s) ∧ Cut wr g (restT k s) ∧ Below g w wr) (fun _ i _ => n - (intOf i).toNat)
    case atStart => exact ⟨0, by omega, rfl, own_nil _ _, hcu3, hB3⟩
    case round =>
      clear hcu3 hB3
      obtain ⟨k, hk, rfl, hown, hcu, hB⟩ := hrel
      have hgs : g < wr.heap.size := hcu.lt
      by_cases hlt : k < n
      · have hlt' : (k : Int) < (n : Int) := by omega
        have hrs := restT_size s k
        have HX := Lib.hid (fun W hW => cutText_any' g (restT k s) (by omega) W hW)
        have HR1 := Lib.hid (show restT (k + 1) s = txR (restT k s) from rfl)
        have HR2 := Lib.hid (show rdT (k + 1) s = rdT k s ++ [txF (restT k s)] from rfl)
        have HLN := Lib.hid (rdT_length s k)
        generalize txF (restT k s) = x at *
        rw [← HR1.out] at HX
        clear hrs HR1
        go_wp2_with fail
        refine (HX.out _ hcu).mono ?_
        rintro e w5 ⟨rfl, hcu5, hg5⟩
        have hown5 : Own w5 (g + 1) u6 (rdT k s) := World.ownsRow.kept hown hg5 (.inr (fun h => by have := (World.ownsRow.lt hown g h).1; omega))
        have hB5 := hB.grown hg5 (by have := hB.size; have := HG.out; omega) (fun j hj => by injection hj; omega)
        clear hown hcu hB hg5 hgs HX
        go_wp2_with (at_builtin; refine wpList_append_own _ rfl _ _ 39 rfl (g + 1) 9 i0 (.string ⟨#[]⟩) 1 16 Try.underlying39 hi hz0 hz1 hz2 rfl (by decide) _ _ _ rfl (hown5.alloc _) ⟨w5.heap.size, 0, none⟩ 1 1 [.string x] rfl rfl ?c1 ?c2 ?c3 ?c4 ?c5 ?_)
        case c1 => exact cell_one_new w5 (.string x) 9
        case c2 => intro u hu; simp at hu; subst hu; rfl
        case c3 => have := HLN.out; unfold maxLen; omega
        case c4 => have := HLN.out; omega
        case c5 => have := hcu5.lt; simp; omega
        intro v6 w6 hown6 hg6 _
        have hcu6 : Cut w6 g (restT (k + 1) s) := Blk.grown (Blk.alloc hcu5 _) hg6 (fun h => by have := (World.ownsRow.lt hown5 g h.symm).1; omega)
        have hB6 := (hB5.alloc (by have := hB5.size; have := HG.out; omega) _).grown hg6 (by have := hB5.size; have := HG.out; simp; omega) (fun j hj => by have := (World.ownsRow.lt hown5 j hj).1; omega)
        have hown7 : Own w6 (g + 1) v6 (rdT (k + 1) s) := by
          rw [HR2.out]
          unfold Own
          rw [List.length_append, List.map_append]
          exact hown6
        clear hown5 hcu5 hB5 hown6 hg6
        go_wp2
        go_roundw
        case rel => exact ⟨k + 1, by omega, by go_num, hown7, hcu6, hB6⟩
        case measure => simp [intOf]; omega
      · obtain rfl : k = n := by omega
        obtain ⟨oa, cap, hv, hst⟩ := hown.form
        rw [rdT_length] at hv
        subst hv
        have hts := rdT_txts s k
        have hmul : k * (4 + s.size) ≤ 1000 * (4 + 268435456) := Nat.mul_le_mul hn (by omega)
        have HL := Lib.hid (fun W hW => list_any oa k cap (rdT k s) (rdT_length s k) (by omega) (by omega) W hW)
        rw [← HT.out] at HL hst
        have HLN := Lib.hid (show TT.length = k by rw [HT.out]; exact rdT_length s k)
        obtain ⟨X, hX⟩ : ∃ X, listB TT = X := ⟨_, rfl⟩
        rw [hX] at HL HVF
        clear hX hlt hts hmul hown
        by_cases hXb : X = b
        · subst hXb
          have HV := Lib.hid (show OK = true by rw [HVF.out]; simp)
          go_wp2_with fail
          refine (HL.out _ hst).mono ?_
          rintro e w7 ⟨rfl, hB7⟩
          have hst7 := hst.below hB7
          have hB8 := hB.trans (hB7.mono (by have := hB.size; have := HG.out; omega))
          go_wp2
          rw [HRL.out]
          exact ⟨oa, k, cap, TT, by rw [HV.out]; rfl, HLN.out, by rw [HV.out]; rfl, hst7, by rw [HG.out]; exact hB8⟩
        · have hne : (X.toList == b.toList) = false := by
            rw [beq_eq_false_iff_ne, ByteArray.toList_eq, ByteArray.toList_eq]
            intro e
            exact hXb (by cases X; cases b; simp_all)
          have HV := Lib.hid (show OK = false by rw [HVF.out]; simp [hXb])
          clear hXb
          go_wp2_with fail
          refine (HL.out _ hst).mono ?_
          rintro e w7 ⟨rfl, hB7⟩
          have hB8 := hB.trans (hB7.mono (by have := hB.size; have := HG.out; omega))
          go_wp2
          rw [HRL.out]
          exact ⟨none, 0, 0, [], by rw [HV.out]; rfl, rfl, by rw [HV.out]; rfl, fun i hi => absurd hi (by simp), by rw [HG.out]; exact hB8⟩
  · have hn' : (1000 : Int) < (n : Int) := by omega
    have HV := Lib.hid (show OK = false by rw [HK.out]; simp [hn])
    clear hn
    go_wp2
    rw [HRL.out]
    exact ⟨none, 0, 0, [], by rw [HV.out]; rfl, rfl, by rw [HV.out]; rfl, fun i hi => absurd hi (by simp), by rw [HG.out]; exact hB3⟩
end Go.Proofs.Ytfbeakakokhfhaa
