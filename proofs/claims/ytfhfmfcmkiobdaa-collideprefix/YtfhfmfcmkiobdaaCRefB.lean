/-
  Layer 8, the reference: both roots of a consistency proof.
-/
import Derived.Test.YtfhfmfcmkiobdaaCRefR
namespace Go.Proofs.Ytfhfmfcmkiobdaa
open Go.RowKit

theorem botC_size {h : ByteArray → ByteArray} (h32 : ∀ s, (h s).size = 32) {first : ByteArray} (hf : first.size = 32) : ∀ (P : List ByteArray) (_ : ∀ q ∈ P, q.size = 32) (m n : Nat) (whole : Bool), (botC h first m n P whole).1.size ≤ 32 ∧ (botC h first m n P whole).2.1.size ≤ 32
  | [], _, m, n, whole => by
    unfold botC
    split
    · exact ⟨by show first.size ≤ 32; omega, by show first.size ≤ 32; omega⟩
    · exact ⟨Nat.zero_le _, Nat.zero_le _⟩
  | q :: P, hz, m, n, whole => by
    unfold botC
    split
    · exact ⟨by show first.size ≤ 32; omega, by show first.size ≤ 32; omega⟩
    · split
      · have := hz q (by simp)
        exact ⟨by show q.size ≤ 32; omega, by show q.size ≤ 32; omega⟩
      · split
        · exact ⟨(botC_size h32 hf P (fun r hr => hz r (by simp [hr])) m (kC n) whole).1, by show (h _).size ≤ 32; rw [h32]; decide⟩
        · exact ⟨by show (h _).size ≤ 32; rw [h32]; decide, by show (h _).size ≤ 32; rw [h32]; decide⟩
theorem botC_whole (h : ByteArray → ByteArray) (first : ByteArray) (n : Nat) (p : List ByteArray) : botC h first n n p.reverse true = (first, first, decide (p.length = 0)) := by
  cases hp : p.reverse with
  | nil => have : p = [] := by simpa using hp
           subst this; unfold botC; simp
  | cons q P =>
    have : p.length ≠ 0 := by intro e; have : p = [] := List.length_eq_zero_iff.1 e; subst this; simp at hp
    unfold botC; simp [this]
theorem botC_none (h : ByteArray → ByteArray) (first : ByteArray) {m n : Nat} {whole : Bool} (hn : ¬ (m = n ∧ whole = true)) : botC h first m n [].reverse whole = (⟨#[]⟩, ⟨#[]⟩, false) := by
  show botC h first m n [] whole = _
  rw [botC, if_neg hn]
theorem botC_part (h : ByteArray → ByteArray) (first : ByteArray) (n : Nat) (p : List ByteArray) (q : ByteArray) : botC h first n n (p ++ [q]).reverse false = (q, q, decide (p.length = 0)) := by
  rw [List.reverse_append]
  show botC h first n n (q :: p.reverse) false = _
  rw [botC, if_neg (by simp), if_pos rfl]
  cases p <;> simp
theorem botC_snoc (h : ByteArray → ByteArray) (first : ByteArray) {m n : Nat} {whole : Bool} (hn : m ≠ n) (p : List ByteArray) (q : ByteArray) : botC h first m n (p ++ [q]).reverse whole =
    if m ≤ kC n then ((botC h first m (kC n) p.reverse whole).1, h (nodC false (botC h first m (kC n) p.reverse whole).2.1 q), (botC h first m (kC n) p.reverse whole).2.2)
    else (h (nodC true (botC h first (m - kC n) (n - kC n) p.reverse false).1 q), h (nodC true (botC h first (m - kC n) (n - kC n) p.reverse false).2.1 q), (botC h first (m - kC n) (n - kC n) p.reverse false).2.2) := by
  rw [List.reverse_append]
  show botC h first m n (q :: p.reverse) whole = _
  rw [botC, if_neg (by simp [hn]), if_neg hn]
set_option maxRecDepth 100000 in
set_option maxHeartbeats 8000000 in
theorem rboth_any {qh : Nat} {h : ByteArray → ByteArray} (HH : HashC qh h) (h32 : ∀ s, (h s).size = 32) (first : ByteArray) (hfs : first.size = 32) : ∀ (len m n : Nat) (whole : Bool) (oa : Option Addr) (cap : Nat) (p : List ByteArray) (_ : 1 ≤ m) (_ : m ≤ n) (_ : n ≤ 1048576) (_ : p.length = len) (_ : len ≤ 1048576) (_ : len ≤ cap) (_ : ∀ s ∈ p, s.size = 32) (w : World) (_ : Strs w oa p),
    Calls Try.prog 26 #[.int .u8 qh, .int .i64 m, .int .i64 n, .string first, .slice oa len cap, .bool whole] w fun e w' => e = .returned (.tuple #[.string (botC h first m n p.reverse whole).1, .string (botC h first m n p.reverse whole).2.1, .bool (botC h first m n p.reverse whole).2.2]) ∧ Below w.heap.size w w' := by
  intro len
  induction len with
  | zero =>
    intro m n whole oa cap p h1 hmn hn hp hm hcap hz w hc
    have e : p = [] := List.length_eq_zero_iff.1 hp
    subst e
    clear hz hc hp
    by_cases he : m = n
    · subst he
      have hb : ((m : Int) == (m : Int)) = true := by simp
      cases whole
      · rw [botC_none h first (by simp)]
        go_enter Try.func26, Try.ntmps26
        go_wp2
        go_ret3
        exact ⟨rfl, Below.refl _ _⟩
      · rw [botC_whole]
        show Calls _ _ _ _ fun e w' => e = .returned (.tuple #[.string first, .string first, .bool true]) ∧ _
        go_enter Try.func26, Try.ntmps26
        go_wp2
        go_ret3
        exact ⟨rfl, Below.refl _ _⟩
    · have hb : ((m : Int) == (n : Int)) = false := by rw [beq_eq_false_iff_ne]; omega
      rw [botC_none h first (by simp [he])]
      go_enter Try.func26, Try.ntmps26
      go_wp2
      go_ret3
      exact ⟨rfl, Below.refl _ _⟩
  | succ l ih =>
    intro m n whole oa cap p h1 hmn hn hp hm hcap hz w hc
    obtain ⟨p', q, rfl⟩ : ∃ p' q, p = p' ++ [q] := by
      rcases List.eq_nil_or_concat p with e | ⟨p', q, e⟩
      · subst e; simp at hp
      · exact ⟨p', q, by simpa using e⟩
    have hp' : p'.length = l := by simpa using hp
    obtain ⟨a, rfl, hab, hcell⟩ := hc l (by omega)
    rw [show (p' ++ [q]).getD l ByteArray.empty = q from getD_mid _ _ _ _ hp'] at hcell
    have hqs : q.size = 32 := hz q (by simp)
    have HM := Lib.hid (show ((l + 1 : Nat) : Int) - 1 = (l : Int) by omega)
    have hml : (l : Int) < ((l + 1 : Nat) : Int) := by omega
    have hm0 : ¬ (l : Int) < 0 := by omega
    have hl0 : (((l + 1 : Nat) : Int) == 0) = false := by rw [beq_eq_false_iff_ne]; omega
    by_cases he : m = n
    · subst he
      have hb : ((m : Int) == (m : Int)) = true := by simp
      cases whole
      · rw [botC_part, hp']
        have hcd : w.drew.cell? (a.add l) = some (.string q) := hcell
        clear ih hz hc hp hp'
        obtain ⟨bb, hbb⟩ : ∃ bb, decide (l = 0) = bb := ⟨_, rfl⟩
        have hbi : ((l : Int) == 0) = bb := by rw [← hbb, Bool.eq_iff_iff, beq_iff_eq, decide_eq_true_iff]; omega
        rw [hbb]
        clear hbb
        show Calls _ _ _ _ fun e w' => e = .returned (.tuple #[.string q, .string q, .bool bb]) ∧ _
        go_enter Try.func26, Try.ntmps26
        go_wp2_with (rw [HM.out])
        go_quiet (fail)
        go_wp2
        go_ret3
        exact ⟨rfl, below_drewN (Below.refl _ _) _⟩
      · have e0 : decide ((p' ++ [q]).length = 0) = false := by rw [hp]; simp
        rw [botC_whole, e0]
        show Calls _ _ _ _ fun e w' => e = .returned (.tuple #[.string first, .string first, .bool false]) ∧ _
        clear ih hz hc hp hp' e0
        go_enter Try.func26, Try.ntmps26
        go_wp2
        go_ret3
        exact ⟨rfl, Below.refl _ _⟩
    · have hb : ((m : Int) == (n : Int)) = false := by rw [beq_eq_false_iff_ne]; omega
      have h2 : 2 ≤ n := by omega
      have hk1 := kC_lt h2
      have hk0 := kC_pos n
      have HP := Lib.hid (fun W => rhalf_any n h2 hn W)
      have HS := Lib.hid hc.initC
      have hsl := slice_toC (some a) (l + 1) cap l (by omega)
      have z1 : (⟨#[1]⟩ : ByteArray).size = 1 := rfl
      rw [botC_snoc h first he]
      by_cases hik : m ≤ kC n
      · have hik' : (m : Int) ≤ (kC n : Int) := by omega
        rw [if_pos hik]
        have HL := Lib.hid (fun W hW => ih m (kC n) whole (some a) cap p' h1 hik (by omega) hp' (by omega) (by omega) (fun s hs => hz s (by simp [hs])) W hW)
        have zr := botC_size (h := h) h32 hfs p'.reverse (fun s hs => hz s (by simp [List.mem_reverse.1 hs])) m (kC n) whole
        generalize botC h first m (kC n) p'.reverse whole = T at *
        obtain ⟨r, s, b⟩ := T
        change r.size ≤ 32 ∧ s.size ≤ 32 at zr
        show Calls _ _ _ _ fun e w' => e = .returned (.tuple #[.string r, .string (h (nodC false s q)), .bool b]) ∧ _
        have q1 := addRun (a := ⟨#[1]⟩) (b := s) (by omega)
        have q2 := addRun (a := ⟨#[1]⟩ ++ s) (b := q) (by simp only [ByteArray.size_append]; omega)
        have HJ := Lib.hid (fun W => HH (nodC false s q) W (by rw [nodC_false, ByteArray.size_append, ByteArray.size_append]; omega))
        rw [nodC_false] at HJ ⊢
        generalize h (⟨#[1]⟩ ++ s ++ q) = R at *
        generalize kC n = k at *
        clear ih hz hc hp hp' hqs zr z1 he
        go_enter Try.func26, Try.ntmps26
        go_wp2_with (first | rw [HM.out] | (go_at_call 31; refine (HP.out _).mono ?_; rintro e w' ⟨rfl, hw'⟩; rw [hw']; clear hw' w'))
        refine (HL.out _ HS.out).mono ?_
        rintro e w1 ⟨rfl, hb1⟩
        have hcell1 := (hb1.cell (by rw [add_block]; exact hab)).trans hcell
        clear hcell
        go_wp2_with fail
        refine (HJ.out _).mono ?_
        rintro e w2 ⟨rfl, hb2⟩
        have hb3 := hb1.trans (hb2.mono hb1.size)
        go_wp2
        go_ret3
        exact ⟨rfl, hb3⟩
      · have hik' : ¬ (m : Int) ≤ (kC n : Int) := by omega
        rw [if_neg hik]
        have HL := Lib.hid (fun W hW => ih (m - kC n) (n - kC n) false (some a) cap p' (by omega) (by omega) (by omega) hp' (by omega) (by omega) (fun s hs => hz s (by simp [hs])) W hW)
        have zr := botC_size (h := h) h32 hfs p'.reverse (fun s hs => hz s (by simp [List.mem_reverse.1 hs])) (m - kC n) (n - kC n) false
        generalize botC h first (m - kC n) (n - kC n) p'.reverse false = T at *
        obtain ⟨r, s, b⟩ := T
        change r.size ≤ 32 ∧ s.size ≤ 32 at zr
        show Calls _ _ _ _ fun e w' => e = .returned (.tuple #[.string (h (nodC true r q)), .string (h (nodC true s q)), .bool b]) ∧ _
        have q1 := addRun (a := ⟨#[1]⟩) (b := q) (by omega)
        have q2 := addRun (a := ⟨#[1]⟩ ++ q) (b := r) (by simp only [ByteArray.size_append]; omega)
        have q3 := addRun (a := ⟨#[1]⟩ ++ q) (b := s) (by simp only [ByteArray.size_append]; omega)
        have HJ1 := Lib.hid (fun W => HH (nodC true r q) W (by rw [nodC_true, ByteArray.size_append, ByteArray.size_append]; omega))
        have HJ2 := Lib.hid (fun W => HH (nodC true s q) W (by rw [nodC_true, ByteArray.size_append, ByteArray.size_append]; omega))
        rw [nodC_true] at HJ1 HJ2
        rw [nodC_true, nodC_true]
        have e1 : ((m - kC n : Nat) : Int) = (m : Int) - (kC n : Int) := by omega
        have e2 : ((n - kC n : Nat) : Int) = (n : Int) - (kC n : Int) := by omega
        rw [e1, e2] at HL
        generalize h (⟨#[1]⟩ ++ q ++ r) = R at *
        generalize h (⟨#[1]⟩ ++ q ++ s) = R2 at *
        generalize kC n = k at *
        obtain ⟨L, hL⟩ : ∃ L, l + 1 = L := ⟨_, rfl⟩
        rw [hL] at hsl HM hml hl0 ⊢
        have hm00 : (0 : Int) ≤ (l : Int) := by omega
        have hL5 : L ≤ 1048576 := by omega
        clear ih hz hc hp hp' hqs zr z1 e1 e2 he hL hm hcap
        go_enter Try.func26, Try.ntmps26
        go_wp2_with (first | rw [HM.out] | (go_at_call 31; refine (HP.out _).mono ?_; rintro e w' ⟨rfl, hw'⟩; rw [hw']; clear hw' w'))
        refine (HL.out _ HS.out).mono ?_
        rintro e w1 ⟨rfl, hb1⟩
        have hab1 : a.block < w1.heap.size := Nat.lt_of_lt_of_le hab hb1.size
        have hcell1 := (hb1.cell (by rw [add_block]; exact hab)).trans hcell
        have HKP : Hid (∀ W, Below w1.heap.size w1 W → W.cell? (a.add l) = some (.string q) ∧ Below w1.heap.size w1 W) := Lib.hid fun W hW => ⟨(hW.cell (by rw [add_block]; exact hab1)).trans hcell1, hW⟩
        clear hcell hcell1 HL HP
        go_wp2_with fail
        go_region_held3 (fun W => W.cell? (a.add l) = some (.string q) ∧ Below w1.heap.size w1 W)
          ((refine HKP.out _ ?_; first | exact hB2' | exact hB1' | exact (Below.refl _ _).drew | exact Below.refl _ _))
          (first
            | (have := hB1'; go_at_call 23; refine (HJ2.out _).mono ?_; rintro e w3 ⟨rfl, hb3⟩; have hB2' : Below w1.heap.size w1 w3 := hB1'.trans (hb3.mono hB1'.size))
            | (go_at_call 23; refine (HJ1.out _).mono ?_; rintro e w2 ⟨rfl, hb2⟩; have hB1' : Below w1.heap.size w1 w2 := (Below.refl _ _).drew.trans hb2))
        have hBf := hb1.trans (hB2'.mono hb1.size)
        clear HKP HJ1 HJ2 hb2 hb3 hB1' hB2'
        go_wp2
        go_ret3
        exact ⟨rfl, hBf⟩
/-- sizes that may be -/
def fitG (M N : Int) (first : ByteArray) (ss : List ByteArray) : Prop := 1 ≤ M ∧ M ≤ N ∧ N ≤ 1048576 ∧ first.size = 32 ∧ allC ss = true
instance (M N : Int) (first : ByteArray) (ss : List ByteArray) : Decidable (fitG M N first ss) := by unfold fitG; infer_instance
/-- what a consistency proof makes -/
def groC (h : ByteArray → ByteArray) (M N : Int) (first : ByteArray) (ss : List ByteArray) : Option (ByteArray × ByteArray × List ByteArray × List ByteArray) :=
  if fitG M N first ss then gro h (we (M.toNat - 1) N.toNat) (addF first true (we (M.toNat - 1) N.toNat) ss.reverse) else none
def bthC (o : Option (ByteArray × ByteArray × List ByteArray × List ByteArray)) : ByteArray × ByteArray × Bool := match o with
  | none => (⟨#[]⟩, ⟨#[]⟩, false)
  | some (a, b, _, _) => (a, b, true)
theorem bth_bot (h : ByteArray → ByteArray) (first : ByteArray) (P : List ByteArray) (m n : Nat) (h1 : 1 ≤ m) (hm : m ≤ n) : bthC (gro h (we (m - 1) n) (addF first true (we (m - 1) n) P)) =
    if (botC h first m n P true).2.2 = true then ((botC h first m n P true).1, (botC h first m n P true).2.1, true) else (⟨#[]⟩, ⟨#[]⟩, false) := by
  rcases bot_gro h first P m n true h1 hm with ⟨a, ea, la, b⟩ | ⟨a, b⟩
  · rw [if_pos a, b]; rfl
  · rw [b, a]; rfl
set_option maxRecDepth 100000 in
set_option maxHeartbeats 4000000 in
theorem rBoth8_in {qh : Nat} {h : ByteArray → ByteArray} (HH : HashC qh h) (h32 : ∀ s, (h s).size = 32) (m n : Nat) (h1 : 1 ≤ m) (hmn : m ≤ n) (hn : n ≤ 1048576) (first : ByteArray) (hfs : first.size = 32) (oa : Option Addr) (len cap : Nat) (ss : List ByteArray) (hl : ss.length = len) (hm : len ≤ 40) (hcap : len ≤ cap) (hall : allC ss = true) (w : World) (hc : Strs w oa ss)
    (T : ByteArray × ByteArray × Bool) (hT : bthC (gro h (we (m - 1) n) (addF first true (we (m - 1) n) ss.reverse)) = T) :
    Calls Try.prog 15 #[.int .u8 qh, .int .i64 m, .int .i64 n, .string first, .slice oa len cap] w fun e w' => e = .returned (.tuple #[.string T.1, .string T.2.1, .bool T.2.2]) ∧ Below w.heap.size w w' := by
  rw [← hT, bth_bot h first ss.reverse m n h1 hmn]
  have HG := Lib.hid (good_any oa len cap ss hl (by omega) (fun s hs => by have := allC_at hall hs; omega) w hc)
  rw [hall] at HG
  have HB := Lib.hid (rboth_any HH h32 first hfs len m n true oa cap ss h1 hmn hn hl (by omega) hcap (fun s hs => allC_at hall hs) w hc)
  generalize botC h first m n ss.reverse true = U at *
  obtain ⟨r, s, b⟩ := U
  have n1 : ¬ (m : Int) < 1 := by omega
  have n2 : ¬ (n : Int) < (m : Int) := by omega
  have n3 : ¬ (1048576 : Int) < (n : Int) := by omega
  have n4 : ((first.size : Int) != 32) = false := by rw [hfs]; rfl
  have hfl : first.size ≤ 1000 := by omega
  clear hl hall hc hT hfs
  cases b
  all_goals
    go_enter Try.func15, Try.ntmps15
    go_wp2_with (go_at_call 21; refine HG.out.mono ?_; rintro e w' ⟨rfl, hw'⟩; rw [hw']; clear hw' w')
    refine HB.out.mono ?_
    rintro e w1 ⟨rfl, hb1⟩
    go_wp2
    go_ret3
    exact ⟨rfl, hb1⟩
set_option maxRecDepth 100000 in
set_option maxHeartbeats 4000000 in
theorem rBoth8_bad (qh : Nat) (M N : Int) (first : ByteArray) (hfl : first.size ≤ 1000) (oa : Option Addr) (len cap : Nat) (ss : List ByteArray) (hl : ss.length = len) (hm : len ≤ 9223372036854775807) (hsz : ∀ s ∈ ss, s.size ≤ 9223372036854775807) (w : World) (hc : Strs w oa ss)
    (hbad : M < 1 ∨ N < M ∨ 1048576 < N ∨ first.size ≠ 32 ∨ allC ss = false) :
    Calls Try.prog 15 #[.int .u8 qh, .int .i64 M, .int .i64 N, .string first, .slice oa len cap] w fun e w' => e = .returned (.tuple #[.string ⟨#[]⟩, .string ⟨#[]⟩, .bool false]) ∧ Below w.heap.size w w' := by
  have HG := Lib.hid (good_any oa len cap ss hl hm hsz w hc)
  clear hl hsz hc
  by_cases n1 : M < 1
  · clear hbad
    go_enter Try.func15, Try.ntmps15
    go_wp2
    go_ret3
    exact ⟨rfl, Below.refl _ _⟩
  · by_cases n2 : N < M
    · clear hbad
      go_enter Try.func15, Try.ntmps15
      go_wp2
      go_ret3
      exact ⟨rfl, Below.refl _ _⟩
    · by_cases n3 : 1048576 < N
      · clear hbad
        go_enter Try.func15, Try.ntmps15
        go_wp2
        go_ret3
        exact ⟨rfl, Below.refl _ _⟩
      · by_cases hf : first.size = 32
        · have n4 : ((first.size : Int) != 32) = false := by rw [hf]; rfl
          have n5 : allC ss = false := by
            rcases hbad with h | h | h | h | h
            · omega
            · omega
            · omega
            · exact absurd hf h
            · exact h
          rw [n5] at HG
          clear hbad n5 hf
          go_enter Try.func15, Try.ntmps15
          go_wp2_with (go_at_call 21; refine HG.out.mono ?_; rintro e w' ⟨rfl, hw'⟩; rw [hw']; clear hw' w')
          go_ret3
          exact ⟨rfl, Below.refl _ _⟩
        · have n4 : ((first.size : Int) != 32) = true := by rw [bne_iff_ne]; omega
          clear hbad hf
          go_enter Try.func15, Try.ntmps15
          go_wp2
          go_ret3
          exact ⟨rfl, Below.refl _ _⟩
theorem rBoth8_any {qh : Nat} {h : ByteArray → ByteArray} (HH : HashC qh h) (h32 : ∀ s, (h s).size = 32) (M N : Int) (first : ByteArray) (hfl : first.size ≤ 1000) (oa : Option Addr) (len cap : Nat) (ss : List ByteArray) (hl : ss.length = len) (hm : len ≤ 40) (hcap : len ≤ cap) (hsz : ∀ s ∈ ss, s.size ≤ 9223372036854775807) (w : World) (hc : Strs w oa ss) :
    Calls Try.prog 15 #[.int .u8 qh, .int .i64 M, .int .i64 N, .string first, .slice oa len cap] w fun e w' => e = .returned (.tuple #[.string (bthC (groC h M N first ss)).1, .string (bthC (groC h M N first ss)).2.1, .bool (bthC (groC h M N first ss)).2.2]) ∧ Below w.heap.size w w' := by
  by_cases hf : fitG M N first ss
  · unfold groC
    rw [if_pos hf]
    obtain ⟨n1, n2, n3, n4, ha⟩ := hf
    obtain ⟨m, rfl⟩ := Int.eq_ofNat_of_zero_le (a := M) (by omega)
    obtain ⟨n, rfl⟩ := Int.eq_ofNat_of_zero_le (a := N) (by omega)
    exact rBoth8_in HH h32 m n (by omega) (by omega) (by omega) first n4 oa len cap ss hl hm hcap ha w hc _ rfl
  · unfold groC
    rw [if_neg hf]
    refine rBoth8_bad qh M N first hfl oa len cap ss hl (by omega) hsz w hc ?_
    by_cases ha : allC ss = true
    · by_cases h4 : first.size = 32
      · have : ¬ (1 ≤ M ∧ M ≤ N ∧ N ≤ 1048576) := fun k => hf ⟨k.1, k.2.1, k.2.2, h4, ha⟩
        omega
      · exact .inr (.inr (.inr (.inl h4)))
    · exact .inr (.inr (.inr (.inr (by simpa using ha))))
end Go.Proofs.Ytfhfmfcmkiobdaa
