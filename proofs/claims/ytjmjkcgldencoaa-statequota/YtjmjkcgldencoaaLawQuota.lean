/-
  The law StateQuota.
-/
import Derived.Test.YtjmjkcgldencoaaYAw
import Derived.Deep.LoopGhost
import Derived.Deep.DeepCutAuto
import Derived.LoopIn
namespace Go.Proofs.Ytjmjkcgldencoaa
open Go.RowKit

/-- the request that is asked -/
def askR (c i : Nat) : Req := ⟨c, 3 * (i : Int), ⟨#[108]⟩, ⟨#[]⟩, ⟨#[]⟩⟩
/-- how a client stands, in front of its i-th request -/
structure QI (c i : Nat) (W : Wd) : Prop where
  inv : InvW W
  low : (lastW c W).q < 3 * (i : Int)
  nlow : 0 ≤ (lastW c W).n
  rest : ∀ j : Nat, c < j → lastW j W = default
theorem lastW_n (c : Int) (W : Wd) : (lastW c W).n = cntN c W.tk W.tk.length := by unfold lastW; exact lstL_n c W.tk W.rp W.tk.length
/-- how the log stands in front of client c's requests -/
structure QO (c : Nat) (W : Wd) : Prop where
  inv : InvW W
  rest : ∀ j : Nat, c ≤ j → lastW j W = default
theorem QI.next {c i : Nat} {W : Wd} (h : QI c i W) : QO (c + 1) W := ⟨h.inv, fun j hj => h.rest j (by omega)⟩
theorem QO.first {c : Nat} {W : Wd} (h : QO c W) : QI c 1 W where
  inv := h.inv
  low := by rw [h.rest c (Nat.le_refl _)]; decide
  nlow := by rw [h.rest c (Nat.le_refl _)]; decide
  rest := fun j hj => h.rest j (by omega)
theorem QO.start : QO 0 ⟨[], [], []⟩ := ⟨InvW.nil, fun _ _ => rfl⟩
theorem askR_right (c i : Nat) (hc : c < 4) (h1 : 1 ≤ i) (h2 : i ≤ 29) : rightQ (askR c i) = true := by
  unfold rightQ rightB askR
  rw [decide_eq_true_iff]
  refine ⟨by show (0 : Int) ≤ (c : Int); omega, by show (c : Int) ≤ 3; omega, by show (1 : Int) ≤ 3 * (i : Int); omega, by show 3 * (i : Int) ≤ 2147483647; omega, by show 1 ≤ (⟨#[108]⟩ : ByteArray).size; decide, by show (⟨#[108]⟩ : ByteArray).size ≤ 200; decide, by show (⟨#[]⟩ : ByteArray).size ≤ 50; decide, by show (⟨#[]⟩ : ByteArray).size ≤ 100; decide, .inr rfl⟩
theorem ask_quota {c i : Nat} {W : Wd} (h : QI c i W) (hc : c < 4) (h1 : 1 ≤ i) (h2 : i ≤ 29) :
    ((lastW c W).n = 20 → saysS W (askR c i) = ⟨6, 0, 0⟩ ∧ askS W (askR c i) = W) ∧
    (¬ (lastW c W).n = 20 → W.tk.length = 64 → saysS W (askR c i) = ⟨10, 0, 0⟩ ∧ askS W (askR c i) = W) ∧
    (¬ (lastW c W).n = 20 → ¬ W.tk.length = 64 → (saysS W (askR c i)).e = 0 ∧ (saysS W (askR c i)).i = W.tk.length ∧ (askS W (askR c i)).tk.length = W.tk.length + 1 ∧ (lastW c (askS W (askR c i))).n = (lastW c W).n + 1 ∧ QI c (i + 1) (askS W (askR c i))) := by
  have key := askW_last W.tk W.rp W.hd.length (askR c i)
  rw [if_neg (by rw [askR_right c i hc h1 h2]; decide)] at key
  have hlow : (lstL (askR c i).c W.tk W.rp W.tk.length).q < (askR c i).q := h.low
  rw [if_neg (by omega), if_neg (by omega)] at key
  refine ⟨fun hn => ?_, fun hn hl => ?_, fun hn hl => ?_⟩
  · rw [if_pos (show (lstL (askR c i).c W.tk W.rp W.tk.length).n = 20 from hn)] at key
    unfold saysS askS
    rw [key]
    exact ⟨rfl, rfl⟩
  · rw [if_neg (show ¬ (lstL (askR c i).c W.tk W.rp W.tk.length).n = 20 from hn), if_pos hl] at key
    unfold saysS askS
    rw [key]
    exact ⟨rfl, rfl⟩
  · rw [if_neg (show ¬ (lstL (askR c i).c W.tk W.rp W.tk.length).n = 20 from hn), if_neg hl] at key
    have hinv := h.inv.ask (askR c i)
    have es : askS W (askR c i) = ⟨W.tk ++ [askR c i], W.rp ++ [⟨0, W.tk.length, (W.hd.length : Int) + 1⟩], W.hd⟩ := by unfold askS; rw [key]
    have hl2 : ∀ j : Nat, lastW j (askS W (askR c i)) = if (askR c i).c = (j : Int) then ⟨(askR c i).q, (lstL j W.tk W.rp W.tk.length).n + 1, ⟨0, W.tk.length, (W.hd.length : Int) + 1⟩⟩ else lstL j W.tk W.rp W.tk.length := fun j => by
      rw [es]
      unfold lastW
      exact lstL_snoc j W.tk W.rp h.inv.len (askR c i) _
    have hcc := hl2 c
    rw [if_pos (show (askR c i).c = (c : Int) from rfl)] at hcc
    refine ⟨by unfold saysS; rw [key], by unfold saysS; rw [key], by rw [es]; simp, by rw [hcc]; rfl, ⟨hinv, ?_, ?_, fun j hj => ?_⟩⟩
    · rw [hcc]
      show 3 * (i : Int) < 3 * ((i + 1 : Nat) : Int)
      omega
    · rw [hcc]
      have := h.nlow
      show 0 ≤ (lastW c W).n + 1
      omega
    · rw [hl2 j, if_neg (show ¬ ((askR c i).c = (j : Int)) by show ¬ ((c : Int) = (j : Int)); omega)]
      exact h.rest j hj
theorem QI.same {c i : Nat} {W : Wd} (h : QI c i W) : QI c (i + 1) W := ⟨h.inv, by have := h.low; push_cast; omega, h.nlow, h.rest⟩
def at4 (a b c e : Nat) : Nat → Nat
  | 0 => a | 1 => b | 2 => c | _ => e
theorem at4_cell {w : World} {g : Nat} {t : TypeId} {a b c e : Nat} (h : Blk w g t #[.int .u8 (a : Nat), .int .u8 (b : Nat), .int .u8 (c : Nat), .int .u8 (e : Nat)]) {i : Nat} (hi : i < 4) : w.cell? ⟨g, i, none⟩ = some (.int .u8 (at4 a b c e i : Nat)) := by
  rw [h.cell]
  match i, hi with
  | 0, _ | 1, _ | 2, _ | 3, _ => rfl
theorem byte_ld {w : World} {p : Addr} {x : Int} (h : w.cell? p = some (.int .u8 x)) : (loadVar 5 p).run Try.prog w = .ok (.int .u8 x) w := by
  go_simp
theorem errno_load {w : World} {p : Addr} {x : Int} (h : w.cell? p = some (.int .i64 x)) : (loadVar 29 p).run Try.prog w = .ok (.int .i64 x) w := by
  go_simp
section
attribute [-go_sem] loadVar
set_option maxRecDepth 100000 in
set_option maxHeartbeats 4000000 in
theorem law_quota (a b c e : Int) (hz : (0 ≤ a ∧ a ≤ 255) ∧ (0 ≤ b ∧ b ≤ 255) ∧ (0 ≤ c ∧ c ≤ 255) ∧ (0 ≤ e ∧ e ≤ 255)) (w : World) :
    Calls Try.prog 4 #[.agg #[.int .u8 a, .int .u8 b, .int .u8 c, .int .u8 e]] w fun e w' => e = .returned (.bool true) ∧ Below w.heap.size w w' := by
  obtain ⟨a, rfl⟩ : ∃ n : Nat, a = n := ⟨a.toNat, by omega⟩
  obtain ⟨b, rfl⟩ : ∃ n : Nat, b = n := ⟨b.toNat, by omega⟩
  obtain ⟨c, rfl⟩ : ∃ n : Nat, c = n := ⟨c.toNat, by omega⟩
  obtain ⟨e, rfl⟩ : ∃ n : Nat, e = n := ⟨e.toNat, by omega⟩
  have HAW := Lib.hid (fun W => awake11_any W)
  have HLE : Hid (∀ i, at4 a b c e i ≤ 255) := Lib.hid fun i => by unfold at4; split <;> omega
  generalize hX : (#[.int .u8 (a : Nat), .int .u8 (b : Nat), .int .u8 (c : Nat), .int .u8 (e : Nat)] : Array Value) = X at *
  obtain ⟨w0, hw0⟩ : ∃ w0, w.alloc (.cells X 51) = w0 := ⟨_, rfl⟩
  have hb0 : Below w.heap.size w w0 := by rw [← hw0]; exact (Below.refl _ w).alloc (Nat.le_refl _) _
  have k0 : Blk w0 w.heap.size 51 X := by rw [← hw0]; exact Blk.new _ _ _
  have HAT : Hid (∀ W, Blk W w.heap.size 51 X → ∀ i, i < 4 → (loadVar 5 ⟨w.heap.size, i, none⟩).run Try.prog W = .ok (.int .u8 (at4 a b c e i : Nat)) W) := Lib.hid fun W h i hi => byte_ld (at4_cell (by rw [← hX] at h; exact h) hi)
  have HW0 := Lib.hid hw0
  have zs := zeroS
  clear hX hw0 hz
  generalize at4 a b c e = V at *
  go_enter Try.func4, Try.ntmps4
  go_wp2_with (rw [HW0.out])
  refine (HAW.out _).mono ?_
  rintro e w1 ⟨rfl, hb1⟩
  replace k0 := k0.below hb1 k0.lt
  have hb2 := hb0.trans (hb1.mono hb0.size)
  clear hb0 hb1
  obtain ⟨w2, hw2⟩ : ∃ w2, w1.alloc (.cells zeroSt 37) = w2 := ⟨_, rfl⟩
  have hb12 : Below w1.heap.size w1 w2 := by rw [← hw2]; exact (Below.refl _ w1).alloc (Nat.le_refl _) _
  have k3 : Blk w2 w1.heap.size 37 zeroSt := by rw [← hw2]; exact Blk.new _ _ _
  have hlt0 := k0.lt
  replace k0 := k0.below hb12 k0.lt
  have hb3 := hb2.trans (hb12.mono hb2.size)
  have HW2 := Lib.hid hw2
  obtain ⟨g3, hg3⟩ : ∃ g3, w1.heap.size = g3 := ⟨_, rfl⟩
  have HG3 := Lib.hid hg3
  rw [hg3] at k3 hlt0
  have hw3 : w.heap.size ≤ g3 := by omega
  clear hw2 hb12 hb2 hg3
  go_wp2_with (rw [HW2.out, HG3.out])
  go_loopw [4, 5] (fun t cc wr => ∃ (c : Nat) (W : Wd) (cs : Array Value), c ≤ 4 ∧ cc = .int .i64 c ∧ t = .int .i64 (W.tk.length : Nat) ∧ QO c W ∧ StC wr (fun q => g3 < q) cs W ∧ Blk wr g3 37 cs ∧ Blk wr w.heap.size 51 X ∧ Below w.heap.size w wr) (fun _ cc _ => 4 - (intOf cc).toNat)
  case atStart => exact ⟨0, ⟨[], [], []⟩, zeroSt, by omega, rfl, rfl, QO.start, zeroSt_at _ _, k3, k0, hb3⟩
  case round =>
    clear k3 k0 hb3
    obtain ⟨c, W, cs, hc9, rfl, rfl, hQ, hS, k3, k0, hB⟩ := hrel
    by_cases hc4 : c < 4
    · have hc4' : (c : Int) < 4 := by omega
      have hld := HAT.out wr k0 c hc4
      have hv := HLE.out c
      obtain ⟨v, hv2⟩ : ∃ v, V c = v := ⟨_, rfl⟩
      rw [hv2] at hld hv
      obtain ⟨kk, hkk⟩ : ∃ kk : Nat, v % 30 = kk := ⟨_, rfl⟩
      have hk29 : kk ≤ 29 := by omega
      have ek : (v : Int) % 30 = (kk : Int) := by omega
      have hn0 : (lastW c W).n = 0 := by rw [hQ.rest c (Nat.le_refl _)]; rfl
      have hQ1 := hQ.first
      clear hQ hv2 hkk hv HLE
      go_wp2_with fail
      rw [ek]
      clear ek
      go_loopw [4, 7, 8] (fun t h ii wr => ∃ (i : Nat) (W : Wd) (cs : Array Value), 1 ≤ i ∧ i ≤ kk + 1 ∧ ii = .int .i64 i ∧ t = .int .i64 (W.tk.length : Nat) ∧ h = .int .i64 (lastW c W).n ∧ QI c i W ∧ StC wr (fun q => g3 < q) cs W ∧ Blk wr g3 37 cs ∧ Blk wr w.heap.size 51 X ∧ Below w.heap.size w wr) (fun _ _ ii _ => kk + 1 - (intOf ii).toNat)
      case atStart => exact ⟨1, W, cs, by omega, by omega, rfl, rfl, by rw [hn0], hQ1, hS, k3, k0, hB⟩
      case round =>
        clear hQ1 hS k3 k0 hB hn0 hld
        obtain ⟨i, W, cs, h1, hi9, rfl, rfl, rfl, hQ, hS, k3, k0, hB⟩ := hrel
        by_cases hik : i ≤ kk
        · have hik' : (i : Int) ≤ (kk : Int) := by omega
          obtain ⟨q20, q64, qok⟩ := ask_quota hQ hc4 h1 (by omega)
          obtain ⟨⟨xe, xi, xh⟩, hsay⟩ : ∃ y, saysS W (askR c i) = y := ⟨_, rfl⟩
          have HAp : Hid (Calls Try.prog 11 #[.agg cs, .agg #[.int .i64 (c : Int), .int .i64 (3 * (i : Int)), .string ⟨#[108]⟩, .string ⟨#[]⟩, .string ⟨#[]⟩]] wr fun e w' => ∃ cs', e = .returned (.tuple #[.agg cs', .agg #[.int .i64 xe, .int .i64 xi, .int .i64 xh]]) ∧ StC w' (geP wr.heap.size) cs' (askS W (askR c i)) ∧ Below wr.heap.size wr w') := Lib.hid (by
            have key := applyC _ cs W (askR c i) wr hQ.inv (by unfold smallB askR; rfl) hS
            rw [hsay] at key
            exact key)
          rw [hsay] at q20 q64 qok
          have l1 := st_load hS.size k3
          have hSz := hS.size
          have hgl := k3.lt
          have e3 : IntKind.i64.wrap (3 * (i : Int)) = 3 * (i : Int) := by rw [IntKind.wrap_i64]; omega
          have hm := hQ.inv.most
          have hn20 : (lastW c W).n ≤ 20 := by rw [lastW_n]; exact hQ.inv.cnt c
          have hn0 := hQ.nlow
          have HQ := Lib.hid hQ
          clear hsay hQ hS
          go_wp2_with fail
          refine HAp.out.mono ?_
          rintro e w4 ⟨cs', rfl, hS4, hb4⟩
          replace k3 := k3.below hb4 k3.lt
          replace k0 := k0.below hb4 k0.lt
          have hB4 := hB.trans (hb4.mono hB.size)
          have hS4' : StC w4 (fun q => g3 < q) cs' (askS W (askR c i)) := hS4.imp (fun q _ h => by have h8 := h; unfold geP at h8; show g3 < q; omega)
          have hg34 : g3 < w4.heap.size := k3.lt
          clear hS4 l1 HAp e3 hB hb4
          have zs5 := zeroS
          obtain ⟨wA5, hwA⟩ : ∃ wA, ((w4.alloc (.cells zeroSt 37)).alloc (.cells #[.int .i64 0, .int .i64 0, .int .i64 0] 31)) = wA := ⟨_, rfl⟩
          have bA : Below w4.heap.size w4 wA5 := by rw [← hwA]; exact ((Below.refl _ w4).alloc (Nat.le_refl _) _).alloc (by simp) _
          have kA : Blk wA5 w4.heap.size 37 zeroSt := by rw [← hwA]; exact (Blk.new _ _ _).alloc _
          have kB : Blk wA5 (w4.heap.size + 1) 31 #[.int .i64 0, .int .i64 0, .int .i64 0] := by rw [← hwA]; exact Blk.new_at (by simp)
          obtain ⟨w5, hw5⟩ : ∃ x, (wA5.setRow w4.heap.size cs').setRow (w4.heap.size + 1) #[.int .i64 xe, .int .i64 xi, .int .i64 xh] = x := ⟨_, rfl⟩
          have kx : Blk w5 w4.heap.size 37 cs' := by rw [← hw5]; exact Blk.setRow (setRow_heap wA5 _ zeroSt cs' 37 (0, 0) kA) (by omega) _
          have kr : Blk w5 (w4.heap.size + 1) 31 #[.int .i64 xe, .int .i64 xi, .int .i64 xh] := by rw [← hw5]; exact setRow_heap _ _ #[.int .i64 0, .int .i64 0, .int .i64 0] #[.int .i64 xe, .int .i64 xi, .int .i64 xh] 31 (0, 0) (Blk.setRow kB (by omega) _)
          have b5 : Below w4.heap.size w4 w5 := by rw [← hw5]; exact (bA.grown (only_setRow (grown_refl wA5 (some w4.heap.size)) cs') bA.size (fun k hk => by injection hk; omega)).grown (only_setRow (grown_refl _ (some (w4.heap.size + 1))) #[.int .i64 xe, .int .i64 xi, .int .i64 xh]) (by have := bA.size; simp; omega) (fun k hk => by injection hk; omega)
          have HWA5 := Lib.hid hwA
          have HW5 := Lib.hid hw5
          have HKA5 := Lib.hid kA
          have HKB5 := Lib.hid kB
          have HIA5 : Hid ((Try.prog.info? 37).map (·.size) = some (cs' : Array Value).size) := Lib.hid (by rw [hS4'.size]; exact infoS)
          have HIB5 : Hid ((Try.prog.info? 31).map (·.size) = some (#[.int .i64 xe, .int .i64 xi, .int .i64 xh] : Array Value).size) := Lib.hid info3
          have HSA5 : Hid ((zeroSt : Array Value).size = (cs' : Array Value).size) := Lib.hid (by rw [hS4'.size]; rfl)
          have HSB5 : Hid ((#[.int .i64 0, .int .i64 0, .int .i64 0] : Array Value).size = (#[.int .i64 xe, .int .i64 xi, .int .i64 xh] : Array Value).size) := Lib.hid rfl
          have HOA5 : Hid (((cs' : Array Value).all fun x => x.oneCell') = true) := Lib.hid hS4'.one
          have HOB5 : Hid (((#[.int .i64 xe, .int .i64 xi, .int .i64 xh] : Array Value).all fun x => x.oneCell') = true) := Lib.hid (rep_one _ _ _)
          clear hwA hw5 kA kB bA
          replace k3 := k3.below b5 k3.lt
          replace k0 := k0.below b5 k0.lt
          have hB5 := hB4.trans (b5.mono hB4.size)
          have hS5 := hS4'.below b5
          have m1 := errno_load (kr.cell 0)
          have m2 := num_load (kr.cell 1)
          change (loadVar 29 ⟨w4.heap.size + 1, 0, none⟩).run Try.prog w5 = .ok (.int .i64 xe) w5 at m1
          change (loadVar 3 ⟨w4.heap.size + 1, 1, none⟩).run Try.prog w5 = .ok (.int .i64 xi) w5 at m2
          have m3 := st_load hS5.size kx
          have HK3 := Lib.hid k3
          have HI3 := Lib.hid (show (Try.prog.info? 37).map (·.size) = some cs'.size by rw [hS5.size]; exact infoS)
          have HZ3 := Lib.hid (show cs.size = cs'.size by rw [hSz, hS5.size])
          have HO3 := Lib.hid hS5.one
          have n3 : Blk (w5.setRow g3 cs') g3 37 cs' := setRow_heap w5 g3 cs cs' 37 (0, 0) k3
          have HN3 := Lib.hid n3
          have HN0 := Lib.hid (Blk.setRow k0 (g' := g3) (by omega) cs')
          have HS6 : Hid (StC (w5.setRow g3 cs') (fun q => g3 < q) cs' (askS W (askR c i))) := Lib.hid (hS5.same (by simp) (fun q _ h => setRow_other w5 g3 q cs' (by have h8 : g3 < q := h; omega)))
          have HB6 := Lib.hid (hB5.grown (only_setRow (grown_refl w5 (some g3)) cs') hB5.size (fun q hq => by injection hq with e; omega))
          have HSW := Lib.hid hS5
          clear k3 k0 kx kr hB4 hB5 hS5 hS4' n3 hSz
          obtain ⟨N, hN⟩ : ∃ N, W.tk.length = N := ⟨_, rfl⟩
          obtain ⟨hd, hhd⟩ : ∃ x, (lastW c W).n = x := ⟨_, rfl⟩
          rw [hN] at hm q64 qok ⊢
          rw [hhd] at q20 q64 qok hn20 hn0 ⊢
          have HNN := Lib.hid hN
          have HHD := Lib.hid hhd
          clear hN hhd
          by_cases h20 : hd = 20
          · obtain ⟨hy, hW⟩ := q20 h20
            injection hy with hy1 hy2 hy3
            subst hy1 hy2 hy3
            have h20' : (hd == 20) = true := by rw [beq_iff_eq]; exact h20
            have HH := Lib.hid h20
            rw [hW] at HS6
            clear h20 q20 q64 qok hW
            go_wp2_with (first
              | rw [HWA5.out]
              | (refine wpList_store_row rfl 37 _ _ rfl w4.heap.size cs' rfl rfl 37 zeroSt HKA5.out HIA5.out HSA5.out HOA5.out ?_)
              | (refine wpList_store_row rfl 31 _ _ rfl (w4.heap.size + 1) #[.int .i64 6, .int .i64 0, .int .i64 0] rfl rfl 31 #[.int .i64 0, .int .i64 0, .int .i64 0] (Blk.setRow HKB5.out (by omega) _) HIB5.out HSB5.out HOB5.out ?_; rw [HW5.out])
              | (refine wpList_store_row rfl 37 _ _ rfl g3 cs' rfl rfl 37 cs HK3.out HI3.out HZ3.out HO3.out ?_))
            go_roundw
            case rel => exact ⟨i + 1, W, cs', by omega, by omega, by go_num, by rw [HNN.out], by rw [HHD.out], HQ.out.same, HS6.out, HN3.out, HN0.out, HB6.out⟩
            case measure => simp [intOf]; omega
          · have h20' : (hd == 20) = false := by rw [beq_eq_false_iff_ne]; exact h20
            by_cases h64 : N = 64
            · obtain ⟨hy, hW⟩ := q64 h20 h64
              injection hy with hy1 hy2 hy3
              subst hy1 hy2 hy3
              have h64' : ((N : Int) == 64) = true := by rw [beq_iff_eq]; omega
              have HH := Lib.hid h64
              rw [hW] at HS6
              clear h20 h64 q20 q64 qok hW
              go_wp2_with (first
                | rw [HWA5.out]
                | (refine wpList_store_row rfl 37 _ _ rfl w4.heap.size cs' rfl rfl 37 zeroSt HKA5.out HIA5.out HSA5.out HOA5.out ?_)
                | (refine wpList_store_row rfl 31 _ _ rfl (w4.heap.size + 1) #[.int .i64 10, .int .i64 0, .int .i64 0] rfl rfl 31 #[.int .i64 0, .int .i64 0, .int .i64 0] (Blk.setRow HKB5.out (by omega) _) HIB5.out HSB5.out HOB5.out ?_; rw [HW5.out])
                | (refine wpList_store_row rfl 37 _ _ rfl g3 cs' rfl rfl 37 cs HK3.out HI3.out HZ3.out HO3.out ?_))
              go_roundw
              case rel => exact ⟨i + 1, W, cs', by omega, by omega, by go_num, by rw [HNN.out], by rw [HHD.out], HQ.out.same, HS6.out, HN3.out, HN0.out, HB6.out⟩
              case measure => simp [intOf]; omega
            · obtain ⟨hy1, hy2, hl5, hn5, hQ5⟩ := qok h20 h64
              change xe = 0 at hy1
              change xi = (N : Int) at hy2
              subst hy1 hy2
              have h64' : ((N : Int) == 64) = false := by rw [beq_eq_false_iff_ne]; omega
              have e1 : IntKind.i64.wrap ((N : Int) + 1) = (N : Int) + 1 := by rw [IntKind.wrap_i64]; omega
              have e2 : IntKind.i64.wrap (hd + 1) = hd + 1 := by rw [IntKind.wrap_i64]; omega
              have HL5 := Lib.hid hl5
              have HN5 := Lib.hid hn5
              have HQ5 := Lib.hid hQ5
              clear h20 h64 q20 q64 qok hl5 hn5 hQ5
              go_wp2_with (first
                | rw [HWA5.out]
                | (refine wpList_store_row rfl 37 _ _ rfl w4.heap.size cs' rfl rfl 37 zeroSt HKA5.out HIA5.out HSA5.out HOA5.out ?_)
                | (refine wpList_store_row rfl 31 _ _ rfl (w4.heap.size + 1) #[.int .i64 0, .int .i64 (N : Int), .int .i64 xh] rfl rfl 31 #[.int .i64 0, .int .i64 0, .int .i64 0] (Blk.setRow HKB5.out (by omega) _) HIB5.out HSB5.out HOB5.out ?_; rw [HW5.out])
                | (refine wpList_store_row rfl 37 _ _ rfl g3 cs' rfl rfl 37 cs HK3.out HI3.out HZ3.out HO3.out ?_))
              go_roundw
              case rel => exact ⟨i + 1, askS W (askR c i), cs', by omega, by omega, by go_num, by rw [HL5.out]; go_num, by rw [HN5.out], HQ5.out, HS6.out, HN3.out, HN0.out, HB6.out⟩
              case measure => simp [intOf]; omega
        · have hik' : ¬ (i : Int) ≤ (kk : Int) := by omega
          have HQN := Lib.hid hQ.next
          clear hQ
          go_wp2_with fail
          go_roundw
          case rel => exact ⟨c + 1, W, cs, by omega, by go_num, rfl, HQN.out, hS, k3, k0, hB⟩
          case measure => simp [intOf]; omega
    · obtain rfl : 4 = c := by omega
      have hc4' : ¬ ((4 : Nat) : Int) < 4 := by omega
      obtain ⟨va, vb, rfl, ⟨oa, ca, rfl, _⟩, _⟩ := hS
      have l1 := sl_req (k3.cell 0)
      change (loadVar 28 ⟨g3, 0, none⟩).run Try.prog wr = .ok (.slice oa W.tk.length ca) wr at l1
      generalize W.tk.length = N at *
      clear hQ k3
      go_wp2_with fail
      go_ret
      exact ⟨by first | rfl | simp, hB⟩
end
end Go.Proofs.Ytjmjkcgldencoaa
