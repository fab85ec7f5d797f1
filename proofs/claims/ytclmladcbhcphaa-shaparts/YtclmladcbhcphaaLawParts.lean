/-
  The walk of the law ShaParts.
-/
import Derived.Test.YtclmladcbhcphaaLawEmpty
namespace Go.Proofs.Ytclmladcbhcphaa
open Go.RowKit

theorem str_load {w : World} {p : Addr} {x : ByteArray} (h : w.cell? p = some (.string x)) : (loadVar 9 p).run Try.prog w = .ok (.string x) w := by
  go_simp

theorem add_block (a : Addr) (k : Nat) : (a.add k).block = a.block := by unfold Addr.add; split <;> rfl

section
attribute [-go_sem] loadVar
set_option maxRecDepth 100000 in
set_option maxHeartbeats 1000000 in
theorem law_parts (oa : Option Addr) (n cap : Nat) (ss : List ByteArray) (hn : n ≤ 9223372036854775807) (w : World)
    (hcell : ∀ i, i < n → ∃ a, oa = some a ∧ a.block < w.heap.size ∧ w.cell? (a.add i) = some (.string (ss.getD i ByteArray.empty))) (hss : ∀ i, (ss.getD i ByteArray.empty).size ≤ 9223372036854775807) :
    Calls Try.prog 7 #[.slice oa n cap] w fun e w' => e = .returned (.bool true) ∧ Below w.heap.size w w' := by
  by_cases hn20 : n ≤ 20
  · have hn20' : ¬ (20 : Int) < (n : Int) := by omega
    have z1 := zeroTable
    have HC := Lib.hid hcell
    have HSS := Lib.hid hss
    clear hcell hss
    go_enter Try.func7, Try.ntmps7
    go_wp2_with fail
    refine (awake_any _).mono ?_
    rintro e w1 ⟨rfl, hB1⟩
    go_wp2_with fail
    refine (make_std _).mono ?_
    rintro e w2 ⟨rfl, hB2⟩
    have hB2' := hB1.trans (hB2.mono hB1.size)
    clear hB1 hB2
    go_wp2_with (first
      | (refine wpList_store_row rfl 27 _ _ rfl w2.heap.size tabV rfl rfl 27 zero72 (Blk.new _ _ _) (by rw [tabV_size]; exact infoTable) (by kernel_rfl) (by kernel_rfl) ?_; rw [World.setRow_alloc_new])
      | (refine wpList_load_row rfl 27 _ rfl w2.heap.size rfl 27 tabV (0, 0) _ (Blk.new _ _ _) Try.underlying27 rfl (by rw [tabV_size]; exact infoTable) ?_))
    have hB3 := hB2'.alloc hB2'.size (.cells tabV 27)
    have hT : Blk (w2.alloc (.cells tabV 27)) w2.heap.size 27 tabV := Blk.new _ _ _
    generalize w2.alloc (.cells tabV 27) = w3 at *
    have hgt := hB2'.size
    generalize w2.heap.size = gt at *
    clear hB2' z1
    refine (new_any _).mono ?_
    rintro e w4 ⟨rfl, hd4, hB4⟩
    have hT4 := hT.below hB4 hT.lt
    have hB4' := hB3.trans (hB4.mono hB3.size)
    have hne : gt ≠ w3.heap.size + 1 := by have := hT.lt; omega
    have hgd : w.heap.size ≤ w3.heap.size + 1 := by have := hB3.size; omega
    generalize w3.heap.size + 1 = gd at *
    clear hT hB3 hB4
    go_wp2
    go_loopw [5, 6] (fun v i wr => ∃ (k : Nat) (s : ByteArray), k ≤ n ∧ i = .int .i64 k ∧ v = .string s ∧ s.size ≤ 300 * k ∧ Dig wr gd (nums s) ∧ Blk wr gt 27 tabV ∧ Below w.heap.size w wr) (fun _ i _ => n - (intOf i).toNat)
    case atStart => exact ⟨0, ⟨#[]⟩, by omega, rfl, rfl, by show 0 ≤ _; omega, hd4, hT4, hB4'⟩
    case round =>
      clear hd4 hT4 hB4'
      obtain ⟨k, s, hk, rfl, rfl, hsz, hd, hT, hB⟩ := hrel
      by_cases hlt : k < n
      · have hlt' : (k : Int) < (n : Int) := by omega
        obtain ⟨a, rfl, hab, hc0⟩ := HC.out k hlt
        have hc : wr.cell? (a.add k) = some (.string (ss.getD k ByteArray.empty)) := (hB.cell (by rw [add_block]; exact hab)).trans hc0
        have hxs := HSS.out k
        generalize ss.getD k ByteArray.empty = x at *
        have hl1 := str_load hc
        by_cases hx : x.size ≤ 300
        · have hx' : ¬ (300 : Int) < (x.size : Int) := by omega
          have hadd : ¬ s.size + x.size > 9223372036854775807 := by omega
          have HN := Lib.hid (nums_append s x)
          have HR := Lib.hid (fun W => refsum_any (s ++ x) (by rw [ByteArray.size_append]; omega) W)
          have HSZ := Lib.hid (show (s ++ x).size ≤ 300 * (k + 1) by rw [ByteArray.size_append]; omega)
          have hlen : (nums s).length = s.size := nums_length s
          have hlen2 : (nums (s ++ x)).length ≤ 6300 := by rw [nums_length, ByteArray.size_append]; omega
          go_wp2_with fail
          refine (write_any gd (nums s) x (by rw [hlen]; omega) _ hd).mono ?_
          rintro e w5 ⟨rfl, hd5, hg5⟩
          rw [← HN.out] at hd5
          have hT5 := hT.grown hg5 (by intro h; injection h; omega)
          have hB5 := hB.grown hg5 hB.size (fun j hj => by injection hj; omega)
          have hc5 : w5.cell? (a.add k) = some (.string x) := (hB5.cell (by rw [add_block]; exact hab)).trans hc0
          have hl5 := str_load hc5
          clear hd hT hB hg5 hc hc0 hl1 hc5
          go_wp2_with fail
          refine (dsum_any gd (nums (s ++ x)) (by omega) _ hd5).mono ?_
          rintro e w6 ⟨rfl, hb6⟩
          have hd6 := hd5.below hb6 hd5.lt
          have hT6 := hT5.below hb6 hT5.lt
          have hB6 := hB5.trans (hb6.mono hB5.size)
          obtain ⟨S, hS⟩ : ∃ S, SHA (nums (s ++ x)) = S := ⟨_, rfl⟩
          rw [hS] at HR ⊢
          clear hd5 hT5 hB5 hb6 hl5 hS
          go_wp2_with fail
          refine (HR.out _).mono ?_
          rintro e w7 ⟨rfl, hb7⟩
          have hd7 := hd6.below hb7 hd6.lt
          have hT7 := hT6.below hb7 hT6.lt
          have hB7 := hB6.trans (hb7.mono hB6.size)
          clear hd6 hT6 hB6 hb7
          go_wp2
          go_roundw
          case rel => exact ⟨k + 1, s ++ x, by omega, by go_num, rfl, HSZ.out, hd7, hT7, hB7⟩
          case measure => simp [intOf]; omega
        · have hx' : (300 : Int) < (x.size : Int) := by omega
          go_wp2
          go_ret
          exact ⟨rfl, hB⟩
      · have hlen : (nums s).length ≤ 6000 := by rw [nums_length]; omega
        have HS := Lib.hid (fun W => sum_any s (by omega) W)
        have HSD := Lib.hid (fun W (h : Dig W gd (nums s)) => dsum_any gd (nums s) (by omega) W h)
        have hS32 := SHA_size (nums s)
        obtain ⟨S, hS⟩ : ∃ S, SHA (nums s) = S := ⟨_, rfl⟩
        rw [hS] at HS HSD hS32
        have HKP : Hid (∀ W, Below wr.heap.size wr W → (loadVar 27 ⟨gt, 0, none⟩).run Try.prog W = .ok (.agg tabV) W ∧ Below wr.heap.size wr W ∧ Dig W gd (nums s)) := Lib.hid fun W hW => ⟨tab_run (hT.below hW hT.lt), hW, hd.below hW hd.lt⟩
        obtain rfl : k = n := by omega
        clear hS hT hlt
        go_wp2
        go_region_held3 (fun w' => (loadVar 27 ⟨gt, 0, none⟩).run Try.prog w' = .ok (.agg tabV) w' ∧ Below wr.heap.size wr w' ∧ Dig w' gd (nums s))
          ((refine HKP.out _ ?_; first | exact hB7' | exact hB6' | exact hB5' | exact (Below.refl _ _).drew | exact Below.refl _ _))
          (first
            | (go_at_call 14; refine (HS.out _).mono ?_; rintro e w6 ⟨rfl, hb6⟩; have hB6' : Below wr.heap.size wr w6 := hB5'.trans (hb6.mono hB5'.size))
            | (have := hB6'; go_at_call 12; refine (HSD.out _ (HKP.out _ hB6').2.2).mono ?_; rintro e w7 ⟨rfl, hb7⟩; have hB7' : Below wr.heap.size wr w7 := hB6'.trans (hb7.mono hB6'.size))
            | (go_at_call 12; refine (HSD.out _ (HKP.out _ (Below.refl _ _).drew).2.2).mono ?_; rintro e w5 ⟨rfl, hb5⟩; have hB5' : Below wr.heap.size wr w5 := (Below.refl _ _).drew.trans hb5))
        have hB8 := hB.trans (hB7'.mono hB.size)
        go_wp2
        go_ret
        exact ⟨rfl, hB8⟩
  · have hn20' : (20 : Int) < (n : Int) := by omega
    clear hcell hss
    go_enter Try.func7, Try.ntmps7
    go_wp2_with fail
    refine (awake_any _).mono ?_
    rintro e w1 ⟨rfl, hB1⟩
    go_wp2_with fail
    refine (awake_any _).mono ?_
    rintro e w2 ⟨rfl, hB2⟩
    have hB2' := hB1.trans (hB2.mono hB1.size)
    go_wp2
    go_ret
    exact ⟨rfl, hB2'⟩
end
end Go.Proofs.Ytclmladcbhcphaa
