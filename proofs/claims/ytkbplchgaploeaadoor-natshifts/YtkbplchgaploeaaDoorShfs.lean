/-
  What the document's Shl and Shr do, and the law NatShifts: it returns true.
-/
import Derived.Test.YtkbplchgaploeaaDoorNsr
set_option linter.unusedVariables false
set_option linter.unusedSimpArgs false
namespace Go.Proofs.YtkbplchgaploeaaDoor
open Go.RowKit

theorem left_val (b off n c : Nat) (d : Int) (x : Nat → Int) (w : World) (hn : n < 1000000) (hd : 0 ≤ d) (hd2 : d ≤ 128000) (h : Num w (some ⟨b, off, none⟩) n c x) :
    Calls Tryd.prog 49 #[.slice (some ⟨b, off, none⟩) n c, .int .i64 d] w fun e w' => ∃ g k cap z, e = .returned (.slice (some ⟨g, 0, none⟩) k cap) ∧ k ≤ n + 2001 ∧ Num w' (some ⟨g, 0, none⟩) k cap z ∧ val z k = val x n * 2 ^ d.toNat ∧ Below w.heap.size w w' := by
  obtain ⟨q, hq⟩ : ∃ q : Nat, d / 64 = q := ⟨(d / 64).toNat, by omega⟩
  obtain ⟨r, hr⟩ : ∃ r : Nat, d % 64 = r := ⟨(d % 64).toNat, by omega⟩
  have hdn : d.toNat = 64 * q + r := by omega
  have hr64 : r < 64 := by omega
  have hq2 : q ≤ 2000 := by omega
  have hx := h.2.2.1
  have hv := finL_val hx h.2.2.2.1 q hr64
  rw [hdn]
  by_cases hr0 : 0 < r
  · exact (left_p b off n c q r d x w (by omega) (by omega) hr64 hr0 hq hr hd h).mono fun e w' ⟨g, k, cap, e1, hk, hN, hB⟩ => ⟨g, k, cap, _, e1, by omega, hN, by rw [← hv, val_more hN.2.2.2.1 _ hk], hB⟩
  · obtain rfl : r = 0 := by omega
    exact (left_z b off n c q d x w (by omega) (by omega) hq hr hd h).mono fun e w' ⟨g, k, cap, e1, hk, hN, hB⟩ => ⟨g, k, cap, _, e1, by omega, hN, by rw [← hv, val_more hN.2.2.2.1 _ hk], hB⟩

set_option maxHeartbeats 400000 in
theorem rshl_neg (a : Option Addr) (n c : Nat) (d : Int) (w : World) (hd : d < 0) :
    Calls Tryd.prog 24 #[.slice a n c, .int .i64 d] w fun e w' => e = .returned (.tuple #[.slice none 0 0, .int .i64 1]) ∧ w = w' := by
  go_enter Tryd.func24, Tryd.ntmps24
  go_wp2
  go_ret2
  exact ⟨rfl, rfl⟩
set_option maxHeartbeats 400000 in
theorem rshl_far (a : Option Addr) (n c : Nat) (d : Int) (w : World) (hd : 128000 < d) :
    Calls Tryd.prog 24 #[.slice a n c, .int .i64 d] w fun e w' => e = .returned (.tuple #[.slice none 0 0, .int .i64 4]) ∧ w = w' := by
  go_enter Tryd.func24, Tryd.ntmps24
  go_wp2
  go_ret2
  exact ⟨rfl, rfl⟩
set_option maxHeartbeats 400000 in
theorem rshl_long (a : Option Addr) (n c : Nat) (x : Nat → Int) (d : Int) (w : World) (hn : n < 1000000) (h : Num w a n c x) (hd : 0 ≤ d) (hd2 : d ≤ 128000) (hs : 2000 < (sizeL x n : Int) + (d + 63) / 64) :
    Calls Tryd.prog 24 #[.slice a n c, .int .i64 d] w fun e w' => e = .returned (.tuple #[.slice none 0 0, .int .i64 4]) ∧ w = w' := by
  have s1 := size_num a n c x w (by omega) h
  have hle := sizeL_le x n
  generalize sizeL x n = s at *
  clear h
  obtain ⟨p, hp⟩ : ∃ p : Nat, (d + 63) / 64 = p := ⟨((d + 63) / 64).toNat, by omega⟩
  rw [hp] at hs
  go_enter Tryd.func24, Tryd.ntmps24
  go_wp2_with (go_at_call 31; refine s1.mono ?_; rintro e w' ⟨rfl, rfl⟩)
  go_ret2
  exact ⟨rfl, rfl⟩
set_option maxHeartbeats 1000000 in
theorem rshl_any (a : Option Addr) (n c : Nat) (x : Nat → Int) (d : Int) (w : World) (hn : n < 1000000) (h : Num w a n c x) (hd : 0 ≤ d) (hd2 : d ≤ 128000) (hs : (sizeL x n : Int) + (d + 63) / 64 ≤ 2000) :
    Calls Tryd.prog 24 #[.slice a n c, .int .i64 d] w fun e w' => ∃ g k cap z, e = .returned (.tuple #[.slice (some ⟨g, 0, none⟩) k cap, .int .i64 0]) ∧ k ≤ 4001 ∧ Num w' (some ⟨g, 0, none⟩) k cap z ∧ val z k = val x n * 2 ^ d.toNat ∧ Below w.heap.size w w' := by
  have s1 := size_num a n c x w (by omega) h
  have t1 := trim_any a n c x w (by omega) h
  rw [← val_bare n]
  have hle := sizeL_le x n
  generalize sizeL x n = s at *
  clear h
  obtain ⟨p, hp⟩ : ∃ p : Nat, (d + 63) / 64 = p := ⟨((d + 63) / 64).toNat, by omega⟩
  have HS : Hid (s ≤ 2000) := by show _ ≤ _; omega
  rw [hp] at hs
  go_enter Tryd.func24, Tryd.ntmps24
  go_wp2_with (first | (go_at_call 31; refine s1.mono ?_; rintro e w' ⟨rfl, rfl⟩) | (go_at_call 45; refine t1.mono ?_; rintro e w1 ⟨g1, p1, rfl, hN1, hB1⟩))
  have t2 := left_val g1 0 s p1 d x w1 (by have := HS.out; omega) hd hd2 hN1
  clear hN1
  go_wp2_with (go_at_call 49; refine t2.mono ?_; rintro e w2 ⟨g2, k2, p2, z2, rfl, hk2, hN2, hv2, hB2⟩)
  go_ret2
  exact ⟨g2, k2, p2, z2, rfl, by have := HS.out; omega, hN2, hv2, hB1.trans (hB2.mono hB1.size)⟩
theorem rshl_all (a : Option Addr) (n c : Nat) (x : Nat → Int) (d : Int) (w : World) (hn : n < 1000000) (h : Num w a n c x) :
    Calls Tryd.prog 24 #[.slice a n c, .int .i64 d] w fun e w' => ∃ o k cap z, e = .returned (.tuple #[.slice o k cap, .int .i64 (shlE (sizeL x n) d)]) ∧ k ≤ 4001 ∧ Num w' o k cap z ∧ val z k = shlV (sizeL x n) d (val x n) ∧ Below w.heap.size w w' := by
  by_cases hd : d < 0
  · refine (rshl_neg a n c d w hd).mono fun e w' hw => ⟨none, 0, 0, _, ?_, Nat.zero_le _, num_none w', ?_, hw.2 ▸ Below.refl _ _⟩
    · rw [hw.1]; unfold shlE; rw [if_pos hd]
    · unfold shlV; rw [if_pos hd]; rfl
  · by_cases hs : 2000 < (sizeL x n : Int) + (d + 63) / 64
    · have hc : Calls Tryd.prog 24 #[.slice a n c, .int .i64 d] w fun e w' => e = .returned (.tuple #[.slice none 0 0, .int .i64 4]) ∧ w = w' := by
        by_cases hf : 128000 < d
        · exact rshl_far a n c d w hf
        · exact rshl_long a n c x d w hn h (by omega) (by omega) hs
      refine hc.mono fun e w' hw => ⟨none, 0, 0, _, ?_, Nat.zero_le _, num_none w', ?_, hw.2 ▸ Below.refl _ _⟩
      · rw [hw.1]; unfold shlE; rw [if_neg hd, if_pos hs]
      · unfold shlV; rw [if_neg hd, if_pos hs]; rfl
    · refine (rshl_any a n c x d w hn h (by omega) (by omega) (by omega)).mono fun e w' ⟨g, k, cap, z, e1, hk, hN, hv1, hB⟩ => ⟨_, k, cap, z, ?_, hk, hN, ?_, hB⟩
      · rw [e1]; unfold shlE; rw [if_neg hd, if_neg hs]
      · rw [hv1]; unfold shlV; rw [if_neg hd, if_neg hs]

set_option maxHeartbeats 400000 in
theorem rshr_small (a : Option Addr) (n c : Nat) (x : Nat → Int) (d : Int) (w : World) (hn : n < 1000000) (h : Num w a n c x) (hd : d < 1) :
    Calls Tryd.prog 26 #[.slice a n c, .int .i64 d] w fun e w' => ∃ g cap, e = .returned (.tuple #[.slice (some ⟨g, 0, none⟩) (sizeL x n) cap, .bool false]) ∧ Num w' (some ⟨g, 0, none⟩) (sizeL x n) cap x ∧ Below w.heap.size w w' := by
  have t1 := trim_any a n c x w (by omega) h
  generalize sizeL x n = s at *
  clear h
  go_enter Tryd.func26, Tryd.ntmps26
  go_wp2_with (go_at_call 45; refine t1.mono ?_; rintro e w1 ⟨g1, p1, rfl, hN1, hB1⟩)
  go_ret2
  exact ⟨g1, p1, rfl, hN1, hB1⟩
set_option maxHeartbeats 400000 in
theorem rshr_out (a : Option Addr) (n c : Nat) (x : Nat → Int) (d : Int) (w : World) (hn : n < 1000000) (h : Num w a n c x) (hd : 1 ≤ d) (hd2 : d ≤ 9223372036854775807) (hq : (n : Int) ≤ d / 64) :
    Calls Tryd.prog 26 #[.slice a n c, .int .i64 d] w fun e w' => e = .returned (.tuple #[.slice none 0 0, .bool (decide (0 < sizeL x n))]) ∧ w = w' := by
  have s1 := size_num a n c x w (by omega) h
  generalize sizeL x n = s at *
  clear h
  obtain ⟨q, hq2⟩ : ∃ q : Nat, d / 64 = q := ⟨(d / 64).toNat, by omega⟩
  have hqb : (q : Int) ≤ 144115188075855871 := by omega
  rw [hq2] at hq
  have hqn : n ≤ q := by omega
  have hqm : ¬ q < n := by omega
  go_enter Tryd.func26, Tryd.ntmps26
  go_wp2_with (go_at_call 31; refine s1.mono ?_; rintro e w' ⟨rfl, rfl⟩)
  go_ret2
  exact ⟨rfl, rfl⟩
set_option maxHeartbeats 400000 in
theorem rshr_any (b off n c q r : Nat) (x : Nat → Int) (d : Int) (w : World) (hn : n < 50000) (h : Num w (some ⟨b, off, none⟩) n c x) (hd : 1 ≤ d) (hq : d / 64 = q) (hr : d % 64 = r) (hqn : q < n) :
    Calls Tryd.prog 26 #[.slice (some ⟨b, off, none⟩) n c, .int .i64 d] w fun e w' => ∃ g k cap, e = .returned (.tuple #[.slice (some ⟨g, 0, none⟩) k cap, .bool (goneB x q r)]) ∧ k ≤ n ∧ Num w' (some ⟨g, 0, none⟩) k cap (shrW x q r) ∧ Below w.heap.size w w' := by
  have hR : Calls Tryd.prog 51 #[.slice (some ⟨b, off, none⟩) n c, .int .i64 d] w fun e w' => ∃ g k cap, e = .returned (.tuple #[.slice (some ⟨g, 0, none⟩) k cap, .bool (goneB x q r)]) ∧ k ≤ n ∧ Num w' (some ⟨g, 0, none⟩) k cap (shrW x q r) ∧ Below w.heap.size w w' := by
    by_cases hr0 : 0 < r
    · exact rgt_p b off n c q r d x w (by omega) (by omega) (by omega) hr0 hq hr (by omega) hqn h
    · obtain rfl : r = 0 := by omega
      exact rgt_z b off n c q d x w (by omega) (by omega) hq hr (by omega) hqn h
  have hqi : ¬ (n : Int) ≤ q := by omega
  have hqb : (q : Int) ≤ 144115188075855871 := by omega
  generalize goneB x q r = gb at *
  clear h
  go_enter Tryd.func26, Tryd.ntmps26
  go_wp2_with (go_at_call 51; refine hR.mono ?_; rintro e w1 ⟨g1, k1, p1, rfl, hk1, hN1, hB1⟩)
  go_ret2
  exact ⟨g1, k1, p1, rfl, hk1, hN1, hB1⟩
theorem rshr_all (a : Option Addr) (n c : Nat) (x : Nat → Int) (d : Int) (w : World) (hn : n < 50000) (h : Num w a n c x) (hd2 : d ≤ 9223372036854775807) :
    Calls Tryd.prog 26 #[.slice a n c, .int .i64 d] w fun e w' => ∃ o k cap, e = .returned (.tuple #[.slice o k cap, .bool (shrG x d)]) ∧ k ≤ n ∧ Num w' o k cap (shrF x d) ∧ Below w.heap.size w w' := by
  have hle := sizeL_le x n
  by_cases hd : d < 1
  · have e1 : shrF x d = x := by unfold shrF; rw [if_pos hd]
    have e2 : shrG x d = false := by unfold shrG; rw [if_pos hd]
    rw [e1, e2]
    exact (rshr_small a n c x d w (by omega) h hd).mono fun e w' ⟨g, cap, h1, h2, h3⟩ => ⟨_, sizeL x n, cap, h1, hle, h2, h3⟩
  · obtain ⟨q, hq⟩ : ∃ q : Nat, d / 64 = q := ⟨(d / 64).toNat, by omega⟩
    obtain ⟨r, hr⟩ : ∃ r : Nat, d % 64 = r := ⟨(d % 64).toNat, by omega⟩
    have e1 : shrF x d = shrW x q r := by unfold shrF; rw [if_neg hd, hq, hr, Int.toNat_natCast, Int.toNat_natCast]
    have e2 : shrG x d = goneB x q r := by unfold shrG; rw [if_neg hd, hq, hr, Int.toNat_natCast, Int.toNat_natCast]
    rw [e1, e2]
    by_cases hqn : q < n
    · obtain ⟨b, off, rfl, _, _⟩ := h.cells (by omega)
      exact (rshr_any b off n c q r x d w hn h (by omega) hq hr hqn).mono fun e w' ⟨g, k, cap, e1, h2, h3, h4⟩ => ⟨_, k, cap, e1, h2, h3, h4⟩
    · have e3 : shrW x q r = fun _ => 0 := by funext j; exact shrW_zero h.2.2.2.1 q r j (by omega)
      rw [e3, goneB_out h.2.2.2.1 (by omega)]
      exact (rshr_out a n c x d w (by omega) h (by omega) hd2 (by omega)).mono fun e w' hw => ⟨none, 0, 0, hw.1, Nat.zero_le _, num_none w', hw.2 ▸ Below.refl _ _⟩

set_option maxHeartbeats 4000000 in
theorem natShifts_any (a : Option Addr) (n c : Nat) (d : Int) (x : Nat → Int) (w : World) (h : Num w a n c x) (hz : -9223372036854775808 ≤ d ∧ d ≤ 9223372036854775807) :
    Calls Tryd.prog 5 #[.slice a n c, .int .i64 d] w fun e w' => e = .returned (.bool true) ∧ Below w.heap.size w w' := by
  have hB : Below w.heap.size w w := Below.refl _ _
  have f1 := fun w => few_any a n c w
  by_cases hf : n ≤ 2500
  · rw [decide_eq_true hf] at f1
    have c23 := fun wr (hb : Below w.heap.size w wr) => nshl_all a n c x d wr (by omega) (h.next hb) hz.2
    have c24 := fun wr (hb : Below w.heap.size w wr) => rshl_all a n c x d wr (by omega) (h.next hb)
    have c25 := fun wr (hb : Below w.heap.size w wr) => nshr_all a n c x d wr (by omega) (h.next hb) hz.2
    have c26 := fun wr (hb : Below w.heap.size w wr) => rshr_all a n c x d wr (by omega) (h.next hb) hz.2
    clear h
    generalize shlE (sizeL x n) d = E at *
    generalize shlV (sizeL x n) d (val x n) = V at *
    generalize shrF x d = F at *
    generalize shrG x d = G at *
    go_enter Tryd.func5, Tryd.ntmps5
    go_wp2_with (first
      | (go_at_call 9; refine (awake_any _).mono ?_; rintro e wa ⟨rfl, hb⟩; replace hB := hB.trans (hb.mono hB.size))
      | (go_at_call 10; refine (f1 _).mono ?_; rintro e w' ⟨rfl, rfl⟩)
      | (go_at_call 23; refine (c23 _ hB).mono ?_; rintro e w2 ⟨o1, k1, p1, z1, rfl, hk1, hD, v1, t1, hb⟩; replace hB := hB.trans (hb.mono hB.size))
      | (go_at_call 24; refine (c24 _ hB).mono ?_; rintro e w3 ⟨o2, k2, p2, z2, rfl, hk2, hE, v2, hb⟩; replace hB := hB.trans (hb.mono hB.size); replace hD := hD.next hb)
      | (go_at_call 25; refine (c25 _ hB).mono ?_; rintro e w4 ⟨o3, k3, p3, rfl, hk3, hF, t3, hb⟩; replace hB := hB.trans (hb.mono hB.size); replace hD := hD.next hb; replace hE := hE.next hb)
      | (go_at_call 26; refine (c26 _ hB).mono ?_; rintro e w5 ⟨o4, k4, p4, rfl, hk4, hG, hb⟩; replace hB := hB.trans (hb.mono hB.size); replace hD := hD.next hb; replace hE := hE.next hb; replace hF := hF.next hb))
    have hs1' := lsame_any _ _ k1 p1 k2 p2 z1 z2 _ (by omega) (by omega) hD hE (v1.trans v2.symm) t1
    have hs2' := lsame_any _ _ k3 p3 k4 p4 F F _ (by omega) (by omega) hF hG (num_val_eq hF hG) t3
    clear hD hE hF hG v1 v2 t1 t3
    go_wp2_with (go_at_call 13; refine hs1'.mono ?_; rintro e w' ⟨rfl, rfl⟩; clear hs1')
    go_wp2_with (go_at_call 13; refine hs2'.mono ?_; rintro e w' ⟨rfl, rfl⟩)
    go_ret
    exact ⟨rfl, hB⟩
  · rw [decide_eq_false hf] at f1
    clear h
    go_enter Tryd.func5, Tryd.ntmps5
    go_wp2_with (first
      | (go_at_call 9; refine (awake_any _).mono ?_; rintro e wa ⟨rfl, hb⟩; replace hB := hB.trans (hb.mono hB.size))
      | (go_at_call 10; refine (f1 _).mono ?_; rintro e w' ⟨rfl, rfl⟩))
    go_ret
    exact ⟨rfl, hB⟩
end Go.Proofs.YtkbplchgaploeaaDoor
