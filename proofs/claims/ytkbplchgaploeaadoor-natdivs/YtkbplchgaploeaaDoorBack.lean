/-
  What the document's Times does of lists that may be nil, and the law NatBack: it returns true.
-/
import Derived.Test.YtkbplchgaploeaaDoorNdv
import Derived.Test.YtkbplchgaploeaaDoorMuls
set_option linter.unusedVariables false
set_option linter.unusedSimpArgs false
namespace Go.Proofs.YtkbplchgaploeaaDoor
open Go.RowKit

set_option maxHeartbeats 1000000 in
theorem times_none (a' : Option Addr) (n' c' : Nat) (w : World) (hn' : n' < 1000000) :
    Calls Tryd.prog 30 #[.slice none 0 0, .slice a' n' c'] w fun e w' => ∃ g k cap z, e = .returned (.slice (some ⟨g, 0, none⟩) k cap) ∧ k ≤ n' + 1 ∧ Num w' (some ⟨g, 0, none⟩) k cap z ∧ val z k = 0 ∧ Below w.heap.size w w' := by
  have hmk := fun w => make_any ((n' : Int) + 1) (n' + 1) (by omega) (by omega) w
  have hT := trim_any _ (n' + 1) (n' + 1) (fun _ => 0) _ (by omega) (num_of_block (w := w) (k := n' + 1) (ss := arrOf (fun _ => 0) (n' + 1)) (by omega) (fun _ => (by decide : (0 : Int) ≤ 0 ∧ (0 : Int) ≤ 18446744073709551615)) (fun _ _ => rfl) (arrOf_size _ _) (fun j hj => arrOf_get _ _ _ _))
  have hle := sizeL_le (fun _ => 0) (n' + 1)
  have HB := below1 w (.cells (arrOf (fun _ => 0) (n' + 1)) 44)
  have HV : Hid (∀ m, val (fun _ => 0) m = 0) := val_zero
  generalize sizeL (fun _ => 0) (n' + 1) = s at *
  go_enter Tryd.func30, Tryd.ntmps30
  go_wp2
  go_loopw [22] (fun i wr => i = .int .i64 0 ∧ wr = w.alloc (.cells (arrOf (fun _ => 0) (n' + 1)) 44)) (fun i _ => 0)
  case atStart => exact ⟨rfl, rfl⟩
  case round =>
    obtain ⟨rfl, rfl⟩ := hrel
    go_wp2_with (go_at_call 45; refine hT.mono ?_; rintro e w1 ⟨g, cap, rfl, hN, hB⟩)
    go_ret
    exact ⟨g, s, cap, _, rfl, hle, hN, HV.out s, HB.trans (hB.mono HB.size)⟩
theorem times_opt (a a' : Option Addr) (n c n' c' : Nat) (x y : Nat → Int) (w : World) (hn : n < 1000000) (hn' : n' < 1000000) (h : Num w a n c x) (h' : Num w a' n' c' y) (h0 : 0 < n') :
    Calls Tryd.prog 30 #[.slice a n c, .slice a' n' c'] w fun e w' => ∃ g k cap z, e = .returned (.slice (some ⟨g, 0, none⟩) k cap) ∧ k ≤ n + n' + 1 ∧ Num w' (some ⟨g, 0, none⟩) k cap z ∧ val z k = val x n * val y n' ∧ Below w.heap.size w w' := by
  obtain ⟨b', off', rfl, _, _⟩ := h'.cells h0
  rcases h.2.2.2.2 with ⟨rfl, rfl⟩ | ⟨b, off, rfl, _, _⟩
  · obtain rfl : n = 0 := by have := h.1; omega
    exact (times_none _ n' c' w hn').mono fun e w' ⟨g, k, cap, z, e1, hk, hN, hv, hB⟩ => ⟨g, k, cap, z, e1, by omega, hN, by rw [hv]; simp [val], hB⟩
  · exact times_val b off n c b' off' n' c' x y w hn hn' h h'
theorem zero_size {z : Nat → Int} (hz : Words z) {k : Nat} (hs : sizeL z k = k) (hv : val z k = 0) : k = 0 := by
  rcases Nat.eq_zero_or_pos k with h | h
  · exact h
  · have := val_pos hz k h hs; omega

set_option maxHeartbeats 4000000 in
theorem natBack_any (a a' a'' : Option Addr) (n c n' c' n'' c'' : Nat) (x y z : Nat → Int) (w : World) (h : Num w a n c x) (h' : Num w a' n' c' y) (h'' : Num w a'' n'' c'' z) :
    Calls Tryd.prog 7 #[.slice a n c, .slice a' n' c', .slice a'' n'' c''] w fun e w' => e = .returned (.bool true) ∧ Below w.heap.size w w' := by
  have hB : Below w.heap.size w w := Below.refl _ _
  by_cases hf : n ≤ 300 ∧ n' ≤ 300 ∧ n'' ≤ 300
  · obtain ⟨q1, q2, q3⟩ := hf
    have i1 : (n : Int) ≤ 300 := by omega
    have i2 : (n' : Int) ≤ 300 := by omega
    have i3 : (n'' : Int) ≤ 300 := by omega
    have l1 := sizeL_le x n
    have l2 := sizeL_le y n'
    have l3 := sizeL_le z n''
    have HX : Hid (Num w a n c x) := h
    have HY : Hid (Num w a' n' c' y) := h'
    have HZ : Hid (Num w a'' n'' c'' z) := h''
    have X0 := (val_bd h.2.2.1 n).1
    have Y0 := (val_bd h'.2.2.1 n').1
    have Z0 := (val_bd h''.2.2.1 n'').1
    have HYW : Hid (Words y) := h'.2.2.1
    clear h h' h''
    have t1 := fun wr (hb : Below w.heap.size w wr) => nmul_any a a' n c n' c' x y wr (by omega) (by omega) (HX.out.next hb) (HY.out.next hb) (by omega)
    have t2 := fun wr (hb : Below w.heap.size w wr) => nadd_any a a'' n c n'' c'' x z wr (by omega) (by omega) (HX.out.next hb) (HZ.out.next hb)
    have t31 := fun wr (hb : Below w.heap.size w wr) => size_num a' n' c' y wr (by omega) (HY.out.next hb)
    go_enter Tryd.func7, Tryd.ntmps7
    go_wp2_with (first
      | (go_at_call 9; refine (awake_any _).mono ?_; rintro e wa ⟨rfl, hb⟩; replace hB := hB.trans (hb.mono hB.size))
      | (go_at_call 21; refine (t1 _ hB).mono ?_; rintro e w1 ⟨g1, k1, p1, z1, rfl, hk1, hN1, hv1, hs1, hb⟩; replace hB := hB.trans (hb.mono hB.size); clear t1 hb)
      | (go_at_call 17; refine (t2 _ hB).mono ?_; rintro e w2 ⟨g2, k2, p2, z2, rfl, hk2, hN2, hv2, hs2, hb⟩; replace hB := hB.trans (hb.mono hB.size); replace hN1 := hN1.next hb; clear t2 hb))
    have t3 := nsub_any _ _ _ _ _ _ _ _ _ (by omega) (by omega) hN2 (HZ.out.next hB) (by rw [hv2]; omega)
    go_wp2_with (go_at_call 11; refine t3.mono ?_; rintro e w3 ⟨g3, k3, p3, z3, rfl, hk3, hN3, hv3, hs3, hb⟩; replace hB := hB.trans (hb.mono hB.size); replace hN1 := hN1.next hb; clear t3 hb hN2)
    rw [hs2] at hk3
    have t4 := lsame_any _ _ _ _ _ _ _ _ _ (by omega) (by omega) hN3 (HX.out.next hB) (by rw [hv3, hv2]; omega) hs3
    go_wp2_with (go_at_call 13; refine t4.mono ?_; rintro e w' ⟨rfl, rfl⟩; clear t4 hN3)
    have s31 := t31 _ hB
    by_cases hy0 : sizeL y n' = 0
    · have t5 := ndiv_zero _ _ _ _ _ _ _ _ _ (by omega) (by omega) hN1 (HY.out.next hB) hy0
      rw [hy0] at s31
      clear hN1
      go_wp2_with (first | (go_at_call 27; refine t5.mono ?_; rintro e w' ⟨rfl, rfl⟩; clear t5) | (go_at_call 31; refine s31.mono ?_; rintro e w' ⟨rfl, rfl⟩; clear s31))
      go_ret
      exact ⟨rfl, hB⟩
    · have hy0' : ((sizeL y n' : Int) == 0) = false := by simp; omega
      have Yp : 0 < val y n' := by
        rw [← val_bare n']; exact val_pos HYW.out _ (by omega) (sizeL_sizeL y n')
      have t5 := ndiv_any _ _ _ _ _ _ _ _ _ (by omega) (by omega) hN1 (HY.out.next hB) (by omega) (by omega) (by omega)
      go_wp2_with (go_at_call 27; refine t5.mono ?_; rintro e w4 ⟨o4, k4, p4, z4, o5, k5, p5, z5, rfl, hk4, hk5, hN4, hN5, hv4, hv5, hs4, hs5, hb⟩; clear t5)
      replace hB := hB.trans (hb.mono hB.size)
      replace hN1 := hN1.next hb
      have s31 := t31 _ hB
      rw [hv1, Int.mul_ediv_cancel _ (by omega)] at hv4
      rw [hv1, Int.mul_emod_left] at hv5
      have hk50 := zero_size hN5.2.2.1 hs5 hv5
      subst hk50
      have t6 := lsame_any _ _ _ _ _ _ _ _ _ (by omega) (by omega) hN4 (HX.out.next hB) hv4 hs4
      clear hN5 hb hv5 hs5
      go_wp2_with (first | (go_at_call 31; refine s31.mono ?_; rintro e w' ⟨rfl, rfl⟩; clear s31) | (go_at_call 13; refine t6.mono ?_; rintro e w' ⟨rfl, rfl⟩; clear t6))
      have t7 := nadd_any _ _ _ _ _ _ _ _ _ (by omega) (by omega) hN1 (HZ.out.next hB)
      clear hN4
      go_wp2_with (go_at_call 17; refine t7.mono ?_; rintro e w6 ⟨g6, k6, p6, z6, rfl, hk6, hN6, hv6, hs6, hb⟩; replace hB := hB.trans (hb.mono hB.size); replace hN1 := hN1.next hb; clear t7 hb)
      rw [hs1] at hk6
      have t8 := ndiv_any _ _ _ _ _ _ _ _ _ (by omega) (by omega) hN6 (HY.out.next hB) (by omega) (by omega) (by omega)
      clear hN6
      go_wp2_with (go_at_call 27; refine t8.mono ?_; rintro e w7 ⟨o7, k7, p7, z7, o8, k8, p8, z8, rfl, hk7, hk8, hN7, hN8, hv7, hv8, hs7, hs8, hb⟩; replace hB := hB.trans (hb.mono hB.size); replace hN1 := hN1.next hb; clear t8 hb)
      have hn0 : 0 < n' := by omega
      have t9 := times_opt _ _ _ _ _ _ _ _ _ (by omega) (by omega) hN7 (HY.out.next hB) hn0
      go_wp2_with (go_at_call 30; refine t9.mono ?_; rintro e w9 ⟨g9, k9, p9, z9, rfl, hk9, hN9, hv9, hb⟩; replace hB := hB.trans (hb.mono hB.size); replace hN1 := hN1.next hb; replace hN8 := hN8.next hb; clear t9 hb hN7)
      have t10 := radd_val _ _ _ _ _ _ _ _ _ (by omega) (by omega) hN9 hN8
      go_wp2_with (go_at_call 18; refine t10.mono ?_; rintro e w10 ⟨g10, k10, p10, z10, rfl, hk10, hN10, hv10, hb⟩; replace hB := hB.trans (hb.mono hB.size); replace hN1 := hN1.next hb; replace hN8 := hN8.next hb; clear t10 hb hN9)
      have t11 := radd_val _ _ _ _ _ _ _ _ _ (by omega) (by omega) hN1 (HZ.out.next hB)
      go_wp2_with (go_at_call 18; refine t11.mono ?_; rintro e w11 ⟨g11, k11, p11, z11, rfl, hk11, hN11, hv11, hb⟩; replace hB := hB.trans (hb.mono hB.size); replace hN10 := hN10.next hb; replace hN8 := hN8.next hb; clear t11 hb hN1)
      have t12 := rsame_any _ _ _ _ _ _ _ _ _ (by omega) (by omega) hN10 hN11 (by rw [hv10, hv9, hv7, hv8, hv11, ← hv6, Int.mul_comm]; exact Int.mul_ediv_add_emod _ _)
      go_wp2_with (go_at_call 29; refine t12.mono ?_; rintro e w' ⟨rfl, rfl⟩; clear t12 hN10 hN11)
      have t13 := ncmp_b _ _ _ _ _ _ _ _ _ (by omega) (by omega) hN8 (HY.out.next hB)
      have e13 : sgn (val z8 k8) (val y n') = -1 := by unfold sgn; rw [if_pos (by rw [hv8]; exact Int.emod_lt_of_pos _ Yp)]
      rw [e13] at t13
      clear hN8 e13
      go_wp2_with (go_at_call 15; refine t13.mono ?_; rintro e w12 ⟨rfl, hb⟩; replace hB := hB.trans (hb.mono hB.size); clear t13)
      go_ret
      exact ⟨rfl, hB⟩
  · have hf' : ¬ n ≤ 300 ∨ n ≤ 300 ∧ ¬ n' ≤ 300 ∨ n ≤ 300 ∧ n' ≤ 300 ∧ ¬ n'' ≤ 300 := by omega
    clear h h' h''
    rcases hf' with h1 | ⟨h1, h2⟩ | ⟨h1, h2, h3⟩
    · have i1 : (300 : Int) < n := by omega
      go_enter Tryd.func7, Tryd.ntmps7
      go_wp2_with (go_at_call 9; refine (awake_any _).mono ?_; rintro e wa ⟨rfl, hb⟩; replace hB := hB.trans (hb.mono hB.size))
      go_ret
      exact ⟨rfl, hB⟩
    · have i1 : (n : Int) ≤ 300 := by omega
      have i2 : (300 : Int) < n' := by omega
      go_enter Tryd.func7, Tryd.ntmps7
      go_wp2_with (go_at_call 9; refine (awake_any _).mono ?_; rintro e wa ⟨rfl, hb⟩; replace hB := hB.trans (hb.mono hB.size))
      go_ret
      exact ⟨rfl, hB⟩
    · have i1 : (n : Int) ≤ 300 := by omega
      have i2 : (n' : Int) ≤ 300 := by omega
      have i3 : (300 : Int) < n'' := by omega
      go_enter Tryd.func7, Tryd.ntmps7
      go_wp2_with (go_at_call 9; refine (awake_any _).mono ?_; rintro e wa ⟨rfl, hb⟩; replace hB := hB.trans (hb.mono hB.size))
      go_ret
      exact ⟨rfl, hB⟩
end Go.Proofs.YtkbplchgaploeaaDoor
