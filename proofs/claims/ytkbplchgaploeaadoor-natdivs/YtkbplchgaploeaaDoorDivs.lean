/-
  What the document's Div does, and the law NatDivs: it returns true.
-/
import Derived.Test.YtkbplchgaploeaaDoorOve
import Derived.Test.YtkbplchgaploeaaDoorBack
set_option linter.unusedVariables false
set_option linter.unusedSimpArgs false
namespace Go.Proofs.YtkbplchgaploeaaDoor
open Go.RowKit

set_option maxHeartbeats 1000000 in
theorem over_one (ga gb s c c' : Nat) (x y : Nat → Int) (w : World) (hs : s ≤ 2000) (h : Num w (some ⟨ga, 0, none⟩) s c x) (h' : Num w (some ⟨gb, 0, none⟩) 1 c' y) (hys : sizeL y 1 = 1) :
    Calls Tryd.prog 54 #[.slice (some ⟨ga, 0, none⟩) s c, .slice (some ⟨gb, 0, none⟩) 1 c'] w (OvOut (val x s) (val y 1) w) := by
  have c31 := size_num _ 1 c' y w (by omega) h'
  rw [hys] at c31
  have hyt := sizeL_top (x := y) 1 (by omega)
  rw [hys] at hyt
  have hyb := h'.2.2.1 0
  have hy0 : 0 < y 0 := by have : y 0 ≠ 0 := hyt; omega
  obtain ⟨b, off, e, _, hc⟩ := h'.cells (by omega)
  cases e
  have hc0 : w.cell? ⟨gb, 0, none⟩ = some (.int .u64 (y 0)) := hc 0 (by omega)
  have hy1 : val y 1 = y 0 := by simp [val]
  rw [hy1]
  have c66 := small_any _ s c x (y 0) w (by omega) h ⟨hy0, hyb.2⟩
  clear h h' hc hy1 hyt hys
  go_enter Tryd.func54, Tryd.ntmps54
  go_wp2_with (first | (go_at_call 31; refine c31.mono ?_; rintro e w' ⟨rfl, rfl⟩) | (go_at_call 66; refine c66.mono ?_; rintro e w1 ⟨g, k, cap, z, g', k', cap', z', rfl, hk, hk', hN, hN', hv, hv', hB⟩))
  go_ret2
  exact ⟨g, k, cap, z, g', k', cap', z', rfl, by omega, by omega, hN, hN', hv, hv', hB⟩
set_option maxHeartbeats 400000 in
theorem rdiv_zero (a a' : Option Addr) (n c n' c' : Nat) (y : Nat → Int) (w : World) (hn' : n' < 4000000000) (h' : Num w a' n' c' y) (hy : sizeL y n' = 0) :
    Calls Tryd.prog 28 #[.slice a n c, .slice a' n' c'] w fun e w' => e = .returned (.tuple #[.slice none 0 0, .slice none 0 0, .int .i64 1]) ∧ w = w' := by
  have s2 := size_num a' n' c' y w (by omega) h'
  rw [hy] at s2
  clear h'
  go_enter Tryd.func28, Tryd.ntmps28
  go_wp2_with (go_at_call 31; refine s2.mono ?_; rintro e w' ⟨rfl, rfl⟩)
  go_ret3
  exact ⟨rfl, rfl⟩
set_option maxHeartbeats 1000000 in
theorem rdiv_any (a a' : Option Addr) (n c n' c' : Nat) (x y : Nat → Int) (w : World) (hn : n < 4000000000) (hn' : n' < 4000000000) (h : Num w a n c x) (h' : Num w a' n' c' y) (hs : sizeL x n ≤ 2000) (hs' : sizeL y n' ≤ 2000) (hy : 0 < sizeL y n') :
    Calls Tryd.prog 28 #[.slice a n c, .slice a' n' c'] w fun e w' => ∃ g k cap z g' k' cap' z', e = .returned (.tuple #[.slice (some ⟨g, 0, none⟩) k cap, .slice (some ⟨g', 0, none⟩) k' cap', .int .i64 0]) ∧ k ≤ 4100 ∧ k' ≤ 4100 ∧ Num w' (some ⟨g, 0, none⟩) k cap z ∧ Num w' (some ⟨g', 0, none⟩) k' cap' z' ∧ val z k = val x n / val y n' ∧ val z' k' = val x n % val y n' ∧ Below w.heap.size w w' := by
  have s1 := size_num a n c x w (by omega) h
  have s2 := size_num a' n' c' y w (by omega) h'
  have t1 := trim_any a n c x w (by omega) h
  have t2 := fun wr (hb : Below w.heap.size w wr) => trim_any a' n' c' y wr (by omega) (h'.next hb)
  have hss := sizeL_sizeL x n
  have hss' := sizeL_sizeL y n'
  have hle := sizeL_le x n
  have hle' := sizeL_le y n'
  rw [← val_bare n, ← val_bare n']
  have hsi : (sizeL x n : Int) ≤ 2000 := by omega
  have hsi' : (sizeL y n' : Int) ≤ 2000 := by omega
  have hne : ((sizeL y n' : Int) == 0) = false := by simp; omega
  generalize sizeL x n = s at *
  generalize sizeL y n' = s' at *
  clear h h'
  go_enter Tryd.func28, Tryd.ntmps28
  go_wp2_with (first | (go_at_call_of 31 (Value.slice a n c); refine s1.mono ?_; rintro e w' ⟨rfl, rfl⟩) | (go_at_call_of 31 (Value.slice a' n' c'); refine s2.mono ?_; rintro e w' ⟨rfl, rfl⟩) | (go_at_call 45; refine t1.mono ?_; rintro e w1 ⟨g1, p1, rfl, hN1, hB1⟩; clear t1))
  have t3 := t2 _ hB1
  go_wp2_with (go_at_call 45; refine t3.mono ?_; rintro e w2 ⟨g2, p2, rfl, hN2, hB2⟩; clear t3)
  have hB := hB1.trans (hB2.mono hB1.size)
  have hN12 := hN1.next hB2
  have hov : Calls Tryd.prog 54 #[.slice (some ⟨g1, 0, none⟩) s p1, .slice (some ⟨g2, 0, none⟩) s' p2] w2 (OvOut (val x s) (val y s') w2) := by
    by_cases h1 : s' = 1
    · subst h1; exact over_one g1 g2 s p1 p2 x y w2 hs hN12 hN2 hss'
    · exact over_any g1 g2 s p1 s' p2 x y w2 hs hs' (by omega) hN12 hN2 hss hss'
  clear hN1 hN2 hN12
  go_wp2_with (go_at_call 54; refine hov.mono ?_; rintro e w3 ⟨g, k, cap, z, g', k', cap', z', rfl, hk, hk', hN, hN', hv, hv', hB3⟩)
  go_ret3
  exact ⟨g, k, cap, z, g', k', cap', z', rfl, hk, hk', hN, hN', hv, hv', hB.trans (hB3.mono hB.size)⟩

set_option maxHeartbeats 4000000 in
theorem natDivs_any (a a' : Option Addr) (n c n' c' : Nat) (x y : Nat → Int) (w : World) (h : Num w a n c x) (h' : Num w a' n' c' y) :
    Calls Tryd.prog 6 #[.slice a n c, .slice a' n' c'] w fun e w' => e = .returned (.bool true) ∧ Below w.heap.size w w' := by
  have hB : Below w.heap.size w w := Below.refl _ _
  by_cases hf : n ≤ 200 ∧ n' ≤ 200
  · obtain ⟨q1, q2⟩ := hf
    have i1 : (n : Int) ≤ 200 := by omega
    have i2 : (n' : Int) ≤ 200 := by omega
    have l1 := sizeL_le x n
    have l2 := sizeL_le y n'
    have HX : Hid (Num w a n c x) := h
    have HY : Hid (Num w a' n' c' y) := h'
    have HYW : Hid (Words y) := h'.2.2.1
    clear h h'
    by_cases hy0 : sizeL y n' = 0
    · have t1 := fun wr (hb : Below w.heap.size w wr) => ndiv_zero a a' n c n' c' x y wr (by omega) (by omega) (HX.out.next hb) (HY.out.next hb) hy0
      have t2 := fun wr (hb : Below w.heap.size w wr) => rdiv_zero a a' n c n' c' y wr (by omega) (HY.out.next hb) hy0
      have t3 := fun wr => lsame_any none none 0 0 0 0 (fun _ => 0) (fun _ => 0) wr (by omega) (by omega) (num_none wr) (num_none wr) rfl rfl
      go_enter Tryd.func6, Tryd.ntmps6
      go_wp2_with (first
        | (go_at_call 9; refine (awake_any _).mono ?_; rintro e wa ⟨rfl, hb⟩; replace hB := hB.trans (hb.mono hB.size))
        | (go_at_call 27; refine (t1 _ hB).mono ?_; rintro e w' ⟨rfl, rfl⟩)
        | (go_at_call 28; refine (t2 _ hB).mono ?_; rintro e w' ⟨rfl, rfl⟩)
        | (go_at_call 13; refine (t3 _).mono ?_; rintro e w' ⟨rfl, rfl⟩))
      go_ret
      exact ⟨rfl, hB⟩
    · have Yp : 0 < val y n' := by
        rw [← val_bare n']; exact val_pos HYW.out _ (by omega) (sizeL_sizeL y n')
      have hn0 : 0 < n' := by omega
      have t1 := fun wr (hb : Below w.heap.size w wr) => ndiv_any a a' n c n' c' x y wr (by omega) (by omega) (HX.out.next hb) (HY.out.next hb) (by omega) (by omega) (by omega)
      have t2 := fun wr (hb : Below w.heap.size w wr) => rdiv_any a a' n c n' c' x y wr (by omega) (by omega) (HX.out.next hb) (HY.out.next hb) (by omega) (by omega) (by omega)
      go_enter Tryd.func6, Tryd.ntmps6
      go_wp2_with (first
        | (go_at_call 9; refine (awake_any _).mono ?_; rintro e wa ⟨rfl, hb⟩; replace hB := hB.trans (hb.mono hB.size))
        | (go_at_call 27; refine (t1 _ hB).mono ?_; rintro e w1 ⟨o1, k1, p1, z1, o2, k2, p2, z2, rfl, hk1, hk2, hN1, hN2, hv1, hv2, hs1, hs2, hb⟩; replace hB := hB.trans (hb.mono hB.size); clear t1 hb)
        | (go_at_call 28; refine (t2 _ hB).mono ?_; rintro e w3 ⟨g3, k3, p3, z3, g4, k4, p4, z4, rfl, hk3, hk4, hN3, hN4, hv3, hv4, hb⟩; replace hB := hB.trans (hb.mono hB.size); replace hN1 := hN1.next hb; replace hN2 := hN2.next hb; clear t2 hb))
      have t3 := lsame_any _ _ _ _ _ _ _ _ _ (by omega) (by omega) hN1 hN3 (hv1.trans hv3.symm) hs1
      have t4 := lsame_any _ _ _ _ _ _ _ _ _ (by omega) (by omega) hN2 hN4 (hv2.trans hv4.symm) hs2
      clear hN3 hN4
      go_wp2_with (go_at_call 13; refine t3.mono ?_; rintro e w' ⟨rfl, rfl⟩; clear t3)
      go_wp2_with (go_at_call 13; refine t4.mono ?_; rintro e w' ⟨rfl, rfl⟩; clear t4)
      have t9 := times_opt _ _ _ _ _ _ _ _ _ (by omega) (by omega) hN1 (HY.out.next hB) hn0
      go_wp2_with (go_at_call 30; refine t9.mono ?_; rintro e w9 ⟨g9, k9, p9, z9, rfl, hk9, hN9, hv9, hb⟩; replace hB := hB.trans (hb.mono hB.size); replace hN2 := hN2.next hb; clear t9 hb hN1)
      have t10 := radd_val _ _ _ _ _ _ _ _ _ (by omega) (by omega) hN9 hN2
      go_wp2_with (go_at_call 18; refine t10.mono ?_; rintro e w10 ⟨g10, k10, p10, z10, rfl, hk10, hN10, hv10, hb⟩; replace hB := hB.trans (hb.mono hB.size); replace hN2 := hN2.next hb; clear t10 hb hN9)
      have t12 := rsame_any _ _ _ _ _ _ _ _ _ (by omega) (by omega) hN10 (HX.out.next hB) (by rw [hv10, hv9, hv1, hv2, Int.mul_comm]; exact Int.mul_ediv_add_emod _ _)
      go_wp2_with (go_at_call 29; refine t12.mono ?_; rintro e w' ⟨rfl, rfl⟩; clear t12 hN10)
      have t13 := rcmp_any _ _ _ _ _ _ _ _ _ (by omega) (by omega) hN2 (HY.out.next hB)
      have e13 : sgn (val z2 k2) (val y n') = -1 := by unfold sgn; rw [if_pos (by rw [hv2]; exact Int.emod_lt_of_pos _ Yp)]
      rw [e13] at t13
      clear hN2 e13
      go_wp2_with (go_at_call 16; refine t13.mono ?_; rintro e w12 ⟨rfl, rfl⟩; clear t13)
      go_ret
      exact ⟨rfl, hB⟩
  · have hf' : ¬ n ≤ 200 ∨ n ≤ 200 ∧ ¬ n' ≤ 200 := by omega
    clear h h'
    rcases hf' with h1 | ⟨h1, h2⟩
    · have i1 : (200 : Int) < n := by omega
      go_enter Tryd.func6, Tryd.ntmps6
      go_wp2_with (go_at_call 9; refine (awake_any _).mono ?_; rintro e wa ⟨rfl, hb⟩; replace hB := hB.trans (hb.mono hB.size))
      go_ret
      exact ⟨rfl, hB⟩
    · have i1 : (n : Int) ≤ 200 := by omega
      have i2 : (200 : Int) < n' := by omega
      go_enter Tryd.func6, Tryd.ntmps6
      go_wp2_with (go_at_call 9; refine (awake_any _).mono ?_; rintro e wa ⟨rfl, hb⟩; replace hB := hB.trans (hb.mono hB.size))
      go_ret
      exact ⟨rfl, hB⟩
end Go.Proofs.YtkbplchgaploeaaDoor
