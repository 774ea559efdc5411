/-
  What the law NatLaws does: it returns true.
-/
import Derived.Test.YtkbplchgaploeabDoorNmu
set_option linter.unusedVariables false
set_option linter.unusedSimpArgs false
namespace Go.Proofs.YtkbplchgaploeabDoor
open Go.RowKit

set_option maxHeartbeats 4000000 in
theorem natLaws_any (a a' a'' : Option Addr) (n c n' c' n'' c'' : Nat) (x y z : Nat → Int) (w : World) (h : Num w a n c x) (h' : Num w a' n' c' y) (h'' : Num w a'' n'' c'' z) :
    Calls Tryd.prog 4 #[.slice a n c, .slice a' n' c', .slice a'' n'' c''] w fun e w' => e = .returned (.bool true) ∧ Below w.heap.size w w' := by
  have hB : Below w.heap.size w w := Below.refl _ _
  by_cases hf : n ≤ 200 ∧ n' ≤ 200 ∧ n'' ≤ 200
  · obtain ⟨q1, q2, q3⟩ := hf
    have i1 : (n : Int) ≤ 200 := by omega
    have i2 : (n' : Int) ≤ 200 := by omega
    have i3 : (n'' : Int) ≤ 200 := by omega
    have l1 := sizeL_le x n
    have l2 := sizeL_le y n'
    have l3 := sizeL_le z n''
    have HX : Hid (Num w a n c x) := h
    have HY : Hid (Num w a' n' c' y) := h'
    have HZ : Hid (Num w a'' n'' c'' z) := h''
    clear h h' h''
    go_enter Tryd.func4, Tryd.ntmps4
    go_wp2_with (go_at_call 5; refine (awake_any _).mono ?_; rintro e wa ⟨rfl, hb⟩; replace hB := hB.trans (hb.mono hB.size))
    have t1 := nadd_any _ _ _ _ _ _ _ _ _ (by omega) (by omega) (HY.out.next hB) (HZ.out.next hB)
    go_wp2_with (go_at_call 12; refine t1.mono ?_; rintro e w1 ⟨g1, k1, p1, z1, rfl, hk1, hN1, hv1, hs1, hb⟩; replace hB := hB.trans (hb.mono hB.size); clear t1 hb)
    have t2 := nmul_any _ _ _ _ _ _ _ _ _ (by omega) (by omega) (HX.out.next hB) hN1 (by omega)
    go_wp2_with (go_at_call 11; refine t2.mono ?_; rintro e w2 ⟨g2, k2, p2, z2, rfl, hk2, hN2, hv2, hs2, hb⟩; replace hB := hB.trans (hb.mono hB.size); replace hN1 := hN1.next hb; clear t2 hb)
    have t3 := nmul_any _ _ _ _ _ _ _ _ _ (by omega) (by omega) (HX.out.next hB) (HY.out.next hB) (by omega)
    go_wp2_with (go_at_call 11; refine t3.mono ?_; rintro e w3 ⟨g3, k3, p3, z3, rfl, hk3, hN3, hv3, hs3, hb⟩; replace hB := hB.trans (hb.mono hB.size); replace hN1 := hN1.next hb; replace hN2 := hN2.next hb; clear t3 hb)
    have t4 := nmul_any _ _ _ _ _ _ _ _ _ (by omega) (by omega) (HZ.out.next hB) (HX.out.next hB) (by omega)
    go_wp2_with (go_at_call 11; refine t4.mono ?_; rintro e w4 ⟨g4, k4, p4, z4, rfl, hk4, hN4, hv4, hs4, hb⟩; replace hB := hB.trans (hb.mono hB.size); replace hN1 := hN1.next hb; replace hN2 := hN2.next hb; replace hN3 := hN3.next hb; clear t4 hb)
    have t5 := nmul_any _ _ _ _ _ _ _ _ _ (by omega) (by omega) hN2 (HZ.out.next hB) (by omega)
    go_wp2_with (go_at_call 11; refine t5.mono ?_; rintro e w5 ⟨g5, k5, p5, z5, rfl, hk5, hN5, hv5, hs5, hb⟩; replace hB := hB.trans (hb.mono hB.size); replace hN1 := hN1.next hb; replace hN2 := hN2.next hb; replace hN3 := hN3.next hb; replace hN4 := hN4.next hb; clear t5 hb)
    have t6 := nadd_any _ _ _ _ _ _ _ _ _ (by omega) (by omega) (HY.out.next hB) (HZ.out.next hB)
    go_wp2_with (go_at_call 12; refine t6.mono ?_; rintro e w6 ⟨g6, k6, p6, z6, rfl, hk6, hN6, hv6, hs6, hb⟩; replace hB := hB.trans (hb.mono hB.size); replace hN1 := hN1.next hb; replace hN2 := hN2.next hb; replace hN3 := hN3.next hb; replace hN4 := hN4.next hb; replace hN5 := hN5.next hb; clear t6 hb)
    have t7 := nmul_any _ _ _ _ _ _ _ _ _ (by omega) (by omega) hN6 hN4 (by omega)
    go_wp2_with (go_at_call 11; refine t7.mono ?_; rintro e w7 ⟨g7, k7, p7, z7, rfl, hk7, hN7, hv7, hs7, hb⟩; replace hB := hB.trans (hb.mono hB.size); replace hN1 := hN1.next hb; replace hN2 := hN2.next hb; replace hN3 := hN3.next hb; replace hN4 := hN4.next hb; replace hN5 := hN5.next hb; replace hN6 := hN6.next hb; clear t7 hb)
    have t8 := nadd_any _ _ _ _ _ _ _ _ _ (by omega) (by omega) hN4 hN3
    go_wp2_with (go_at_call 12; refine t8.mono ?_; rintro e w8 ⟨g8, k8, p8, z8, rfl, hk8, hN8, hv8, hs8, hb⟩; replace hB := hB.trans (hb.mono hB.size); replace hN1 := hN1.next hb; replace hN2 := hN2.next hb; replace hN3 := hN3.next hb; replace hN4 := hN4.next hb; replace hN5 := hN5.next hb; replace hN6 := hN6.next hb; replace hN7 := hN7.next hb; clear t8 hb)
    have s1 := lsame_any _ _ _ _ _ _ _ _ _ (by omega) (by omega) hN8 hN2 (by rw [hv8, hv4, hv3, hv2, hv1]; grind) hs8
    have s2 := lsame_any _ _ _ _ _ _ _ _ _ (by omega) (by omega) hN5 hN7 (by rw [hv5, hv7, hv2, hv1, hv6, hv4]; grind) hs5
    clear hN1 hN2 hN3 hN4 hN5 hN6 hN7 hN8
    go_wp2_with (go_at_call 10; refine s1.mono ?_; rintro e w' ⟨rfl, rfl⟩; clear s1)
    go_wp2_with (go_at_call 10; refine s2.mono ?_; rintro e w' ⟨rfl, rfl⟩; clear s2)
    go_ret
    exact ⟨rfl, hB⟩
  · have hf' : ¬ n ≤ 200 ∨ n ≤ 200 ∧ ¬ n' ≤ 200 ∨ n ≤ 200 ∧ n' ≤ 200 ∧ ¬ n'' ≤ 200 := by omega
    clear h h' h''
    rcases hf' with h1 | ⟨h1, h2⟩ | ⟨h1, h2, h3⟩
    · have i1 : (200 : Int) < n := by omega
      go_enter Tryd.func4, Tryd.ntmps4
      go_wp2_with (go_at_call 5; refine (awake_any _).mono ?_; rintro e wa ⟨rfl, hb⟩; replace hB := hB.trans (hb.mono hB.size))
      go_ret
      exact ⟨rfl, hB⟩
    · have i1 : (n : Int) ≤ 200 := by omega
      have i2 : (200 : Int) < n' := by omega
      go_enter Tryd.func4, Tryd.ntmps4
      go_wp2_with (go_at_call 5; refine (awake_any _).mono ?_; rintro e wa ⟨rfl, hb⟩; replace hB := hB.trans (hb.mono hB.size))
      go_ret
      exact ⟨rfl, hB⟩
    · have i1 : (n : Int) ≤ 200 := by omega
      have i2 : (n' : Int) ≤ 200 := by omega
      have i3 : (200 : Int) < n'' := by omega
      go_enter Tryd.func4, Tryd.ntmps4
      go_wp2_with (go_at_call 5; refine (awake_any _).mono ?_; rintro e wa ⟨rfl, hb⟩; replace hB := hB.trans (hb.mono hB.size))
      go_ret
      exact ⟨rfl, hB⟩
end Go.Proofs.YtkbplchgaploeabDoor
