/-
  Texts that the proof leans on, joined: Vr, Zo, Lai, Lift, Lfw, Lfd.
-/
import Derived.Test.YtjjaamdgochilaaDoorJ43
import Derived.Test.YtjjaamdgochilaaDoorJ1
import Derived.Test.YtjjaamdgochilaaDoorJ8
import Derived.Lib.SmallJoins
import Derived.ProofKit
import Derived.OpenShut
import Derived.Carry
import Derived.Deep.DeepHandedRow
import Derived.Test.YtjjaamdgochilaaDoorJ2
import Derived.Test.YtjjaamdgochilaaDoorJ15
set_option linter.unusedVariables false
set_option linter.unusedSectionVars false
set_option linter.unusedSimpArgs false
set_option maxRecDepth 20000
namespace Go.Proofs.YtjjaamdgochilaaDoor
open Go.RowKit
/-- a pattern with its highest bit turned -/
def vX (f : DF) (B : Nat) : Nat := if vS f B then B - 2 ^ (f.t + (f.w + 5)) else B + 2 ^ (f.t + (f.w + 5))
theorem vX_parts (f : DF) {B : Nat} (hB : B < 2 ^ (f.t + (f.w + 6))) : vX f B = (if !vS f B then 2 ^ (f.t + (f.w + 5)) else 0) + vG f B * 2 ^ f.t + vR f B := by
  have h := v_whole f hB
  unfold vX
  cases hs : vS f B
  · rw [hs] at h
    simp only [Bool.false_eq_true, if_false, Bool.not_false, if_true] at h ⊢
    omega
  · rw [hs] at h
    simp only [Bool.false_eq_true, if_false, Bool.not_true, if_true] at h ⊢
    omega
theorem vX_fields (f : DF) {B : Nat} (hB : B < 2 ^ (f.t + (f.w + 6))) : vR f (vX f B) = vR f B ∧ vG f (vX f B) = vG f B ∧ vS f (vX f B) = !vS f B := by
  rw [vX_parts f hB]
  exact v_parts f (!vS f B) (vG_lt f B) (vR_lt f B)
theorem vX_lt (f : DF) {B : Nat} (hB : B < 2 ^ (f.t + (f.w + 6))) : vX f B < 2 ^ (f.t + (f.w + 6)) := by
  have h1 := vG_lt f B
  have h2 := vR_lt f B
  rw [vX_parts f hB]
  have e5 : 2 ^ (f.t + (f.w + 5)) = 2 ^ (f.w + 5) * 2 ^ f.t := by rw [← Nat.pow_add, Nat.add_comm]
  have e6 : 2 ^ (f.t + (f.w + 6)) = 2 * (2 ^ (f.w + 5) * 2 ^ f.t) := by rw [← Nat.pow_add, ← Nat.pow_succ']; congr 1; omega
  have h3 : (if !vS f B then 2 ^ (f.t + (f.w + 5)) else 0) ≤ 2 ^ (f.w + 5) * 2 ^ f.t := by split <;> omega
  have h4 : (vG f B + 1) * 2 ^ f.t ≤ 2 ^ (f.w + 5) * 2 ^ f.t := Nat.mul_le_mul_right _ h1
  rw [Nat.add_mul, Nat.one_mul] at h4
  rw [e6]
  omega
/-- a datum with its sign turned -/
def vY (d : Dat) : Dat := ⟨d.c, !d.s, d.g, d.x, d.k⟩
theorem vD_turn (f : DF) (s : Bool) (G R : Nat) : vD f (!s) G R = vY (vD f s G R) := by
  unfold vD vY
  split
  · rfl
  · split <;> rfl
theorem vM_turn (f : DF) {B : Nat} (hB : B < 2 ^ (f.t + (f.w + 6))) : vM f (vX f B) = vY (vM f B) := by
  obtain ⟨e1, e2, e3⟩ := vX_fields f hB
  unfold vM
  rw [e1, e2, e3, vD_turn]
theorem vD_sign (f : DF) (s : Bool) (G R : Nat) : (vD f s G R).s = s := by
  unfold vD
  split
  · rfl
  · split <;> rfl
theorem vP_turn (f : DF) (d : Dat) : vP f d = (if d.s then 2 ^ (f.t + (f.w + 5)) else 0) + (vPG f d * 2 ^ f.t + vPR f d) ∧ vP f (vY d) = (if !d.s then 2 ^ (f.t + (f.w + 5)) else 0) + (vPG f d * 2 ^ f.t + vPR f d) := by
  unfold vP
  exact ⟨Nat.add_assoc _ _ _, Nat.add_assoc _ _ _⟩
theorem canon_turn (f : DF) {B : Nat} (hB : B < 2 ^ (f.t + (f.w + 6))) : vP f (vM f (vX f B)) = vX f B ↔ vP f (vM f B) = B := by
  rw [vM_turn f hB]
  obtain ⟨e1, e2⟩ := vP_turn f (vM f B)
  have hs : (vM f B).s = vS f B := vD_sign f _ _ _
  have hw : B = (if vS f B then 2 ^ (f.t + (f.w + 5)) else 0) + (vG f B * 2 ^ f.t + vR f B) := by rw [← Nat.add_assoc]; exact v_whole f hB
  rw [e1, e2, hs, vX_parts f hB, Nat.add_assoc]
  constructor
  · intro q
    have q' := Nat.add_left_cancel q
    rw [q']
    exact hw.symm
  · intro q
    have q' := Nat.add_left_cancel (q.trans hw)
    rw [q']
attribute [local irreducible] W4
section
variable (TT : World → Prop) (hTT : ∀ w w', TT w → Below w.heap.size w w' → TT w') (n : Int) (w : World) (hT : TT w)
  (c9 : ∀ W, TT W → Calls Tryd.prog 9 #[] W fun r w' => r = .returned (.bool true) ∧ Below W.heap.size W w') (B : Nat) (c x : Int) (s g : Bool) (k : Nat) (R : Bool)
include hTT hT c9
set_option maxHeartbeats 2000000 in
theorem signs_n (E : Int) (hE : (E != 0) = true)
    (u1 : ∀ W, TT W → Calls Tryd.prog 10 #[.int .i64 n, A4 B] W fun r w' => r = .returned (.tuple #[DV c s g x k, .bool R, .int .i64 E]) ∧ Below W.heap.size W w') :
    Calls Tryd.prog 8 #[.int .i64 n, A4 B] w fun r w' => r = .returned (.bool true) ∧ Below w.heap.size w w' := by
  have hsm := cell_set_map
  unfold DV A4 at *
  go_enter Tryd.func8, Tryd.ntmps8
  go_wp2_with (first
    | (go_at_call 9; refine (c9 _ (hTT _ _ hT bgo)).mono ?_; rintro r w1 ⟨rfl, hb1⟩; obtain ⟨hc1, hf1⟩ := bcell hb1; have hz1_0 : w.heap.size < w1.heap.size := lt_below hb1 ltg; have hl1_0 := Nat.le_of_lt hz1_0; have hA1 := bnext (w0 := w) bgo hb1; have hs1 := hA1.size; clear hb1)
    | (go_at_call 10; refine (u1 _ (hTT _ _ hT bgo)).mono ?_; rintro r w2 ⟨rfl, hb2⟩; obtain ⟨hc2, hf2⟩ := bcell hb2; have hz2_0 : w.heap.size < w2.heap.size := lt_below hb2 ltg; have hl2_0 := Nat.le_of_lt hz2_0; have hA2 := bnext (w0 := w) bgo hb2; have hs2 := hA2.size; clear hb2))
  go_ret
  exact ⟨by first | rfl | simp, bgo⟩
set_option maxHeartbeats 4000000 in
theorem signs_a (X : Int) (s2 : Bool) (hs2 : (!s2) = s) (hn0 : 7 ≤ n) (hn1 : n ≤ 12) (hm : (n - 7) % 3 = 0) (hX : bits .xor .u64 (W4 B 0) 2147483648 = X)
    (u1 : ∀ W, TT W → Calls Tryd.prog 10 #[.int .i64 n, A4 B] W fun r w' => r = .returned (.tuple #[DV c s g x k, .bool R, .int .i64 0]) ∧ Below W.heap.size W w')
    (u2 : ∀ W, TT W → Calls Tryd.prog 10 #[.int .i64 n, .agg #[.int .u64 X, .int .u64 (W4 B 1), .int .u64 (W4 B 2), .int .u64 (W4 B 3)]] W fun r w' => r = .returned (.tuple #[DV c s2 g x k, .bool R, .int .i64 0]) ∧ Below W.heap.size W w') :
    Calls Tryd.prog 8 #[.int .i64 n, A4 B] w fun r w' => r = .returned (.bool true) ∧ Below w.heap.size w w' := by
  have hD := DV_same c x s g k
  have hsm := cell_set_map
  unfold DV A4 at *
  go_enter Tryd.func8, Tryd.ntmps8
  go_wp2_with (first
    | (go_at_call 9; refine (c9 _ (hTT _ _ hT bgo)).mono ?_; rintro r w1 ⟨rfl, hb1⟩; obtain ⟨hc1, hf1⟩ := bcell hb1; have hz1_0 : w.heap.size < w1.heap.size := lt_below hb1 ltg; have hl1_0 := Nat.le_of_lt hz1_0; have hA1 := bnext (w0 := w) bgo hb1; have hs1 := hA1.size; clear hb1)
    | (go_at_call 10; refine (u1 _ (hTT _ _ hT bgo)).mono ?_; rintro r w2 ⟨rfl, hb2⟩; clear u1; obtain ⟨hc2, hf2⟩ := bcell hb2; have hz2_0 : w.heap.size < w2.heap.size := lt_below hb2 ltg; have hl2_0 := Nat.le_of_lt hz2_0; have hA2 := bnext (w0 := w) bgo hb2; have hs2 := hA2.size; clear hb2; have q2_0 : w.heap.size < w2.heap.size + 1 + 1 := (by omega); have q2_1 : w2.heap.size < w2.heap.size + 1 + 1 := (by omega); have q2_2 : w2.heap.size + 1 < w2.heap.size + 1 + 1 := (by omega); have q3_0 : w.heap.size < w2.heap.size + 1 + 1 + 1 := (by omega); have q3_1 : w2.heap.size < w2.heap.size + 1 + 1 + 1 := (by omega); have q3_2 : w2.heap.size + 1 < w2.heap.size + 1 + 1 + 1 := (by omega))
    | (go_at_call 10; refine (u2 _ (hTT _ _ hT bgo)).mono ?_; rintro r w3 ⟨rfl, hb3⟩; obtain ⟨hc3, hf3⟩ := bcell hb3; have hz3_0 : w.heap.size < w3.heap.size := lt_below hb3 ltg; have hl3_0 := Nat.le_of_lt hz3_0; have hz3_1 : w2.heap.size < w3.heap.size := lt_below hb3 ltg; have hl3_1 := Nat.le_of_lt hz3_1; have hz3_2 : w2.heap.size + 1 < w3.heap.size := lt_below hb3 ltg; have hl3_2 := Nat.le_of_lt hz3_2; have hz3_3 : w2.heap.size + 1 + 1 < w3.heap.size := lt_below hb3 ltg; have hl3_3 := Nat.le_of_lt hz3_3; have hA3 := bnext (w0 := w) bgo hb3; have hs3 := hA3.size; clear hb3))
  go_ret
  exact ⟨by first | rfl | simp, bgo⟩
set_option maxHeartbeats 4000000 in
theorem signs_b (X : Int) (s2 : Bool) (hs2 : (!s2) = s) (hn0 : 7 ≤ n) (hn1 : n ≤ 12) (hm : (n - 7) % 3 = 1) (hX : bits .xor .u64 (W4 B 0) 9223372036854775808 = X)
    (u1 : ∀ W, TT W → Calls Tryd.prog 10 #[.int .i64 n, A4 B] W fun r w' => r = .returned (.tuple #[DV c s g x k, .bool R, .int .i64 0]) ∧ Below W.heap.size W w')
    (u2 : ∀ W, TT W → Calls Tryd.prog 10 #[.int .i64 n, .agg #[.int .u64 X, .int .u64 (W4 B 1), .int .u64 (W4 B 2), .int .u64 (W4 B 3)]] W fun r w' => r = .returned (.tuple #[DV c s2 g x k, .bool R, .int .i64 0]) ∧ Below W.heap.size W w') :
    Calls Tryd.prog 8 #[.int .i64 n, A4 B] w fun r w' => r = .returned (.bool true) ∧ Below w.heap.size w w' := by
  have hD := DV_same c x s g k
  have hsm := cell_set_map
  unfold DV A4 at *
  go_enter Tryd.func8, Tryd.ntmps8
  go_wp2_with (first
    | (go_at_call 9; refine (c9 _ (hTT _ _ hT bgo)).mono ?_; rintro r w1 ⟨rfl, hb1⟩; obtain ⟨hc1, hf1⟩ := bcell hb1; have hz1_0 : w.heap.size < w1.heap.size := lt_below hb1 ltg; have hl1_0 := Nat.le_of_lt hz1_0; have hA1 := bnext (w0 := w) bgo hb1; have hs1 := hA1.size; clear hb1)
    | (go_at_call 10; refine (u1 _ (hTT _ _ hT bgo)).mono ?_; rintro r w2 ⟨rfl, hb2⟩; clear u1; obtain ⟨hc2, hf2⟩ := bcell hb2; have hz2_0 : w.heap.size < w2.heap.size := lt_below hb2 ltg; have hl2_0 := Nat.le_of_lt hz2_0; have hA2 := bnext (w0 := w) bgo hb2; have hs2 := hA2.size; clear hb2; have q2_0 : w.heap.size < w2.heap.size + 1 + 1 := (by omega); have q2_1 : w2.heap.size < w2.heap.size + 1 + 1 := (by omega); have q2_2 : w2.heap.size + 1 < w2.heap.size + 1 + 1 := (by omega); have q3_0 : w.heap.size < w2.heap.size + 1 + 1 + 1 := (by omega); have q3_1 : w2.heap.size < w2.heap.size + 1 + 1 + 1 := (by omega); have q3_2 : w2.heap.size + 1 < w2.heap.size + 1 + 1 + 1 := (by omega))
    | (go_at_call 10; refine (u2 _ (hTT _ _ hT bgo)).mono ?_; rintro r w3 ⟨rfl, hb3⟩; obtain ⟨hc3, hf3⟩ := bcell hb3; have hz3_0 : w.heap.size < w3.heap.size := lt_below hb3 ltg; have hl3_0 := Nat.le_of_lt hz3_0; have hz3_1 : w2.heap.size < w3.heap.size := lt_below hb3 ltg; have hl3_1 := Nat.le_of_lt hz3_1; have hz3_2 : w2.heap.size + 1 < w3.heap.size := lt_below hb3 ltg; have hl3_2 := Nat.le_of_lt hz3_2; have hz3_3 : w2.heap.size + 1 + 1 < w3.heap.size := lt_below hb3 ltg; have hl3_3 := Nat.le_of_lt hz3_3; have hA3 := bnext (w0 := w) bgo hb3; have hs3 := hA3.size; clear hb3))
  go_ret
  exact ⟨by first | rfl | simp, bgo⟩
set_option maxHeartbeats 4000000 in
theorem signs_c (X : Int) (s2 : Bool) (hs2 : (!s2) = s) (hn0 : 7 ≤ n) (hn1 : n ≤ 12) (hm : (n - 7) % 3 = 2) (hX : bits .xor .u64 (W4 B 1) 9223372036854775808 = X)
    (u1 : ∀ W, TT W → Calls Tryd.prog 10 #[.int .i64 n, A4 B] W fun r w' => r = .returned (.tuple #[DV c s g x k, .bool R, .int .i64 0]) ∧ Below W.heap.size W w')
    (u2 : ∀ W, TT W → Calls Tryd.prog 10 #[.int .i64 n, .agg #[.int .u64 (W4 B 0), .int .u64 X, .int .u64 (W4 B 2), .int .u64 (W4 B 3)]] W fun r w' => r = .returned (.tuple #[DV c s2 g x k, .bool R, .int .i64 0]) ∧ Below W.heap.size W w') :
    Calls Tryd.prog 8 #[.int .i64 n, A4 B] w fun r w' => r = .returned (.bool true) ∧ Below w.heap.size w w' := by
  have hD := DV_same c x s g k
  have hsm := cell_set_map
  unfold DV A4 at *
  go_enter Tryd.func8, Tryd.ntmps8
  go_wp2_with (first
    | (go_at_call 9; refine (c9 _ (hTT _ _ hT bgo)).mono ?_; rintro r w1 ⟨rfl, hb1⟩; obtain ⟨hc1, hf1⟩ := bcell hb1; have hz1_0 : w.heap.size < w1.heap.size := lt_below hb1 ltg; have hl1_0 := Nat.le_of_lt hz1_0; have hA1 := bnext (w0 := w) bgo hb1; have hs1 := hA1.size; clear hb1)
    | (go_at_call 10; refine (u1 _ (hTT _ _ hT bgo)).mono ?_; rintro r w2 ⟨rfl, hb2⟩; clear u1; obtain ⟨hc2, hf2⟩ := bcell hb2; have hz2_0 : w.heap.size < w2.heap.size := lt_below hb2 ltg; have hl2_0 := Nat.le_of_lt hz2_0; have hA2 := bnext (w0 := w) bgo hb2; have hs2 := hA2.size; clear hb2; have q2_0 : w.heap.size < w2.heap.size + 1 + 1 := (by omega); have q2_1 : w2.heap.size < w2.heap.size + 1 + 1 := (by omega); have q2_2 : w2.heap.size + 1 < w2.heap.size + 1 + 1 := (by omega); have q3_0 : w.heap.size < w2.heap.size + 1 + 1 + 1 := (by omega); have q3_1 : w2.heap.size < w2.heap.size + 1 + 1 + 1 := (by omega); have q3_2 : w2.heap.size + 1 < w2.heap.size + 1 + 1 + 1 := (by omega))
    | (go_at_call 10; refine (u2 _ (hTT _ _ hT bgo)).mono ?_; rintro r w3 ⟨rfl, hb3⟩; obtain ⟨hc3, hf3⟩ := bcell hb3; have hz3_0 : w.heap.size < w3.heap.size := lt_below hb3 ltg; have hl3_0 := Nat.le_of_lt hz3_0; have hz3_1 : w2.heap.size < w3.heap.size := lt_below hb3 ltg; have hl3_1 := Nat.le_of_lt hz3_1; have hz3_2 : w2.heap.size + 1 < w3.heap.size := lt_below hb3 ltg; have hl3_2 := Nat.le_of_lt hz3_2; have hz3_3 : w2.heap.size + 1 + 1 < w3.heap.size := lt_below hb3 ltg; have hl3_3 := Nat.le_of_lt hz3_3; have hA3 := bnext (w0 := w) bgo hb3; have hs3 := hA3.size; clear hb3))
  go_ret
  exact ⟨by first | rfl | simp, bgo⟩
end
theorem xor_top {y r : Nat} (h : y < 2 ^ r) : y ^^^ 2 ^ r = y + 2 ^ r := by
  rw [Nat.add_comm y, show 2 ^ r + y = 2 ^ r * 1 + y by omega, Nat.two_pow_add_eq_or_of_lt h]
  apply Nat.eq_of_testBit_eq
  intro j
  simp only [Nat.testBit_xor, Nat.testBit_or, Nat.mul_one, Nat.testBit_two_pow]
  by_cases e : r = j
  · subst e
    simp [Nat.testBit_lt_two_pow h]
  · simp [e]
/-- the highest bit turned -/
theorem xor_turn {y r : Nat} (h : y < 2 ^ (r + 1)) : y ^^^ 2 ^ r = if 2 ^ r ≤ y then y - 2 ^ r else y + 2 ^ r := by
  by_cases hy : 2 ^ r ≤ y
  · rw [if_pos hy]
    have hz : y - 2 ^ r < 2 ^ r := by rw [Nat.pow_succ] at h; omega
    have e := xor_top hz
    rw [Nat.sub_add_cancel hy] at e
    have e2 : (y - 2 ^ r) ^^^ 2 ^ r ^^^ 2 ^ r = y - 2 ^ r := by rw [Nat.xor_assoc, Nat.xor_self, Nat.xor_zero]
    rw [e] at e2
    exact e2
  · rw [if_neg hy]
    exact xor_top (by omega)
theorem vS_iff (f : DF) {B : Nat} (hB : B < 2 ^ (f.t + (f.w + 6))) : vS f B = decide (2 ^ (f.t + (f.w + 5)) ≤ B) := by
  have h := v_whole f hB
  have h1 := vG_lt f B
  have h2 := vR_lt f B
  have e5 : 2 ^ (f.t + (f.w + 5)) = 2 ^ (f.w + 5) * 2 ^ f.t := by rw [← Nat.pow_add, Nat.add_comm]
  have h4 : (vG f B + 1) * 2 ^ f.t ≤ 2 ^ (f.w + 5) * 2 ^ f.t := Nat.mul_le_mul_right _ h1
  rw [Nat.add_mul, Nat.one_mul] at h4
  cases hs : vS f B
  · rw [hs] at h
    simp only [Bool.false_eq_true, if_false] at h
    rw [eq_comm, decide_eq_false_iff_not]
    omega
  · rw [hs] at h
    simp only [if_true] at h
    rw [eq_comm, decide_eq_true_eq]
    omega
theorem vX_eq (f : DF) {B : Nat} (hB : B < 2 ^ (f.t + (f.w + 6))) : vX f B = if 2 ^ (f.t + (f.w + 5)) ≤ B then B - 2 ^ (f.t + (f.w + 5)) else B + 2 ^ (f.t + (f.w + 5)) := by
  unfold vX
  rw [vS_iff f hB]
  simp only [decide_eq_true_eq]
section
attribute [local semireducible] W4
/-- words of patterns of 32 and 64 bits, and of 128 -/
theorem word_low {B : Nat} (h : B < 18446744073709551616) : W4 B 0 = (B : Int) ∧ W4 B 1 = 0 ∧ W4 B 2 = 0 ∧ W4 B 3 = 0 := by
  unfold W4
  simp only [Nat.mul_zero, Nat.pow_zero, Nat.div_one, Nat.reduceMul, Nat.reducePow]
  omega
theorem word_two {B : Nat} (h : B < 340282366920938463463374607431768211456) : W4 B 0 = ((B % 18446744073709551616 : Nat) : Int) ∧ W4 B 1 = ((B / 18446744073709551616 : Nat) : Int) ∧ W4 B 2 = 0 ∧ W4 B 3 = 0 := by
  unfold W4
  simp only [Nat.mul_zero, Nat.pow_zero, Nat.div_one, Nat.reduceMul, Nat.reducePow]
  refine ⟨trivial, ?_, ?_, ?_⟩
  · rw [Nat.mod_eq_of_lt]
    rw [Nat.div_lt_iff_lt_mul (by decide)]
    exact h
  · rw [Nat.div_eq_of_lt h]; rfl
  · rw [Nat.div_eq_of_lt (Nat.lt_trans h (by decide))]; rfl
end
theorem xor_a {B : Nat} (h : B < 4294967296) : bits .xor .u64 (B : Int) 2147483648 = ((if 2147483648 ≤ B then B - 2147483648 else B + 2147483648 : Nat) : Int) := by
  have e := u64_xor_nat B 2147483648 (by omega) (by decide)
  rw [xor_turn (y := B) (r := 31) (by omega)] at e
  exact e
theorem xor_b {B : Nat} (h : B < 18446744073709551616) : bits .xor .u64 (B : Int) 9223372036854775808 = ((if 9223372036854775808 ≤ B then B - 9223372036854775808 else B + 9223372036854775808 : Nat) : Int) := by
  have e := u64_xor_nat B 9223372036854775808 (by omega) (by decide)
  rw [xor_turn (y := B) (r := 63) (by omega)] at e
  exact e
theorem signs_v {TT : World → Prop} (h : DecC TT) (n : Int) (B : Nat) (w : World) (hT : TT w) (hB : B < 2 ^ 256) :
    Calls Tryd.prog 8 #[.int .i64 n, A4 B] w fun r w' => r = .returned (.bool true) ∧ Below w.heap.size w w' := by
  have u1 := h.unp n B hB
  by_cases hg : goodD n B
  · obtain ⟨e1, e2, e3⟩ := vU_good hg
    have hg2 : goodD n (vX (fD n) B) := ⟨hg.1, vX_lt (fD n) hg.2⟩
    obtain ⟨f1, f2, f3⟩ := vU_good hg2
    have u2 := h.unp n (vX (fD n) B) (goodD_256 hg2)
    have hc : decide (vP (fD n) (vM (fD n) (vX (fD n) B)) = vX (fD n) B) = decide (vP (fD n) (vM (fD n) B) = B) := decide_eq_decide.2 (canon_turn (fD n) hg.2)
    rw [f1, f2, f3, hc, vM_turn (fD n) hg.2] at u2
    rw [e1, e2, e3] at u1
    have hn := hg.1
    have hlt := hg.2
    have hX := vX_eq (fD n) hg.2
    have hXlt := vX_lt (fD n) hg.2
    have hs2 : (!(vY (vM (fD n) B)).s) = (vM (fD n) B).s := by unfold vY; simp
    obtain ⟨n0, n1⟩ := id hn
    generalize vX (fD n) B = X at *
    have hsh : ((n - 7) % 3 = 0 ∧ (fD n).t = 20 ∧ (fD n).w = 6) ∨ ((n - 7) % 3 = 1 ∧ (fD n).t = 50 ∧ (fD n).w = 8) ∨ ((n - 7) % 3 = 2 ∧ (fD n).t = 110 ∧ (fD n).w = 12) := by
      rcases dec_cases hn with rfl | rfl | rfl | rfl | rfl | rfl <;> decide
    rcases hsh with ⟨hm, ht, hw⟩ | ⟨hm, ht, hw⟩ | ⟨hm, ht, hw⟩ <;> rw [ht, hw] at hlt hX hXlt <;> simp only [Nat.reduceAdd, Nat.reducePow] at hlt hX hXlt
    · obtain ⟨a0, a1, a2, a3⟩ := word_low (B := B) (by omega)
      obtain ⟨b0, b1, b2, b3⟩ := word_low (B := X) (by omega)
      have hx := xor_a hlt
      rw [← hX, ← a0] at hx
      refine signs_a TT h.next n w hT h.awk B _ _ _ _ _ _ (X : Int) _ hs2 n0 n1 hm hx u1 ?_
      rw [a1, a2, a3]
      unfold A4 at u2
      rw [b0, b1, b2, b3] at u2
      exact u2
    · obtain ⟨a0, a1, a2, a3⟩ := word_low (B := B) (by omega)
      obtain ⟨b0, b1, b2, b3⟩ := word_low (B := X) (by omega)
      have hx := xor_b hlt
      rw [← hX, ← a0] at hx
      refine signs_b TT h.next n w hT h.awk B _ _ _ _ _ _ (X : Int) _ hs2 n0 n1 hm hx u1 ?_
      rw [a1, a2, a3]
      unfold A4 at u2
      rw [b0, b1, b2, b3] at u2
      exact u2
    · obtain ⟨a0, a1, a2, a3⟩ := word_two (B := B) (by omega)
      obtain ⟨b0, b1, b2, b3⟩ := word_two (B := X) (by omega)
      have hx := xor_b (B := B / 18446744073709551616) (by omega)
      have hd : (if 9223372036854775808 ≤ B / 18446744073709551616 then B / 18446744073709551616 - 9223372036854775808 else B / 18446744073709551616 + 9223372036854775808) = X / 18446744073709551616 := by
        rw [hX]
        by_cases q : 170141183460469231731687303715884105728 ≤ B
        · rw [if_pos q, if_pos (by omega)]; omega
        · rw [if_neg q, if_neg (by omega)]; omega
      have hlo : X % 18446744073709551616 = B % 18446744073709551616 := by
        rw [hX]
        split <;> omega
      rw [hd, ← a1] at hx
      refine signs_c TT h.next n w hT h.awk B _ _ _ _ _ _ ((X / 18446744073709551616 : Nat) : Int) _ hs2 n0 n1 hm hx u1 ?_
      rw [a0, a2, a3]
      unfold A4 at u2
      rw [b0, b1, b2, b3, hlo] at u2
      exact u2
  · obtain ⟨e1, e2, e3⟩ := vU_bad hg
    exact signs_n TT h.next n w hT h.awk B _ _ _ _ _ _ _ (by rw [e3]; rfl) u1
end Go.Proofs.YtjjaamdgochilaaDoor

namespace Go.Proofs.YtjjaamdgochilaaDoor
open Go.RowKit
theorem decimalUnpacks_any (n : Int) (B : Nat) (w : World) (hT : Tab w) (hB : B < 2 ^ 256) : Calls Tryd.prog 3 #[.int .i64 n, A4 B] w fun r w' => r = .returned (.bool true) ∧ Below w.heap.size w w' := unpacks_v decC n B w hT hB
theorem decimalPacks_any (n : Int) (d : Dat) (w : World) (hT : Tab w) (hk : d.k < 2 ^ 256) : Calls Tryd.prog 4 #[.int .i64 n, d.v] w fun r w' => r = .returned (.bool true) ∧ Below w.heap.size w w' := packs_v decC n d w hT hk
theorem decimalBack_any (n : Int) (d : Dat) (B : Nat) (w : World) (hT : Tab w) (hk : d.k < 2 ^ 256) (hB : B < 2 ^ 256) : Calls Tryd.prog 5 #[.int .i64 n, d.v, A4 B] w fun r w' => r = .returned (.bool true) ∧ Below w.heap.size w w' := back_v decC n d B w hT hk hB
theorem decimalCanonical_any (n : Int) (B : Nat) (w : World) (hT : Tab w) (hB : B < 2 ^ 256) : Calls Tryd.prog 6 #[.int .i64 n, A4 B] w fun r w' => r = .returned (.bool true) ∧ Below w.heap.size w w' := canon_v decC dcann14 n B w hT hB
theorem decimalApart_any (n : Int) (a b : Dat) (w : World) (hT : Tab w) (ha : a.k < 2 ^ 256) (hb : b.k < 2 ^ 256) : Calls Tryd.prog 7 #[.int .i64 n, a.v, b.v] w fun r w' => r = .returned (.bool true) ∧ Below w.heap.size w w' := apart_v decC n a b w hT ha hb
theorem decimalSigns_any (n : Int) (B : Nat) (w : World) (hT : Tab w) (hB : B < 2 ^ 256) : Calls Tryd.prog 8 #[.int .i64 n, A4 B] w fun r w' => r = .returned (.bool true) ∧ Below w.heap.size w w' := signs_v decC n B w hT hB
end Go.Proofs.YtjjaamdgochilaaDoor

namespace Go.Proofs.YtjjaamdgochilaaDoor
open Go.RowKit

section
variable {H : Type} {enc : TypeId × Value → H} {W : World} {base : Nat} {sp : Nat → Bool} {held : Bool}
theorem u59 : ∃ a b c d, Tryd.prog.underlying 104 = some (.struct #[a, b, c, d]) ∧ a.offset = 0 ∧ b.offset = 1 ∧ c.offset = 2 ∧ d.offset = 3 ∧ a.type = 9 ∧ b.type = 3 ∧ c.type = 3 ∧ d.type = 3 :=
  ⟨_, _, _, _, Tryd.underlying104, rfl, rfl, rfl, rfl, rfl, rfl, rfl, rfl⟩
theorem c9 : Tryd.prog.cellsOf 9 = 1 := by kernel_rfl
theorem c3 : Tryd.prog.cellsOf 3 = 1 := by kernel_rfl
theorem c59 : Tryd.prog.cellsOf 104 = 4 := by kernel_rfl
theorem c60 : Tryd.prog.cellsOf 105 = 48 := by kernel_rfl
theorem u60 : Tryd.prog.underlying 105 = some (.array 12 104) := by kernel_rfl
theorem row_cells {fuel : Nat} {cs : List Value} {nm : List UInt8} {a b c : Int} {p : DataW H × List MemPlace} (hp : p.1 = .agg [.lit (.string nm), .lit (.int .i64 a), .lit (.int .i64 b), .lit (.int .i64 c)])
    (h : DataW.trod enc Tryd.prog W base sp held fuel 104 cs = some p) : cs = [.string ⟨nm.toArray⟩, .int .i64 a, .int .i64 b, .int .i64 c] := by
  obtain ⟨f0, f1, f2, f3, hu, o0, o1, o2, o3, t0, t1, t2, t3⟩ := u59
  obtain ⟨y0, y1, y2, y3, n, rfl, hl, h0, h1, h2, h3⟩ := Joins.trod_struct4 hu h
  rw [o0, t0, c9] at h0
  rw [o1, t1, c3] at h1
  rw [o2, t2, c3] at h2
  rw [o3, t3, c3] at h3
  obtain ⟨s, hs, rfl, _⟩ := DataW.trod_string Tryd.underlying9 h0
  obtain ⟨z1, hz1, rfl, _⟩ := DataW.trod_int Tryd.underlying3 h1
  obtain ⟨z2, hz2, rfl, _⟩ := DataW.trod_int Tryd.underlying3 h2
  obtain ⟨z3, hz3, rfl, _⟩ := DataW.trod_int Tryd.underlying3 h3
  simp only [DataW.agg.injEq, List.cons.injEq, DataW.lit.injEq, Lit.string.injEq, Lit.int.injEq, true_and, and_true] at hp
  obtain ⟨rfl, rfl, rfl, rfl⟩ := hp
  rw [c59] at hl
  match cs, hl with
  | [v0, v1, v2, v3], _ =>
    simp at hs hz1 hz2 hz3
    subst hs hz1 hz2 hz3
    rfl
theorem row_at {cs : List Value} {i : Nat} {v0 v1 v2 v3 : Value} (h : (cs.drop (i * 4)).take 4 = [v0, v1, v2, v3]) : cs[i * 4]? = some v0 ∧ cs[i * 4 + 1]? = some v1 ∧ cs[i * 4 + 2]? = some v2 ∧ cs[i * 4 + 3]? = some v3 := by
  have g : ∀ k, k < 4 → cs[i * 4 + k]? = [v0, v1, v2, v3][k]? := fun k hk => by
    rw [← h, List.getElem?_take_of_lt hk, List.getElem?_drop]
  exact ⟨g 0 (by decide), g 1 (by decide), g 2 (by decide), g 3 (by decide)⟩
theorem tab_of_trod {fuel : Nat} {cs : List Value} {p : List MemPlace} (h : DataW.trod enc Tryd.prog W base sp held fuel 105 cs = some (Rows.laid_caliper_desc_rows, p)) :
    ∀ i k, i < 12 → k < 4 → cs[i * 4 + k]? = some (rowV i k) := by
  cases fuel with
  | zero => simp [DataW.trod] at h
  | succ fuel =>
    simp only [DataW.trod, u60, c59, c60] at h
    split at h
    · rename_i hl
      obtain ⟨xs, hm, hx⟩ := Option.map_eq_some_iff.1 h
      have hxs := congrArg Prod.fst hx
      simp only [Rows.laid_caliper_desc_rows, DataW.agg.injEq] at hxs
      intro i k hi hk
      obtain ⟨b, hb, hf⟩ := Lib.mapM_at hm i i (by simp [hi])
      have hd : (xs.map (·.1))[i]? = some b.1 := by simp [hb]
      rw [hxs] at hd
      have key : ∀ (nm : List UInt8) (x y z : Int), b.1 = .agg [.lit (.string nm), .lit (.int .i64 x), .lit (.int .i64 y), .lit (.int .i64 z)] → cs[i * 4]? = some (.string ⟨nm.toArray⟩) ∧ cs[i * 4 + 1]? = some (.int .i64 x) ∧ cs[i * 4 + 2]? = some (.int .i64 y) ∧ cs[i * 4 + 3]? = some (.int .i64 z) :=
        fun nm x y z e => row_at (row_cells e hf)
      have hk' : k = 0 ∨ k = 1 ∨ k = 2 ∨ k = 3 := by omega
      have hi' : i = 0 ∨ i = 1 ∨ i = 2 ∨ i = 3 ∨ i = 4 ∨ i = 5 ∨ i = 6 ∨ i = 7 ∨ i = 8 ∨ i = 9 ∨ i = 10 ∨ i = 11 := by omega
      rcases hi' with rfl | rfl | rfl | rfl | rfl | rfl | rfl | rfl | rfl | rfl | rfl | rfl
      all_goals
        obtain ⟨q0, q1, q2, q3⟩ := key _ _ _ _ (Option.some.inj hd).symm
        rcases hk' with rfl | rfl | rfl | rfl
        · exact q0
        · exact q1
        · exact q2
        · exact q3
    · cases h
end
theorem tab_of_laid {W : World} {rest : List (String × DataW Unit)} (h : laidMet Tryd.prog (("caliper/desc.rows", Rows.laid_caliper_desc_rows) :: rest) W) : Tab W := by
  obtain ⟨ps, ⟨g', t', cs, fuel, p, q, hg', ht', hvar, hd, _, _⟩, _⟩ := h
  have hg : Tryd.prog.globalNamed "caliper/desc.rows" = some 0 := by kernel_rfl
  have hty : (Tryd.prog.globals[0]?).map (·.type) = some 105 := by kernel_rfl
  obtain rfl := Option.some.inj (hg.symm.trans hg')
  obtain rfl := Option.some.inj (hty.symm.trans ht')
  have hc := tab_of_trod hd
  have hcell : ∀ i k, i < 12 → k < 4 → W.cell? ⟨0, i * 4 + k, none⟩ = some (rowV i k) := fun i k hi hk => by
    have := World.var?_cell hg hvar (i * 4 + k)
    rw [this, ← hc i k hi hk]
    simp
  refine ⟨?_, hcell⟩
  have h0 := hcell 0 0 (by decide) (by decide)
  by_cases hz : 0 < W.heap.size
  · exact hz
  · have : W.heap[0]? = none := Array.getElem?_eq_none (by omega)
    simp [World.cell?, this] at h0
end Go.Proofs.YtjjaamdgochilaaDoor

namespace Go.Proofs.YtjjaamdgochilaaDoor
open Go.ChangeShapes Go.WideShapes Go.ChangeAt Go.RowKit

theorem Tryd.own : ownKnob Tryd.prog.godebug = none := by kernel_rfl
theorem Tryd.laidOut : laidOutB Tryd.prog = true := by kernel_rfl
def tabCells : Array Value := ((List.range 12).flatMap fun i => (List.range 4).map fun k => rowV i k).toArray
def layCells (c : Array Value) : Obj → Obj
  | .cells _ t frozen => .cells c t frozen
  | o => o
noncomputable def laidWorld (os : Os) : World :=
  { World.holding Tryd.prog os ⟨#[], #[], []⟩ with heap := (World.holding Tryd.prog os ⟨#[], #[], []⟩).heap.modify 0 (layCells tabCells) }
end Go.Proofs.YtjjaamdgochilaaDoor

set_option maxRecDepth 100000
set_option maxRecDepth 20000
namespace Go.Proofs.YtjjaamdgochilaaDoor
open Go.ChangeShapes Go.WideShapes Go.ChangeAt Go.RowKit

theorem Tryd.cells22 : Tryd.prog.cellsOf 22 = 1 := by kernel_rfl
section
variable {H : Type} {enc : TypeId × Value → H} {W : World} {r : Reach} {base b : Nat} {sp : Nat → Bool} {held : Bool} {t : TypeId} {n : Nat} {v : Value} {d : DataW H} {p : List MemPlace}
theorem open_words (ht : Tryd.prog.underlying t = some (.array n 22)) (hc : Tryd.prog.cellsOf t = n) (hok : Value.okWide Tryd.prog W r base t v) (h : DataW.Trod enc Tryd.prog W b sp held t v d p) :
    ∃ x, Words x ∧ v = .agg (arrOf x n) ∧ p = [] := by
  have ho : ∃ cs, v = .agg cs ∧ cs.size = n := by
    simp only [Value.okWide, ht] at hok
    obtain ⟨cs, h1, h2, _⟩ := hok
    exact ⟨cs, h1, by rw [h2, hc]⟩
  obtain ⟨cs, rfl, hcs⟩ := ho
  obtain ⟨fuel, hf⟩ := h
  obtain ⟨xs, m, rfl, hx, hl, hlen, hi⟩ := DataW.trod_array ht hf
  have hcell : ∀ i, i < n → ∃ z, cs[i]? = some (.int .u64 z) ∧ xs[i]? = some (.lit (.int .u64 z), []) ∧ (0 ≤ z ∧ z ≤ 18446744073709551615) := by
    intro i hin
    have h1 := hi i hin
    rw [Tryd.cells22] at h1
    have hix : i < xs.length := by omega
    rw [List.getElem?_eq_getElem hix] at h1
    obtain ⟨z, hz, hxz, hw⟩ := DataW.trod_int Tryd.underlying22 h1
    refine ⟨z, ?_, ?_, bounds_u64 hw⟩
    · have hic : i < cs.size := by omega
      have : ((Value.agg cs).cells.toList.drop (i * 1)).take 1 = [cs[i]] := by
        simp [Value.cells, List.take_one, List.head?_drop, hic]
      rw [this] at hz
      rw [Array.getElem?_eq_getElem hic]
      simpa using hz
    · rw [List.getElem?_eq_getElem hix, hxz]
  refine ⟨fun i => match cs[i]? with | some (.int .u64 z) => (if i < n then z else 0) | _ => 0, ?_, ?_, ?_⟩
  · intro i
    by_cases hin : i < n
    · obtain ⟨z, h1, _, h3⟩ := hcell i hin
      simp only [h1, if_pos hin]; exact h3
    · have : cs[i]? = none := by simp; omega
      simp only [this]; omega
  · congr 1
    refine arrOf_of cs n _ hcs fun i hin => ?_
    obtain ⟨z, h1, _, _⟩ := hcell i hin
    simp only [h1, if_pos hin]
  · have : p = xs.flatMap (·.2) := by
      have := congrArg Prod.snd hx; simpa using this
    rw [this]
    simp only [List.flatMap_eq_nil_iff]
    intro y hy
    obtain ⟨i, hin, rfl⟩ := List.getElem_of_mem hy
    obtain ⟨z, _, h2, _⟩ := hcell i (by omega)
    rw [List.getElem?_eq_getElem hin] at h2
    rw [Option.some.inj h2]
end
end Go.Proofs.YtjjaamdgochilaaDoor

set_option maxRecDepth 100000
namespace Go.Proofs.YtjjaamdgochilaaDoor
open Go.ChangeShapes Go.WideShapes Go.ChangeAt Go.RowKit

theorem Tryd.cells27 : Tryd.prog.cellsOf 27 = 8 := by kernel_rfl
theorem Tryd.cells3 : Tryd.prog.cellsOf 3 = 1 := by kernel_rfl
theorem Tryd.cells4 : Tryd.prog.cellsOf 4 = 1 := by kernel_rfl
theorem Tryd.rec27 : Tryd.prog.readableRec 27 = true := by kernel_rfl
theorem Tryd.row27 : (27 : TypeId) < Tryd.prog.types.size := of_decide_eq_true (by kernel_rfl)
/-- words by their number -/
theorem words_of {x : Nat → Int} (hx : Words x) : ∃ A, A < 2 ^ 256 ∧ ∀ i, i < 4 → x i = W4 A i := by
  obtain ⟨A, hA, _, hv⟩ := words_A4 hx
  exact ⟨A, hA, val_inj hx (W4_words A) 4 (by rw [W4_val4 hA]; exact hv)⟩

section
variable {H : Type} {enc : TypeId × Value → H} {W : World} {r : Reach} {base b : Nat} {sp : Nat → Bool} {held : Bool} {t : TypeId} {n : Nat} {v : Value} {d : DataW H} {p : List MemPlace}
theorem open_bits (hok : Value.okWide Tryd.prog W r base 24 v) (h : DataW.Trod enc Tryd.prog W b sp held 24 v d p) : ∃ A, A < 2 ^ 256 ∧ v = A4 A ∧ p = [] := by
  obtain ⟨x, hx, rfl, hp⟩ := open_words Tryd.underlying24 (by kernel_rfl) hok h
  obtain ⟨A, hA, he, _⟩ := words_A4 hx
  exact ⟨A, hA, he, hp⟩
theorem open_dat (hok : Value.okWide Tryd.prog W r base 27 v) (h : DataW.Trod enc Tryd.prog W b sp held 27 v d p) : ∃ D : Dat, D.k < 2 ^ 256 ∧ v = D.v ∧ p = [] := by
  obtain ⟨cs, rfl, hcs⟩ := okWide_struct Tryd.underlying27 hok
  rw [Tryd.cells27] at hcs
  obtain ⟨fuel, hf⟩ := h
  obtain ⟨xs, n, _, hx, hl, hlen, hfi⟩ := DataW.trod_struct Tryd.underlying27 hf
  have g0 : DataW.trod enc Tryd.prog W b sp held n 3 (((Value.agg cs).cells.toList.drop 0).take (Tryd.prog.cellsOf 3)) = xs[0]? := hfi 0 _ rfl
  have g1 : DataW.trod enc Tryd.prog W b sp held n 4 (((Value.agg cs).cells.toList.drop 1).take (Tryd.prog.cellsOf 4)) = xs[1]? := hfi 1 _ rfl
  have g2 : DataW.trod enc Tryd.prog W b sp held n 4 (((Value.agg cs).cells.toList.drop 2).take (Tryd.prog.cellsOf 4)) = xs[2]? := hfi 2 _ rfl
  have g3 : DataW.trod enc Tryd.prog W b sp held n 3 (((Value.agg cs).cells.toList.drop 3).take (Tryd.prog.cellsOf 3)) = xs[3]? := hfi 3 _ rfl
  have g4 : DataW.trod enc Tryd.prog W b sp held n 24 (((Value.agg cs).cells.toList.drop 4).take (Tryd.prog.cellsOf 24)) = xs[4]? := hfi 4 _ rfl
  match xs, hlen with
  | [y0, y1, y2, y3, y4], _ =>
    obtain ⟨l0, rfl⟩ : ∃ l : List Value, cs = l.toArray := ⟨cs.toList, by simp⟩
    match l0, hcs with
    | [v0, v1, v2, v3, v4, v5, v6, v7], _ =>
      rw [Tryd.cells3] at g0 g3
      rw [Tryd.cells4] at g1 g2
      obtain ⟨z0, e0, q0, _⟩ := DataW.trod_int Tryd.underlying3 g0
      obtain ⟨b1, e1, q1⟩ := DataW.trod_bool Tryd.underlying4 g1
      obtain ⟨b2, e2, q2⟩ := DataW.trod_bool Tryd.underlying4 g2
      obtain ⟨z3, e3, q3, _⟩ := DataW.trod_int Tryd.underlying3 g3
      obtain ⟨us, m, _, hu, _, hul, hui⟩ := DataW.trod_array Tryd.underlying24 g4
      match us, hul with
      | [u0, u1, u2, u3], _ =>
        have k0 := hui 0 (by decide)
        have k1 := hui 1 (by decide)
        have k2 := hui 2 (by decide)
        have k3 := hui 3 (by decide)
        rw [show Tryd.prog.cellsOf 22 = 1 by kernel_rfl] at k0 k1 k2 k3
        rw [show Tryd.prog.cellsOf 24 = 4 by kernel_rfl] at k0 k1 k2 k3
        obtain ⟨a0, f0, r0, w0⟩ := DataW.trod_int Tryd.underlying22 k0
        obtain ⟨a1, f1, r1, w1⟩ := DataW.trod_int Tryd.underlying22 k1
        obtain ⟨a2, f2, r2, w2⟩ := DataW.trod_int Tryd.underlying22 k2
        obtain ⟨a3, f3, r3, w3⟩ := DataW.trod_int Tryd.underlying22 k3
        simp [Value.cells] at e0 e1 e2 e3 f0 f1 f2 f3
        subst e0 e1 e2 e3 f0 f1 f2 f3
        have hw : Words (fun i => match i with | 0 => a0 | 1 => a1 | 2 => a2 | 3 => a3 | _ => 0) := fun i => by
          match i with
          | 0 => exact bounds_u64 w0
          | 1 => exact bounds_u64 w1
          | 2 => exact bounds_u64 w2
          | 3 => exact bounds_u64 w3
          | (j + 4) => exact ⟨Int.le_refl _, (by decide : (0 : Int) ≤ 18446744073709551615)⟩
        obtain ⟨A, hA, hi⟩ := words_of hw
        have i0 : a0 = W4 A 0 := hi 0 (by decide)
        have i1 : a1 = W4 A 1 := hi 1 (by decide)
        have i2 : a2 = W4 A 2 := hi 2 (by decide)
        have i3 : a3 = W4 A 3 := hi 3 (by decide)
        refine ⟨⟨z0, b1, b2, z3, A⟩, hA, ?_, ?_⟩
        · unfold Dat.v DV
          dsimp only
          rw [← i0, ← i1, ← i2, ← i3]
        · have hp := congrArg Prod.snd hx
          simp only [List.flatMap_cons, List.flatMap_nil] at hp
          simp at q0 q1 q2 q3 hu r0 r1 r2 r3
          rw [show p = _ from hp]
          rw [q0, q1, q2, q3, hu, r0, r1, r2, r3]
          rfl
theorem bits_stay {W' : World} {sp' : Nat → Bool} (h : DataW.Trod enc Tryd.prog W 0 (fun _ => true) true 24 v d []) : DataW.Trod enc Tryd.prog W' 0 sp' true 24 v d [] :=
  WideElems.Trod_stays Tryd.laidOut (by kernel_rfl) (of_decide_eq_true (by kernel_rfl)) h (by simp) (by simp)
theorem dat_stay {W' : World} {sp' : Nat → Bool} (h : DataW.Trod enc Tryd.prog W 0 (fun _ => true) true 27 v d []) : DataW.Trod enc Tryd.prog W' 0 sp' true 27 v d [] :=
  WideElems.Trod_stays Tryd.laidOut Tryd.rec27 Tryd.row27 h (by simp) (by simp)
end
end Go.Proofs.YtjjaamdgochilaaDoor
