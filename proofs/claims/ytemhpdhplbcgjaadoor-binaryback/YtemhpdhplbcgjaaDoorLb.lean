/-
  The law BinaryBack: it returns true.
-/
import Derived.Test.YtemhpdhplbcgjaaDoorMt
set_option linter.unusedVariables false
set_option linter.unusedSectionVars false
set_option linter.unusedSimpArgs false
set_option maxRecDepth 20000
namespace Go.Proofs.YtemhpdhplbcgjaaDoor
open Go.RowKit

theorem A4_self (B : Nat) (w : World) : Sem.run Tryd.prog (Op.equalIn 10000 24 (A4 B) (A4 B)) w = .ok true w := by
  have := eq24 (W4 B 0) (W4 B 1) (W4 B 2) (W4 B 3) (W4 B 0) (W4 B 1) (W4 B 2) (W4 B 3) w
  rw [decide_eq_true ⟨rfl, rfl, rfl, rfl⟩] at this
  exact this
theorem Z4_self (w : World) : Sem.run Tryd.prog (Op.equalIn 10000 24 Z4 Z4) w = .ok true w := by
  have := eq24 0 0 0 0 0 0 0 0 w
  rw [decide_eq_true (by decide)] at this
  exact this
theorem DV_self (c : Int) (s g : Bool) (x : Int) (k : Nat) (w : World) : Sem.run Tryd.prog (Op.equalIn 10000 27 (DV c s g x k) (DV c s g x k)) w = .ok true w := by
  have := eq27 c c s s g g x x (W4 k 0) (W4 k 1) (W4 k 2) (W4 k 3) (W4 k 0) (W4 k 1) (W4 k 2) (W4 k 3) w
  rw [decide_eq_true ⟨rfl, rfl, rfl, rfl, rfl, rfl, rfl, rfl⟩] at this
  exact this
set_option maxHeartbeats 1000000 in
theorem awake_any (w : World) (hT : Tab w) : Calls Tryd.prog 9 #[] w fun x w' => x = .returned (.bool true) ∧ Below w.heap.size w w' := by
  have c10 := fun w hT => unpack_any 3 1065353216 w hT (by decide)
  have e1 : A4 1065353216 = .agg #[.int .u64 1065353216, .int .u64 0, .int .u64 0, .int .u64 0] := by
    unfold A4; rw [show W4 1065353216 0 = 1065353216 by decide, show W4 1065353216 1 = 0 by decide, show W4 1065353216 2 = 0 by decide, show W4 1065353216 3 = 0 by decide]
  have hg : goodN 3 1065353216 := ⟨by decide, by decide⟩
  have e2 : unD 3 1065353216 = ⟨1, false, false, -23, 8388608⟩ := by
    unfold unD; rw [if_pos hg]
    unfold unp
    rw [if_neg (by decide), if_neg (by decide), show sgB (fN 3) (eN 3) 1065353216 = false by decide, show leastN 3 + ((1065353216 / 2 ^ fN 3 % 2 ^ eN 3 : Nat) - 1 : Int) = -23 by decide, show 1065353216 % 2 ^ fN 3 + 2 ^ fN 3 = 8388608 by decide]
  have e3 : unE 3 1065353216 = 0 := if_pos hg
  have e4 : (unD 3 1065353216).v = .agg #[.int .i64 1, .bool false, .bool false, .int .i64 (-23), .int .u64 8388608, .int .u64 0, .int .u64 0, .int .u64 0] := by
    rw [e2]; unfold Dat.v DV; dsimp only
    rw [show W4 8388608 0 = 8388608 by decide, show W4 8388608 1 = 0 by decide, show W4 8388608 2 = 0 by decide, show W4 8388608 3 = 0 by decide]
  rw [e1, e3, e4] at c10
  have h24 := eq24 8388608 0 0 0 8388608 0 0 0
  rw [decide_eq_true (by decide)] at h24
  clear e1 e2 e3 e4 hg
  go_enter Tryd.func9, Tryd.ntmps9
  go_wp2_with (go_at_call 10; refine (c10 _ hT).mono ?_; rintro x w1 ⟨rfl, hb1⟩; obtain ⟨hc1, hf1⟩ := bcell hb1; have hA1 := bnext (w0 := w) (by (repeat (first | with_reducible assumption | with_reducible exact Below.refl _ _ | with_reducible refine Below.setCell ?_ (by first | omega | (dsimp only; omega) | (simp <;> omega)) _ | with_reducible refine Below.alloc ?_ (by first | omega | (simp <;> omega)) _ | with_reducible refine Below.drew ?_))) hb1; have hs1 := hA1.size; clear hb1)
  go_ret
  exact ⟨rfl, by (repeat (first | with_reducible assumption | with_reducible exact Below.refl _ _ | with_reducible refine Below.setCell ?_ (by first | omega | (dsimp only; omega) | (simp <;> omega)) _ | with_reducible refine Below.alloc ?_ (by first | omega | (simp <;> omega)) _ | with_reducible refine Below.drew ?_))⟩

attribute [local irreducible] W4
section
variable (n : Int) (B : Nat) (w : World) (hT : Tab w) (c x : Int) (s g : Bool) (k : Nat) (Xc Xx : Int) (Xs Xg : Bool) (Xk Pv Zv : Nat) (Ze Ed : Int)
include hT
set_option maxHeartbeats 2000000 in
theorem back_gg
    (c10 : ∀ w, Tab w → Calls Tryd.prog 10 #[.int .i64 n, A4 B] w fun x w' => x = .returned (.tuple #[DV Xc Xs Xg Xx Xk, .int .i64 0]) ∧ Below w.heap.size w w')
    (c12 : ∀ w, Tab w → Calls Tryd.prog 12 #[.int .i64 n, DV Xc Xs Xg Xx Xk] w fun x w' => x = .returned (.tuple #[A4 B, .int .i64 0]) ∧ Below w.heap.size w w')
    (c12d : ∀ w, Tab w → Calls Tryd.prog 12 #[.int .i64 n, DV c s g x k] w fun x w' => x = .returned (.tuple #[A4 Pv, .int .i64 0]) ∧ Below w.heap.size w w')
    (c10p : ∀ w, Tab w → Calls Tryd.prog 10 #[.int .i64 n, A4 Pv] w fun r w' => r = .returned (.tuple #[DV c s g x k, .int .i64 0]) ∧ Below w.heap.size w w')
    : Calls Tryd.prog 5 #[.int .i64 n, A4 B, DV c s g x k] w fun x w' => x = .returned (.bool true) ∧ Below w.heap.size w w' := by
  have h24 := A4_self B
  have h27 := DV_self c s g x k
  go_enter Tryd.func5, Tryd.ntmps5
  go_wp2_with (first
    | (go_at_call 9; refine (awake_any _ ((hT.alloc _).alloc _)).mono ?_; rintro x w1 ⟨rfl, hb1⟩; obtain ⟨hc1, hf1⟩ := bcell hb1; have hz1_0 : w.heap.size < w1.heap.size := lt_below hb1 (by first | assumption | (simp; done) | (simp; omega)); have hl1_0 := Nat.le_of_lt hz1_0; have hz1_1 : w.heap.size + 1 < w1.heap.size := lt_below hb1 (by first | assumption | (simp; done) | (simp; omega)); have hl1_1 := Nat.le_of_lt hz1_1; have hA1 := bnext (w0 := w) (by (repeat (first | with_reducible assumption | with_reducible exact Below.refl _ _ | with_reducible refine Below.setCell ?_ (by first | omega | (dsimp only; omega) | (simp <;> omega)) _ | with_reducible refine Below.alloc ?_ (by first | omega | (simp <;> omega)) _ | with_reducible refine Below.drew ?_))) hb1; have hs1 := hA1.size; clear hb1)
    | (have := hA4; go_at_call 10; refine (c10p _ (hT.go (by (repeat (first | with_reducible assumption | with_reducible exact Below.refl _ _ | with_reducible refine Below.setCell ?_ (by first | omega | (dsimp only; omega) | (simp <;> omega)) _ | with_reducible refine Below.alloc ?_ (by first | omega | (simp <;> omega)) _ | with_reducible refine Below.drew ?_))))).mono ?_; rintro x w5 ⟨rfl, hb5⟩; obtain ⟨hc5, hf5⟩ := bcell hb5; have hz5_0 : w.heap.size < w5.heap.size := lt_below hb5 (by first | assumption | (simp; done) | (simp; omega)); have hl5_0 := Nat.le_of_lt hz5_0; have hz5_1 : w.heap.size + 1 < w5.heap.size := lt_below hb5 (by first | assumption | (simp; done) | (simp; omega)); have hl5_1 := Nat.le_of_lt hz5_1; have hz5_2 : w2.heap.size < w5.heap.size := lt_below hb5 (by first | assumption | (simp; done) | (simp; omega)); have hl5_2 := Nat.le_of_lt hz5_2; have hz5_3 : w3.heap.size < w5.heap.size := lt_below hb5 (by first | assumption | (simp; done) | (simp; omega)); have hl5_3 := Nat.le_of_lt hz5_3; have hz5_4 : w4.heap.size < w5.heap.size := lt_below hb5 (by first | assumption | (simp; done) | (simp; omega)); have hl5_4 := Nat.le_of_lt hz5_4; have hA5 := bnext (w0 := w) (by (repeat (first | with_reducible assumption | with_reducible exact Below.refl _ _ | with_reducible refine Below.setCell ?_ (by first | omega | (dsimp only; omega) | (simp <;> omega)) _ | with_reducible refine Below.alloc ?_ (by first | omega | (simp <;> omega)) _ | with_reducible refine Below.drew ?_))) hb5; have hs5 := hA5.size; clear hb5)
    | (have := hA3; go_at_call 12; refine (c12d _ (hT.go (by (repeat (first | with_reducible assumption | with_reducible exact Below.refl _ _ | with_reducible refine Below.setCell ?_ (by first | omega | (dsimp only; omega) | (simp <;> omega)) _ | with_reducible refine Below.alloc ?_ (by first | omega | (simp <;> omega)) _ | with_reducible refine Below.drew ?_))))).mono ?_; rintro x w4 ⟨rfl, hb4⟩; obtain ⟨hc4, hf4⟩ := bcell hb4; have hz4_0 : w.heap.size < w4.heap.size := lt_below hb4 (by first | assumption | (simp; done) | (simp; omega)); have hl4_0 := Nat.le_of_lt hz4_0; have hz4_1 : w.heap.size + 1 < w4.heap.size := lt_below hb4 (by first | assumption | (simp; done) | (simp; omega)); have hl4_1 := Nat.le_of_lt hz4_1; have hz4_2 : w2.heap.size < w4.heap.size := lt_below hb4 (by first | assumption | (simp; done) | (simp; omega)); have hl4_2 := Nat.le_of_lt hz4_2; have hz4_3 : w3.heap.size < w4.heap.size := lt_below hb4 (by first | assumption | (simp; done) | (simp; omega)); have hl4_3 := Nat.le_of_lt hz4_3; have hA4 := bnext (w0 := w) (by (repeat (first | with_reducible assumption | with_reducible exact Below.refl _ _ | with_reducible refine Below.setCell ?_ (by first | omega | (dsimp only; omega) | (simp <;> omega)) _ | with_reducible refine Below.alloc ?_ (by first | omega | (simp <;> omega)) _ | with_reducible refine Below.drew ?_))) hb4; have hs4 := hA4.size; clear hb4)
    | (go_at_call 12; refine (c12 _ (hT.go (by (repeat (first | with_reducible assumption | with_reducible exact Below.refl _ _ | with_reducible refine Below.setCell ?_ (by first | omega | (dsimp only; omega) | (simp <;> omega)) _ | with_reducible refine Below.alloc ?_ (by first | omega | (simp <;> omega)) _ | with_reducible refine Below.drew ?_))))).mono ?_; rintro x w3 ⟨rfl, hb3⟩; obtain ⟨hc3, hf3⟩ := bcell hb3; have hz3_0 : w.heap.size < w3.heap.size := lt_below hb3 (by first | assumption | (simp; done) | (simp; omega)); have hl3_0 := Nat.le_of_lt hz3_0; have hz3_1 : w.heap.size + 1 < w3.heap.size := lt_below hb3 (by first | assumption | (simp; done) | (simp; omega)); have hl3_1 := Nat.le_of_lt hz3_1; have hz3_2 : w2.heap.size < w3.heap.size := lt_below hb3 (by first | assumption | (simp; done) | (simp; omega)); have hl3_2 := Nat.le_of_lt hz3_2; have hA3 := bnext (w0 := w) (by (repeat (first | with_reducible assumption | with_reducible exact Below.refl _ _ | with_reducible refine Below.setCell ?_ (by first | omega | (dsimp only; omega) | (simp <;> omega)) _ | with_reducible refine Below.alloc ?_ (by first | omega | (simp <;> omega)) _ | with_reducible refine Below.drew ?_))) hb3; have hs3 := hA3.size; clear hb3)
    | (go_at_call 10; refine (c10 _ (hT.go hA1)).mono ?_; rintro x w2 ⟨rfl, hb2⟩; obtain ⟨hc2, hf2⟩ := bcell hb2; have hz2_0 : w.heap.size < w2.heap.size := lt_below hb2 (by first | assumption | (simp; done) | (simp; omega)); have hl2_0 := Nat.le_of_lt hz2_0; have hz2_1 : w.heap.size + 1 < w2.heap.size := lt_below hb2 (by first | assumption | (simp; done) | (simp; omega)); have hl2_1 := Nat.le_of_lt hz2_1; have hA2 := bnext (w0 := w) (by (repeat (first | with_reducible assumption | with_reducible exact Below.refl _ _ | with_reducible refine Below.setCell ?_ (by first | omega | (dsimp only; omega) | (simp <;> omega)) _ | with_reducible refine Below.alloc ?_ (by first | omega | (simp <;> omega)) _ | with_reducible refine Below.drew ?_))) hb2; have hs2 := hA2.size; clear hb2))
  go_ret
  exact ⟨rfl, by (repeat (first | with_reducible assumption | with_reducible exact Below.refl _ _ | with_reducible refine Below.setCell ?_ (by first | omega | (dsimp only; omega) | (simp <;> omega)) _ | with_reducible refine Below.alloc ?_ (by first | omega | (simp <;> omega)) _ | with_reducible refine Below.drew ?_))⟩
set_option maxHeartbeats 2000000 in
theorem back_gb
    (c10 : ∀ w, Tab w → Calls Tryd.prog 10 #[.int .i64 n, A4 B] w fun x w' => x = .returned (.tuple #[DV Xc Xs Xg Xx Xk, .int .i64 0]) ∧ Below w.heap.size w w')
    (c12 : ∀ w, Tab w → Calls Tryd.prog 12 #[.int .i64 n, DV Xc Xs Xg Xx Xk] w fun x w' => x = .returned (.tuple #[A4 B, .int .i64 0]) ∧ Below w.heap.size w w')
    (c12d : ∀ w, Tab w → Calls Tryd.prog 12 #[.int .i64 n, DV c s g x k] w fun x w' => x = .returned (.tuple #[Z4, .int .i64 Ed]) ∧ Below w.heap.size w w')
    (hEd : (Ed != 0) = true)
    : Calls Tryd.prog 5 #[.int .i64 n, A4 B, DV c s g x k] w fun x w' => x = .returned (.bool true) ∧ Below w.heap.size w w' := by
  have h24 := A4_self B
  have h24z := Z4_self
  go_enter Tryd.func5, Tryd.ntmps5
  go_wp2_with (first
    | (go_at_call 9; refine (awake_any _ ((hT.alloc _).alloc _)).mono ?_; rintro x w1 ⟨rfl, hb1⟩; obtain ⟨hc1, hf1⟩ := bcell hb1; have hz1_0 : w.heap.size < w1.heap.size := lt_below hb1 (by first | assumption | (simp; done) | (simp; omega)); have hl1_0 := Nat.le_of_lt hz1_0; have hz1_1 : w.heap.size + 1 < w1.heap.size := lt_below hb1 (by first | assumption | (simp; done) | (simp; omega)); have hl1_1 := Nat.le_of_lt hz1_1; have hA1 := bnext (w0 := w) (by (repeat (first | with_reducible assumption | with_reducible exact Below.refl _ _ | with_reducible refine Below.setCell ?_ (by first | omega | (dsimp only; omega) | (simp <;> omega)) _ | with_reducible refine Below.alloc ?_ (by first | omega | (simp <;> omega)) _ | with_reducible refine Below.drew ?_))) hb1; have hs1 := hA1.size; clear hb1)
    | (have := hA3; go_at_call 12; refine (c12d _ (hT.go (by (repeat (first | with_reducible assumption | with_reducible exact Below.refl _ _ | with_reducible refine Below.setCell ?_ (by first | omega | (dsimp only; omega) | (simp <;> omega)) _ | with_reducible refine Below.alloc ?_ (by first | omega | (simp <;> omega)) _ | with_reducible refine Below.drew ?_))))).mono ?_; rintro x w4 ⟨rfl, hb4⟩; obtain ⟨hc4, hf4⟩ := bcell hb4; have hz4_0 : w.heap.size < w4.heap.size := lt_below hb4 (by first | assumption | (simp; done) | (simp; omega)); have hl4_0 := Nat.le_of_lt hz4_0; have hz4_1 : w.heap.size + 1 < w4.heap.size := lt_below hb4 (by first | assumption | (simp; done) | (simp; omega)); have hl4_1 := Nat.le_of_lt hz4_1; have hz4_2 : w2.heap.size < w4.heap.size := lt_below hb4 (by first | assumption | (simp; done) | (simp; omega)); have hl4_2 := Nat.le_of_lt hz4_2; have hz4_3 : w3.heap.size < w4.heap.size := lt_below hb4 (by first | assumption | (simp; done) | (simp; omega)); have hl4_3 := Nat.le_of_lt hz4_3; have hA4 := bnext (w0 := w) (by (repeat (first | with_reducible assumption | with_reducible exact Below.refl _ _ | with_reducible refine Below.setCell ?_ (by first | omega | (dsimp only; omega) | (simp <;> omega)) _ | with_reducible refine Below.alloc ?_ (by first | omega | (simp <;> omega)) _ | with_reducible refine Below.drew ?_))) hb4; have hs4 := hA4.size; clear hb4)
    | (go_at_call 12; refine (c12 _ (hT.go (by (repeat (first | with_reducible assumption | with_reducible exact Below.refl _ _ | with_reducible refine Below.setCell ?_ (by first | omega | (dsimp only; omega) | (simp <;> omega)) _ | with_reducible refine Below.alloc ?_ (by first | omega | (simp <;> omega)) _ | with_reducible refine Below.drew ?_))))).mono ?_; rintro x w3 ⟨rfl, hb3⟩; obtain ⟨hc3, hf3⟩ := bcell hb3; have hz3_0 : w.heap.size < w3.heap.size := lt_below hb3 (by first | assumption | (simp; done) | (simp; omega)); have hl3_0 := Nat.le_of_lt hz3_0; have hz3_1 : w.heap.size + 1 < w3.heap.size := lt_below hb3 (by first | assumption | (simp; done) | (simp; omega)); have hl3_1 := Nat.le_of_lt hz3_1; have hz3_2 : w2.heap.size < w3.heap.size := lt_below hb3 (by first | assumption | (simp; done) | (simp; omega)); have hl3_2 := Nat.le_of_lt hz3_2; have hA3 := bnext (w0 := w) (by (repeat (first | with_reducible assumption | with_reducible exact Below.refl _ _ | with_reducible refine Below.setCell ?_ (by first | omega | (dsimp only; omega) | (simp <;> omega)) _ | with_reducible refine Below.alloc ?_ (by first | omega | (simp <;> omega)) _ | with_reducible refine Below.drew ?_))) hb3; have hs3 := hA3.size; clear hb3)
    | (go_at_call 10; refine (c10 _ (hT.go hA1)).mono ?_; rintro x w2 ⟨rfl, hb2⟩; obtain ⟨hc2, hf2⟩ := bcell hb2; have hz2_0 : w.heap.size < w2.heap.size := lt_below hb2 (by first | assumption | (simp; done) | (simp; omega)); have hl2_0 := Nat.le_of_lt hz2_0; have hz2_1 : w.heap.size + 1 < w2.heap.size := lt_below hb2 (by first | assumption | (simp; done) | (simp; omega)); have hl2_1 := Nat.le_of_lt hz2_1; have hA2 := bnext (w0 := w) (by (repeat (first | with_reducible assumption | with_reducible exact Below.refl _ _ | with_reducible refine Below.setCell ?_ (by first | omega | (dsimp only; omega) | (simp <;> omega)) _ | with_reducible refine Below.alloc ?_ (by first | omega | (simp <;> omega)) _ | with_reducible refine Below.drew ?_))) hb2; have hs2 := hA2.size; clear hb2))
  go_ret
  exact ⟨rfl, by (repeat (first | with_reducible assumption | with_reducible exact Below.refl _ _ | with_reducible refine Below.setCell ?_ (by first | omega | (dsimp only; omega) | (simp <;> omega)) _ | with_reducible refine Below.alloc ?_ (by first | omega | (simp <;> omega)) _ | with_reducible refine Below.drew ?_))⟩
set_option maxHeartbeats 2000000 in
theorem back_bg
    (c10 : ∀ w, Tab w → Calls Tryd.prog 10 #[.int .i64 n, A4 B] w fun x w' => x = .returned (.tuple #[DV Xc Xs Xg Xx Xk, .int .i64 1]) ∧ Below w.heap.size w w')
    (c12 : ∀ w, Tab w → Calls Tryd.prog 12 #[.int .i64 n, DV Xc Xs Xg Xx Xk] w fun x w' => x = .returned (.tuple #[A4 Zv, .int .i64 Ze]) ∧ Below w.heap.size w w')
    (c12d : ∀ w, Tab w → Calls Tryd.prog 12 #[.int .i64 n, DV c s g x k] w fun x w' => x = .returned (.tuple #[A4 Pv, .int .i64 0]) ∧ Below w.heap.size w w')
    (c10p : ∀ w, Tab w → Calls Tryd.prog 10 #[.int .i64 n, A4 Pv] w fun r w' => r = .returned (.tuple #[DV c s g x k, .int .i64 0]) ∧ Below w.heap.size w w')
    : Calls Tryd.prog 5 #[.int .i64 n, A4 B, DV c s g x k] w fun x w' => x = .returned (.bool true) ∧ Below w.heap.size w w' := by
  have h27 := DV_self c s g x k
  go_enter Tryd.func5, Tryd.ntmps5
  go_wp2_with (first
    | (go_at_call 9; refine (awake_any _ ((hT.alloc _).alloc _)).mono ?_; rintro x w1 ⟨rfl, hb1⟩; obtain ⟨hc1, hf1⟩ := bcell hb1; have hz1_0 : w.heap.size < w1.heap.size := lt_below hb1 (by first | assumption | (simp; done) | (simp; omega)); have hl1_0 := Nat.le_of_lt hz1_0; have hz1_1 : w.heap.size + 1 < w1.heap.size := lt_below hb1 (by first | assumption | (simp; done) | (simp; omega)); have hl1_1 := Nat.le_of_lt hz1_1; have hA1 := bnext (w0 := w) (by (repeat (first | with_reducible assumption | with_reducible exact Below.refl _ _ | with_reducible refine Below.setCell ?_ (by first | omega | (dsimp only; omega) | (simp <;> omega)) _ | with_reducible refine Below.alloc ?_ (by first | omega | (simp <;> omega)) _ | with_reducible refine Below.drew ?_))) hb1; have hs1 := hA1.size; clear hb1)
    | (have := hA4; go_at_call 10; refine (c10p _ (hT.go (by (repeat (first | with_reducible assumption | with_reducible exact Below.refl _ _ | with_reducible refine Below.setCell ?_ (by first | omega | (dsimp only; omega) | (simp <;> omega)) _ | with_reducible refine Below.alloc ?_ (by first | omega | (simp <;> omega)) _ | with_reducible refine Below.drew ?_))))).mono ?_; rintro x w5 ⟨rfl, hb5⟩; obtain ⟨hc5, hf5⟩ := bcell hb5; have hz5_0 : w.heap.size < w5.heap.size := lt_below hb5 (by first | assumption | (simp; done) | (simp; omega)); have hl5_0 := Nat.le_of_lt hz5_0; have hz5_1 : w.heap.size + 1 < w5.heap.size := lt_below hb5 (by first | assumption | (simp; done) | (simp; omega)); have hl5_1 := Nat.le_of_lt hz5_1; have hz5_2 : w2.heap.size < w5.heap.size := lt_below hb5 (by first | assumption | (simp; done) | (simp; omega)); have hl5_2 := Nat.le_of_lt hz5_2; have hz5_3 : w3.heap.size < w5.heap.size := lt_below hb5 (by first | assumption | (simp; done) | (simp; omega)); have hl5_3 := Nat.le_of_lt hz5_3; have hz5_4 : w4.heap.size < w5.heap.size := lt_below hb5 (by first | assumption | (simp; done) | (simp; omega)); have hl5_4 := Nat.le_of_lt hz5_4; have hA5 := bnext (w0 := w) (by (repeat (first | with_reducible assumption | with_reducible exact Below.refl _ _ | with_reducible refine Below.setCell ?_ (by first | omega | (dsimp only; omega) | (simp <;> omega)) _ | with_reducible refine Below.alloc ?_ (by first | omega | (simp <;> omega)) _ | with_reducible refine Below.drew ?_))) hb5; have hs5 := hA5.size; clear hb5)
    | (have := hA3; go_at_call 12; refine (c12d _ (hT.go (by (repeat (first | with_reducible assumption | with_reducible exact Below.refl _ _ | with_reducible refine Below.setCell ?_ (by first | omega | (dsimp only; omega) | (simp <;> omega)) _ | with_reducible refine Below.alloc ?_ (by first | omega | (simp <;> omega)) _ | with_reducible refine Below.drew ?_))))).mono ?_; rintro x w4 ⟨rfl, hb4⟩; obtain ⟨hc4, hf4⟩ := bcell hb4; have hz4_0 : w.heap.size < w4.heap.size := lt_below hb4 (by first | assumption | (simp; done) | (simp; omega)); have hl4_0 := Nat.le_of_lt hz4_0; have hz4_1 : w.heap.size + 1 < w4.heap.size := lt_below hb4 (by first | assumption | (simp; done) | (simp; omega)); have hl4_1 := Nat.le_of_lt hz4_1; have hz4_2 : w2.heap.size < w4.heap.size := lt_below hb4 (by first | assumption | (simp; done) | (simp; omega)); have hl4_2 := Nat.le_of_lt hz4_2; have hz4_3 : w3.heap.size < w4.heap.size := lt_below hb4 (by first | assumption | (simp; done) | (simp; omega)); have hl4_3 := Nat.le_of_lt hz4_3; have hA4 := bnext (w0 := w) (by (repeat (first | with_reducible assumption | with_reducible exact Below.refl _ _ | with_reducible refine Below.setCell ?_ (by first | omega | (dsimp only; omega) | (simp <;> omega)) _ | with_reducible refine Below.alloc ?_ (by first | omega | (simp <;> omega)) _ | with_reducible refine Below.drew ?_))) hb4; have hs4 := hA4.size; clear hb4)
    | (go_at_call 12; refine (c12 _ (hT.go (by (repeat (first | with_reducible assumption | with_reducible exact Below.refl _ _ | with_reducible refine Below.setCell ?_ (by first | omega | (dsimp only; omega) | (simp <;> omega)) _ | with_reducible refine Below.alloc ?_ (by first | omega | (simp <;> omega)) _ | with_reducible refine Below.drew ?_))))).mono ?_; rintro x w3 ⟨rfl, hb3⟩; obtain ⟨hc3, hf3⟩ := bcell hb3; have hz3_0 : w.heap.size < w3.heap.size := lt_below hb3 (by first | assumption | (simp; done) | (simp; omega)); have hl3_0 := Nat.le_of_lt hz3_0; have hz3_1 : w.heap.size + 1 < w3.heap.size := lt_below hb3 (by first | assumption | (simp; done) | (simp; omega)); have hl3_1 := Nat.le_of_lt hz3_1; have hz3_2 : w2.heap.size < w3.heap.size := lt_below hb3 (by first | assumption | (simp; done) | (simp; omega)); have hl3_2 := Nat.le_of_lt hz3_2; have hA3 := bnext (w0 := w) (by (repeat (first | with_reducible assumption | with_reducible exact Below.refl _ _ | with_reducible refine Below.setCell ?_ (by first | omega | (dsimp only; omega) | (simp <;> omega)) _ | with_reducible refine Below.alloc ?_ (by first | omega | (simp <;> omega)) _ | with_reducible refine Below.drew ?_))) hb3; have hs3 := hA3.size; clear hb3)
    | (go_at_call 10; refine (c10 _ (hT.go hA1)).mono ?_; rintro x w2 ⟨rfl, hb2⟩; obtain ⟨hc2, hf2⟩ := bcell hb2; have hz2_0 : w.heap.size < w2.heap.size := lt_below hb2 (by first | assumption | (simp; done) | (simp; omega)); have hl2_0 := Nat.le_of_lt hz2_0; have hz2_1 : w.heap.size + 1 < w2.heap.size := lt_below hb2 (by first | assumption | (simp; done) | (simp; omega)); have hl2_1 := Nat.le_of_lt hz2_1; have hA2 := bnext (w0 := w) (by (repeat (first | with_reducible assumption | with_reducible exact Below.refl _ _ | with_reducible refine Below.setCell ?_ (by first | omega | (dsimp only; omega) | (simp <;> omega)) _ | with_reducible refine Below.alloc ?_ (by first | omega | (simp <;> omega)) _ | with_reducible refine Below.drew ?_))) hb2; have hs2 := hA2.size; clear hb2))
  go_ret
  exact ⟨rfl, by (repeat (first | with_reducible assumption | with_reducible exact Below.refl _ _ | with_reducible refine Below.setCell ?_ (by first | omega | (dsimp only; omega) | (simp <;> omega)) _ | with_reducible refine Below.alloc ?_ (by first | omega | (simp <;> omega)) _ | with_reducible refine Below.drew ?_))⟩
set_option maxHeartbeats 2000000 in
theorem back_bb
    (c10 : ∀ w, Tab w → Calls Tryd.prog 10 #[.int .i64 n, A4 B] w fun x w' => x = .returned (.tuple #[DV Xc Xs Xg Xx Xk, .int .i64 1]) ∧ Below w.heap.size w w')
    (c12 : ∀ w, Tab w → Calls Tryd.prog 12 #[.int .i64 n, DV Xc Xs Xg Xx Xk] w fun x w' => x = .returned (.tuple #[A4 Zv, .int .i64 Ze]) ∧ Below w.heap.size w w')
    (c12d : ∀ w, Tab w → Calls Tryd.prog 12 #[.int .i64 n, DV c s g x k] w fun x w' => x = .returned (.tuple #[Z4, .int .i64 Ed]) ∧ Below w.heap.size w w')
    (hEd : (Ed != 0) = true)
    : Calls Tryd.prog 5 #[.int .i64 n, A4 B, DV c s g x k] w fun x w' => x = .returned (.bool true) ∧ Below w.heap.size w w' := by
  have h24z := Z4_self
  go_enter Tryd.func5, Tryd.ntmps5
  go_wp2_with (first
    | (go_at_call 9; refine (awake_any _ ((hT.alloc _).alloc _)).mono ?_; rintro x w1 ⟨rfl, hb1⟩; obtain ⟨hc1, hf1⟩ := bcell hb1; have hz1_0 : w.heap.size < w1.heap.size := lt_below hb1 (by first | assumption | (simp; done) | (simp; omega)); have hl1_0 := Nat.le_of_lt hz1_0; have hz1_1 : w.heap.size + 1 < w1.heap.size := lt_below hb1 (by first | assumption | (simp; done) | (simp; omega)); have hl1_1 := Nat.le_of_lt hz1_1; have hA1 := bnext (w0 := w) (by (repeat (first | with_reducible assumption | with_reducible exact Below.refl _ _ | with_reducible refine Below.setCell ?_ (by first | omega | (dsimp only; omega) | (simp <;> omega)) _ | with_reducible refine Below.alloc ?_ (by first | omega | (simp <;> omega)) _ | with_reducible refine Below.drew ?_))) hb1; have hs1 := hA1.size; clear hb1)
    | (have := hA3; go_at_call 12; refine (c12d _ (hT.go (by (repeat (first | with_reducible assumption | with_reducible exact Below.refl _ _ | with_reducible refine Below.setCell ?_ (by first | omega | (dsimp only; omega) | (simp <;> omega)) _ | with_reducible refine Below.alloc ?_ (by first | omega | (simp <;> omega)) _ | with_reducible refine Below.drew ?_))))).mono ?_; rintro x w4 ⟨rfl, hb4⟩; obtain ⟨hc4, hf4⟩ := bcell hb4; have hz4_0 : w.heap.size < w4.heap.size := lt_below hb4 (by first | assumption | (simp; done) | (simp; omega)); have hl4_0 := Nat.le_of_lt hz4_0; have hz4_1 : w.heap.size + 1 < w4.heap.size := lt_below hb4 (by first | assumption | (simp; done) | (simp; omega)); have hl4_1 := Nat.le_of_lt hz4_1; have hz4_2 : w2.heap.size < w4.heap.size := lt_below hb4 (by first | assumption | (simp; done) | (simp; omega)); have hl4_2 := Nat.le_of_lt hz4_2; have hz4_3 : w3.heap.size < w4.heap.size := lt_below hb4 (by first | assumption | (simp; done) | (simp; omega)); have hl4_3 := Nat.le_of_lt hz4_3; have hA4 := bnext (w0 := w) (by (repeat (first | with_reducible assumption | with_reducible exact Below.refl _ _ | with_reducible refine Below.setCell ?_ (by first | omega | (dsimp only; omega) | (simp <;> omega)) _ | with_reducible refine Below.alloc ?_ (by first | omega | (simp <;> omega)) _ | with_reducible refine Below.drew ?_))) hb4; have hs4 := hA4.size; clear hb4)
    | (go_at_call 12; refine (c12 _ (hT.go (by (repeat (first | with_reducible assumption | with_reducible exact Below.refl _ _ | with_reducible refine Below.setCell ?_ (by first | omega | (dsimp only; omega) | (simp <;> omega)) _ | with_reducible refine Below.alloc ?_ (by first | omega | (simp <;> omega)) _ | with_reducible refine Below.drew ?_))))).mono ?_; rintro x w3 ⟨rfl, hb3⟩; obtain ⟨hc3, hf3⟩ := bcell hb3; have hz3_0 : w.heap.size < w3.heap.size := lt_below hb3 (by first | assumption | (simp; done) | (simp; omega)); have hl3_0 := Nat.le_of_lt hz3_0; have hz3_1 : w.heap.size + 1 < w3.heap.size := lt_below hb3 (by first | assumption | (simp; done) | (simp; omega)); have hl3_1 := Nat.le_of_lt hz3_1; have hz3_2 : w2.heap.size < w3.heap.size := lt_below hb3 (by first | assumption | (simp; done) | (simp; omega)); have hl3_2 := Nat.le_of_lt hz3_2; have hA3 := bnext (w0 := w) (by (repeat (first | with_reducible assumption | with_reducible exact Below.refl _ _ | with_reducible refine Below.setCell ?_ (by first | omega | (dsimp only; omega) | (simp <;> omega)) _ | with_reducible refine Below.alloc ?_ (by first | omega | (simp <;> omega)) _ | with_reducible refine Below.drew ?_))) hb3; have hs3 := hA3.size; clear hb3)
    | (go_at_call 10; refine (c10 _ (hT.go hA1)).mono ?_; rintro x w2 ⟨rfl, hb2⟩; obtain ⟨hc2, hf2⟩ := bcell hb2; have hz2_0 : w.heap.size < w2.heap.size := lt_below hb2 (by first | assumption | (simp; done) | (simp; omega)); have hl2_0 := Nat.le_of_lt hz2_0; have hz2_1 : w.heap.size + 1 < w2.heap.size := lt_below hb2 (by first | assumption | (simp; done) | (simp; omega)); have hl2_1 := Nat.le_of_lt hz2_1; have hA2 := bnext (w0 := w) (by (repeat (first | with_reducible assumption | with_reducible exact Below.refl _ _ | with_reducible refine Below.setCell ?_ (by first | omega | (dsimp only; omega) | (simp <;> omega)) _ | with_reducible refine Below.alloc ?_ (by first | omega | (simp <;> omega)) _ | with_reducible refine Below.drew ?_))) hb2; have hs2 := hA2.size; clear hb2))
  go_ret
  exact ⟨rfl, by (repeat (first | with_reducible assumption | with_reducible exact Below.refl _ _ | with_reducible refine Below.setCell ?_ (by first | omega | (dsimp only; omega) | (simp <;> omega)) _ | with_reducible refine Below.alloc ?_ (by first | omega | (simp <;> omega)) _ | with_reducible refine Below.drew ?_))⟩
end
theorem binaryBack_any (n : Int) (B : Nat) (d : Dat) (w : World) (hT : Tab w) (hB : B < 2 ^ 256) (hk : d.k < 2 ^ 256) :
    Calls Tryd.prog 5 #[.int .i64 n, A4 B, d.v] w fun x w' => x = .returned (.bool true) ∧ Below w.heap.size w w' := by
  have c10 := fun w hT => unpack_any n B w hT hB
  have c12 := fun w hT => pack_any n (unD n B) w hT (unD_k n B)
  have c12d := fun w hT => pack_any n d w hT hk
  have c10p := fun w hT => unpack_any n (pkV n d) w hT (pkV_256 n d)
  by_cases hg : goodN n B
  · obtain ⟨e1, e2⟩ := back_un hg
    have e3 : unE n B = 0 := if_pos hg
    rw [e1, e2] at c12
    rw [e3] at c10
    by_cases hd : pkE n d = 0
    · obtain ⟨g1, g2⟩ := back_pk hd
      have e4 : unE n (pkV n d) = 0 := if_pos g1
      rw [hd] at c12d
      rw [g2, e4] at c10p
      exact back_gg n B w hT d.c d.x d.s d.g d.k _ _ _ _ _ _ c10 c12 c12d c10p
    · rw [pk_none hd, Z4_eq] at c12d
      exact back_gb n B w hT d.c d.x d.s d.g d.k _ _ _ _ _ _ c10 c12 c12d (by simpa using hd)
  · have e3 : unE n B = 1 := if_neg hg
    rw [e3] at c10
    by_cases hd : pkE n d = 0
    · obtain ⟨g1, g2⟩ := back_pk hd
      have e4 : unE n (pkV n d) = 0 := if_pos g1
      rw [hd] at c12d
      rw [g2, e4] at c10p
      exact back_bg n B w hT d.c d.x d.s d.g d.k _ _ _ _ _ _ _ _ c10 c12 c12d c10p
    · rw [pk_none hd, Z4_eq] at c12d
      exact back_bb n B w hT d.c d.x d.s d.g d.k _ _ _ _ _ _ _ _ c10 c12 c12d (by simpa using hd)
end Go.Proofs.YtemhpdhplbcgjaaDoor
