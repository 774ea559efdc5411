/-
  The law BinaryRises: its other ways; it returns true.
-/
import Derived.Test.YtemhpdhplbcgjaaDoorLr
set_option linter.unusedVariables false
set_option linter.unusedSectionVars false
set_option linter.unusedSimpArgs false
set_option maxRecDepth 20000
namespace Go.Proofs.YtemhpdhplbcgjaaDoor
open Go.RowKit

attribute [local irreducible] W4 mo
section
variable (n : Int) (A B : Nat) (w : World) (hT : Tab w) (Xc Xx Yc Yx : Int) (Xs Xg Yg : Bool) (Xk Yk : Nat)
include hT
set_option maxHeartbeats 1000000 in
theorem rises_s1 (E1 E2 : Int) (Ys : Bool)
    (c10 : ∀ w, Tab w → Calls Tryd.prog 10 #[.int .i64 n, A4 A] w fun x w' => x = .returned (.tuple #[DV Xc Xs Xg Xx Xk, .int .i64 E1]) ∧ Below w.heap.size w w')
    (c10b : ∀ w, Tab w → Calls Tryd.prog 10 #[.int .i64 n, A4 B] w fun x w' => x = .returned (.tuple #[DV Yc Ys Yg Yx Yk, .int .i64 E2]) ∧ Below w.heap.size w w')
    (h1 : (E1 != 0) = true)
    : Calls Tryd.prog 7 #[.int .i64 n, A4 A, A4 B] w fun x w' => x = .returned (.bool true) ∧ Below w.heap.size w w' := by
  go_enter Tryd.func7, Tryd.ntmps7
  go_wp2_with (first
    | (go_at_call 9; refine (awake_any _ ((hT.alloc _).alloc _)).mono ?_; rintro x w1 ⟨rfl, hb1⟩; obtain ⟨hc1, hf1⟩ := bcell hb1; have hz1_0 : w.heap.size < w1.heap.size := lt_below hb1 (by first | with_reducible assumption | (simp; done) | (simp; omega)); have hl1_0 := Nat.le_of_lt hz1_0; have hz1_1 : w.heap.size + 1 < w1.heap.size := lt_below hb1 (by first | with_reducible assumption | (simp; done) | (simp; omega)); have hl1_1 := Nat.le_of_lt hz1_1; have hA1 := bnext (w0 := w) (by (repeat (first | with_reducible assumption | with_reducible exact Below.refl _ _ | with_reducible refine Below.setCell ?_ (by first | omega | (dsimp only; omega) | (simp <;> omega)) _ | with_reducible refine Below.alloc ?_ (by first | omega | (simp <;> omega)) _ | with_reducible refine Below.drew ?_))) hb1; have hs1 := hA1.size; clear hb1)
    | (have := hA2; go_at_call 10; refine (c10b _ (hT.go (by (repeat (first | with_reducible assumption | with_reducible exact Below.refl _ _ | with_reducible refine Below.setCell ?_ (by first | omega | (dsimp only; omega) | (simp <;> omega)) _ | with_reducible refine Below.alloc ?_ (by first | omega | (simp <;> omega)) _ | with_reducible refine Below.drew ?_))))).mono ?_; rintro x w3 ⟨rfl, hb3⟩; obtain ⟨hc3, hf3⟩ := bcell hb3; have hz3_0 : w.heap.size < w3.heap.size := lt_below hb3 (by first | with_reducible assumption | (simp; done) | (simp; omega)); have hl3_0 := Nat.le_of_lt hz3_0; have hz3_1 : w.heap.size + 1 < w3.heap.size := lt_below hb3 (by first | with_reducible assumption | (simp; done) | (simp; omega)); have hl3_1 := Nat.le_of_lt hz3_1; have hz3_2 : w2.heap.size < w3.heap.size := lt_below hb3 (by first | with_reducible assumption | (simp; done) | (simp; omega)); have hl3_2 := Nat.le_of_lt hz3_2; have hA3 := bnext (w0 := w) (by (repeat (first | with_reducible assumption | with_reducible exact Below.refl _ _ | with_reducible refine Below.setCell ?_ (by first | omega | (dsimp only; omega) | (simp <;> omega)) _ | with_reducible refine Below.alloc ?_ (by first | omega | (simp <;> omega)) _ | with_reducible refine Below.drew ?_))) hb3; have hs3 := hA3.size; clear hb3)
    | (go_at_call 10; refine (c10 _ (hT.go hA1)).mono ?_; rintro x w2 ⟨rfl, hb2⟩; obtain ⟨hc2, hf2⟩ := bcell hb2; have hz2_0 : w.heap.size < w2.heap.size := lt_below hb2 (by first | with_reducible assumption | (simp; done) | (simp; omega)); have hl2_0 := Nat.le_of_lt hz2_0; have hz2_1 : w.heap.size + 1 < w2.heap.size := lt_below hb2 (by first | with_reducible assumption | (simp; done) | (simp; omega)); have hl2_1 := Nat.le_of_lt hz2_1; have hA2 := bnext (w0 := w) (by (repeat (first | with_reducible assumption | with_reducible exact Below.refl _ _ | with_reducible refine Below.setCell ?_ (by first | omega | (dsimp only; omega) | (simp <;> omega)) _ | with_reducible refine Below.alloc ?_ (by first | omega | (simp <;> omega)) _ | with_reducible refine Below.drew ?_))) hb2; have hs2 := hA2.size; clear hb2))
  go_ret
  exact ⟨rfl, by (repeat (first | with_reducible assumption | with_reducible exact Below.refl _ _ | with_reducible refine Below.setCell ?_ (by first | omega | (dsimp only; omega) | (simp <;> omega)) _ | with_reducible refine Below.alloc ?_ (by first | omega | (simp <;> omega)) _ | with_reducible refine Below.drew ?_))⟩
set_option maxHeartbeats 1000000 in
theorem rises_s2 (E1 E2 : Int) (Ys : Bool)
    (c10 : ∀ w, Tab w → Calls Tryd.prog 10 #[.int .i64 n, A4 A] w fun x w' => x = .returned (.tuple #[DV Xc Xs Xg Xx Xk, .int .i64 0]) ∧ Below w.heap.size w w')
    (c10b : ∀ w, Tab w → Calls Tryd.prog 10 #[.int .i64 n, A4 B] w fun x w' => x = .returned (.tuple #[DV Yc Ys Yg Yx Yk, .int .i64 E2]) ∧ Below w.heap.size w w')
    (h1 : (E2 != 0) = true)
    : Calls Tryd.prog 7 #[.int .i64 n, A4 A, A4 B] w fun x w' => x = .returned (.bool true) ∧ Below w.heap.size w w' := by
  go_enter Tryd.func7, Tryd.ntmps7
  go_wp2_with (first
    | (go_at_call 9; refine (awake_any _ ((hT.alloc _).alloc _)).mono ?_; rintro x w1 ⟨rfl, hb1⟩; obtain ⟨hc1, hf1⟩ := bcell hb1; have hz1_0 : w.heap.size < w1.heap.size := lt_below hb1 (by first | with_reducible assumption | (simp; done) | (simp; omega)); have hl1_0 := Nat.le_of_lt hz1_0; have hz1_1 : w.heap.size + 1 < w1.heap.size := lt_below hb1 (by first | with_reducible assumption | (simp; done) | (simp; omega)); have hl1_1 := Nat.le_of_lt hz1_1; have hA1 := bnext (w0 := w) (by (repeat (first | with_reducible assumption | with_reducible exact Below.refl _ _ | with_reducible refine Below.setCell ?_ (by first | omega | (dsimp only; omega) | (simp <;> omega)) _ | with_reducible refine Below.alloc ?_ (by first | omega | (simp <;> omega)) _ | with_reducible refine Below.drew ?_))) hb1; have hs1 := hA1.size; clear hb1)
    | (have := hA2; go_at_call 10; refine (c10b _ (hT.go (by (repeat (first | with_reducible assumption | with_reducible exact Below.refl _ _ | with_reducible refine Below.setCell ?_ (by first | omega | (dsimp only; omega) | (simp <;> omega)) _ | with_reducible refine Below.alloc ?_ (by first | omega | (simp <;> omega)) _ | with_reducible refine Below.drew ?_))))).mono ?_; rintro x w3 ⟨rfl, hb3⟩; obtain ⟨hc3, hf3⟩ := bcell hb3; have hz3_0 : w.heap.size < w3.heap.size := lt_below hb3 (by first | with_reducible assumption | (simp; done) | (simp; omega)); have hl3_0 := Nat.le_of_lt hz3_0; have hz3_1 : w.heap.size + 1 < w3.heap.size := lt_below hb3 (by first | with_reducible assumption | (simp; done) | (simp; omega)); have hl3_1 := Nat.le_of_lt hz3_1; have hz3_2 : w2.heap.size < w3.heap.size := lt_below hb3 (by first | with_reducible assumption | (simp; done) | (simp; omega)); have hl3_2 := Nat.le_of_lt hz3_2; have hA3 := bnext (w0 := w) (by (repeat (first | with_reducible assumption | with_reducible exact Below.refl _ _ | with_reducible refine Below.setCell ?_ (by first | omega | (dsimp only; omega) | (simp <;> omega)) _ | with_reducible refine Below.alloc ?_ (by first | omega | (simp <;> omega)) _ | with_reducible refine Below.drew ?_))) hb3; have hs3 := hA3.size; clear hb3)
    | (go_at_call 10; refine (c10 _ (hT.go hA1)).mono ?_; rintro x w2 ⟨rfl, hb2⟩; obtain ⟨hc2, hf2⟩ := bcell hb2; have hz2_0 : w.heap.size < w2.heap.size := lt_below hb2 (by first | with_reducible assumption | (simp; done) | (simp; omega)); have hl2_0 := Nat.le_of_lt hz2_0; have hz2_1 : w.heap.size + 1 < w2.heap.size := lt_below hb2 (by first | with_reducible assumption | (simp; done) | (simp; omega)); have hl2_1 := Nat.le_of_lt hz2_1; have hA2 := bnext (w0 := w) (by (repeat (first | with_reducible assumption | with_reducible exact Below.refl _ _ | with_reducible refine Below.setCell ?_ (by first | omega | (dsimp only; omega) | (simp <;> omega)) _ | with_reducible refine Below.alloc ?_ (by first | omega | (simp <;> omega)) _ | with_reducible refine Below.drew ?_))) hb2; have hs2 := hA2.size; clear hb2))
  go_ret
  exact ⟨rfl, by (repeat (first | with_reducible assumption | with_reducible exact Below.refl _ _ | with_reducible refine Below.setCell ?_ (by first | omega | (dsimp only; omega) | (simp <;> omega)) _ | with_reducible refine Below.alloc ?_ (by first | omega | (simp <;> omega)) _ | with_reducible refine Below.drew ?_))⟩
set_option maxHeartbeats 1000000 in
theorem rises_s3 (E1 E2 : Int) (Ys : Bool)
    (c10 : ∀ w, Tab w → Calls Tryd.prog 10 #[.int .i64 n, A4 A] w fun x w' => x = .returned (.tuple #[DV Xc Xs Xg Xx Xk, .int .i64 0]) ∧ Below w.heap.size w w')
    (c10b : ∀ w, Tab w → Calls Tryd.prog 10 #[.int .i64 n, A4 B] w fun x w' => x = .returned (.tuple #[DV Yc Ys Yg Yx Yk, .int .i64 0]) ∧ Below w.heap.size w w')
    (h1 : (Xc == 3) = true)
    : Calls Tryd.prog 7 #[.int .i64 n, A4 A, A4 B] w fun x w' => x = .returned (.bool true) ∧ Below w.heap.size w w' := by
  go_enter Tryd.func7, Tryd.ntmps7
  go_wp2_with (first
    | (go_at_call 9; refine (awake_any _ ((hT.alloc _).alloc _)).mono ?_; rintro x w1 ⟨rfl, hb1⟩; obtain ⟨hc1, hf1⟩ := bcell hb1; have hz1_0 : w.heap.size < w1.heap.size := lt_below hb1 (by first | with_reducible assumption | (simp; done) | (simp; omega)); have hl1_0 := Nat.le_of_lt hz1_0; have hz1_1 : w.heap.size + 1 < w1.heap.size := lt_below hb1 (by first | with_reducible assumption | (simp; done) | (simp; omega)); have hl1_1 := Nat.le_of_lt hz1_1; have hA1 := bnext (w0 := w) (by (repeat (first | with_reducible assumption | with_reducible exact Below.refl _ _ | with_reducible refine Below.setCell ?_ (by first | omega | (dsimp only; omega) | (simp <;> omega)) _ | with_reducible refine Below.alloc ?_ (by first | omega | (simp <;> omega)) _ | with_reducible refine Below.drew ?_))) hb1; have hs1 := hA1.size; clear hb1)
    | (have := hA2; go_at_call 10; refine (c10b _ (hT.go (by (repeat (first | with_reducible assumption | with_reducible exact Below.refl _ _ | with_reducible refine Below.setCell ?_ (by first | omega | (dsimp only; omega) | (simp <;> omega)) _ | with_reducible refine Below.alloc ?_ (by first | omega | (simp <;> omega)) _ | with_reducible refine Below.drew ?_))))).mono ?_; rintro x w3 ⟨rfl, hb3⟩; obtain ⟨hc3, hf3⟩ := bcell hb3; have hz3_0 : w.heap.size < w3.heap.size := lt_below hb3 (by first | with_reducible assumption | (simp; done) | (simp; omega)); have hl3_0 := Nat.le_of_lt hz3_0; have hz3_1 : w.heap.size + 1 < w3.heap.size := lt_below hb3 (by first | with_reducible assumption | (simp; done) | (simp; omega)); have hl3_1 := Nat.le_of_lt hz3_1; have hz3_2 : w2.heap.size < w3.heap.size := lt_below hb3 (by first | with_reducible assumption | (simp; done) | (simp; omega)); have hl3_2 := Nat.le_of_lt hz3_2; have hA3 := bnext (w0 := w) (by (repeat (first | with_reducible assumption | with_reducible exact Below.refl _ _ | with_reducible refine Below.setCell ?_ (by first | omega | (dsimp only; omega) | (simp <;> omega)) _ | with_reducible refine Below.alloc ?_ (by first | omega | (simp <;> omega)) _ | with_reducible refine Below.drew ?_))) hb3; have hs3 := hA3.size; clear hb3)
    | (go_at_call 10; refine (c10 _ (hT.go hA1)).mono ?_; rintro x w2 ⟨rfl, hb2⟩; obtain ⟨hc2, hf2⟩ := bcell hb2; have hz2_0 : w.heap.size < w2.heap.size := lt_below hb2 (by first | with_reducible assumption | (simp; done) | (simp; omega)); have hl2_0 := Nat.le_of_lt hz2_0; have hz2_1 : w.heap.size + 1 < w2.heap.size := lt_below hb2 (by first | with_reducible assumption | (simp; done) | (simp; omega)); have hl2_1 := Nat.le_of_lt hz2_1; have hA2 := bnext (w0 := w) (by (repeat (first | with_reducible assumption | with_reducible exact Below.refl _ _ | with_reducible refine Below.setCell ?_ (by first | omega | (dsimp only; omega) | (simp <;> omega)) _ | with_reducible refine Below.alloc ?_ (by first | omega | (simp <;> omega)) _ | with_reducible refine Below.drew ?_))) hb2; have hs2 := hA2.size; clear hb2))
  go_ret
  exact ⟨rfl, by (repeat (first | with_reducible assumption | with_reducible exact Below.refl _ _ | with_reducible refine Below.setCell ?_ (by first | omega | (dsimp only; omega) | (simp <;> omega)) _ | with_reducible refine Below.alloc ?_ (by first | omega | (simp <;> omega)) _ | with_reducible refine Below.drew ?_))⟩
set_option maxHeartbeats 1000000 in
theorem rises_s4 (E1 E2 : Int) (Ys : Bool)
    (c10 : ∀ w, Tab w → Calls Tryd.prog 10 #[.int .i64 n, A4 A] w fun x w' => x = .returned (.tuple #[DV Xc Xs Xg Xx Xk, .int .i64 0]) ∧ Below w.heap.size w w')
    (c10b : ∀ w, Tab w → Calls Tryd.prog 10 #[.int .i64 n, A4 B] w fun x w' => x = .returned (.tuple #[DV Yc Ys Yg Yx Yk, .int .i64 0]) ∧ Below w.heap.size w w')
    (h1 : (Xc == 3) = false) (h2 : (Yc == 3) = true)
    : Calls Tryd.prog 7 #[.int .i64 n, A4 A, A4 B] w fun x w' => x = .returned (.bool true) ∧ Below w.heap.size w w' := by
  go_enter Tryd.func7, Tryd.ntmps7
  go_wp2_with (first
    | (go_at_call 9; refine (awake_any _ ((hT.alloc _).alloc _)).mono ?_; rintro x w1 ⟨rfl, hb1⟩; obtain ⟨hc1, hf1⟩ := bcell hb1; have hz1_0 : w.heap.size < w1.heap.size := lt_below hb1 (by first | with_reducible assumption | (simp; done) | (simp; omega)); have hl1_0 := Nat.le_of_lt hz1_0; have hz1_1 : w.heap.size + 1 < w1.heap.size := lt_below hb1 (by first | with_reducible assumption | (simp; done) | (simp; omega)); have hl1_1 := Nat.le_of_lt hz1_1; have hA1 := bnext (w0 := w) (by (repeat (first | with_reducible assumption | with_reducible exact Below.refl _ _ | with_reducible refine Below.setCell ?_ (by first | omega | (dsimp only; omega) | (simp <;> omega)) _ | with_reducible refine Below.alloc ?_ (by first | omega | (simp <;> omega)) _ | with_reducible refine Below.drew ?_))) hb1; have hs1 := hA1.size; clear hb1)
    | (have := hA2; go_at_call 10; refine (c10b _ (hT.go (by (repeat (first | with_reducible assumption | with_reducible exact Below.refl _ _ | with_reducible refine Below.setCell ?_ (by first | omega | (dsimp only; omega) | (simp <;> omega)) _ | with_reducible refine Below.alloc ?_ (by first | omega | (simp <;> omega)) _ | with_reducible refine Below.drew ?_))))).mono ?_; rintro x w3 ⟨rfl, hb3⟩; obtain ⟨hc3, hf3⟩ := bcell hb3; have hz3_0 : w.heap.size < w3.heap.size := lt_below hb3 (by first | with_reducible assumption | (simp; done) | (simp; omega)); have hl3_0 := Nat.le_of_lt hz3_0; have hz3_1 : w.heap.size + 1 < w3.heap.size := lt_below hb3 (by first | with_reducible assumption | (simp; done) | (simp; omega)); have hl3_1 := Nat.le_of_lt hz3_1; have hz3_2 : w2.heap.size < w3.heap.size := lt_below hb3 (by first | with_reducible assumption | (simp; done) | (simp; omega)); have hl3_2 := Nat.le_of_lt hz3_2; have hA3 := bnext (w0 := w) (by (repeat (first | with_reducible assumption | with_reducible exact Below.refl _ _ | with_reducible refine Below.setCell ?_ (by first | omega | (dsimp only; omega) | (simp <;> omega)) _ | with_reducible refine Below.alloc ?_ (by first | omega | (simp <;> omega)) _ | with_reducible refine Below.drew ?_))) hb3; have hs3 := hA3.size; clear hb3)
    | (go_at_call 10; refine (c10 _ (hT.go hA1)).mono ?_; rintro x w2 ⟨rfl, hb2⟩; obtain ⟨hc2, hf2⟩ := bcell hb2; have hz2_0 : w.heap.size < w2.heap.size := lt_below hb2 (by first | with_reducible assumption | (simp; done) | (simp; omega)); have hl2_0 := Nat.le_of_lt hz2_0; have hz2_1 : w.heap.size + 1 < w2.heap.size := lt_below hb2 (by first | with_reducible assumption | (simp; done) | (simp; omega)); have hl2_1 := Nat.le_of_lt hz2_1; have hA2 := bnext (w0 := w) (by (repeat (first | with_reducible assumption | with_reducible exact Below.refl _ _ | with_reducible refine Below.setCell ?_ (by first | omega | (dsimp only; omega) | (simp <;> omega)) _ | with_reducible refine Below.alloc ?_ (by first | omega | (simp <;> omega)) _ | with_reducible refine Below.drew ?_))) hb2; have hs2 := hA2.size; clear hb2))
  go_ret
  exact ⟨rfl, by (repeat (first | with_reducible assumption | with_reducible exact Below.refl _ _ | with_reducible refine Below.setCell ?_ (by first | omega | (dsimp only; omega) | (simp <;> omega)) _ | with_reducible refine Below.alloc ?_ (by first | omega | (simp <;> omega)) _ | with_reducible refine Below.drew ?_))⟩
set_option maxHeartbeats 1000000 in
theorem rises_s5 (E1 E2 : Int) (Ys : Bool)
    (c10 : ∀ w, Tab w → Calls Tryd.prog 10 #[.int .i64 n, A4 A] w fun x w' => x = .returned (.tuple #[DV Xc Xs Xg Xx Xk, .int .i64 0]) ∧ Below w.heap.size w w')
    (c10b : ∀ w, Tab w → Calls Tryd.prog 10 #[.int .i64 n, A4 B] w fun x w' => x = .returned (.tuple #[DV Yc Ys Yg Yx Yk, .int .i64 0]) ∧ Below w.heap.size w w')
    (h1 : (Xc == 3) = false) (h2 : (Yc == 3) = false) (h3 : (Xs != Ys) = true)
    : Calls Tryd.prog 7 #[.int .i64 n, A4 A, A4 B] w fun x w' => x = .returned (.bool true) ∧ Below w.heap.size w w' := by
  cases Xs <;> cases Ys <;> first | (exact absurd h3 (by decide)) | skip
  all_goals (
    go_enter Tryd.func7, Tryd.ntmps7
    go_wp2_with (first
      | (go_at_call 9; refine (awake_any _ ((hT.alloc _).alloc _)).mono ?_; rintro x w1 ⟨rfl, hb1⟩; obtain ⟨hc1, hf1⟩ := bcell hb1; have hz1_0 : w.heap.size < w1.heap.size := lt_below hb1 (by first | with_reducible assumption | (simp; done) | (simp; omega)); have hl1_0 := Nat.le_of_lt hz1_0; have hz1_1 : w.heap.size + 1 < w1.heap.size := lt_below hb1 (by first | with_reducible assumption | (simp; done) | (simp; omega)); have hl1_1 := Nat.le_of_lt hz1_1; have hA1 := bnext (w0 := w) (by (repeat (first | with_reducible assumption | with_reducible exact Below.refl _ _ | with_reducible refine Below.setCell ?_ (by first | omega | (dsimp only; omega) | (simp <;> omega)) _ | with_reducible refine Below.alloc ?_ (by first | omega | (simp <;> omega)) _ | with_reducible refine Below.drew ?_))) hb1; have hs1 := hA1.size; clear hb1)
      | (have := hA2; go_at_call 10; refine (c10b _ (hT.go (by (repeat (first | with_reducible assumption | with_reducible exact Below.refl _ _ | with_reducible refine Below.setCell ?_ (by first | omega | (dsimp only; omega) | (simp <;> omega)) _ | with_reducible refine Below.alloc ?_ (by first | omega | (simp <;> omega)) _ | with_reducible refine Below.drew ?_))))).mono ?_; rintro x w3 ⟨rfl, hb3⟩; obtain ⟨hc3, hf3⟩ := bcell hb3; have hz3_0 : w.heap.size < w3.heap.size := lt_below hb3 (by first | with_reducible assumption | (simp; done) | (simp; omega)); have hl3_0 := Nat.le_of_lt hz3_0; have hz3_1 : w.heap.size + 1 < w3.heap.size := lt_below hb3 (by first | with_reducible assumption | (simp; done) | (simp; omega)); have hl3_1 := Nat.le_of_lt hz3_1; have hz3_2 : w2.heap.size < w3.heap.size := lt_below hb3 (by first | with_reducible assumption | (simp; done) | (simp; omega)); have hl3_2 := Nat.le_of_lt hz3_2; have hA3 := bnext (w0 := w) (by (repeat (first | with_reducible assumption | with_reducible exact Below.refl _ _ | with_reducible refine Below.setCell ?_ (by first | omega | (dsimp only; omega) | (simp <;> omega)) _ | with_reducible refine Below.alloc ?_ (by first | omega | (simp <;> omega)) _ | with_reducible refine Below.drew ?_))) hb3; have hs3 := hA3.size; clear hb3)
      | (go_at_call 10; refine (c10 _ (hT.go hA1)).mono ?_; rintro x w2 ⟨rfl, hb2⟩; obtain ⟨hc2, hf2⟩ := bcell hb2; have hz2_0 : w.heap.size < w2.heap.size := lt_below hb2 (by first | with_reducible assumption | (simp; done) | (simp; omega)); have hl2_0 := Nat.le_of_lt hz2_0; have hz2_1 : w.heap.size + 1 < w2.heap.size := lt_below hb2 (by first | with_reducible assumption | (simp; done) | (simp; omega)); have hl2_1 := Nat.le_of_lt hz2_1; have hA2 := bnext (w0 := w) (by (repeat (first | with_reducible assumption | with_reducible exact Below.refl _ _ | with_reducible refine Below.setCell ?_ (by first | omega | (dsimp only; omega) | (simp <;> omega)) _ | with_reducible refine Below.alloc ?_ (by first | omega | (simp <;> omega)) _ | with_reducible refine Below.drew ?_))) hb2; have hs2 := hA2.size; clear hb2))
    go_ret
    exact ⟨rfl, by (repeat (first | with_reducible assumption | with_reducible exact Below.refl _ _ | with_reducible refine Below.setCell ?_ (by first | omega | (dsimp only; omega) | (simp <;> omega)) _ | with_reducible refine Below.alloc ?_ (by first | omega | (simp <;> omega)) _ | with_reducible refine Below.drew ?_))⟩)
set_option maxHeartbeats 2000000 in
theorem rises_x
    (c10 : ∀ w, Tab w → Calls Tryd.prog 10 #[.int .i64 n, A4 A] w fun x w' => x = .returned (.tuple #[DV Xc Xs Xg Xx Xk, .int .i64 0]) ∧ Below w.heap.size w w')
    (c10b : ∀ w, Tab w → Calls Tryd.prog 10 #[.int .i64 n, A4 B] w fun x w' => x = .returned (.tuple #[DV Yc Xs Yg Yx Yk, .int .i64 0]) ∧ Below w.heap.size w w')
    (hx3 : (Xc == 3) = false) (hy3 : (Yc == 3) = false) (hc : (Xc == Yc) = true) (hx : (Xx == Yx) = false) (hm : mo A B 4 = decide (Yx < Xx))
    : Calls Tryd.prog 7 #[.int .i64 n, A4 A, A4 B] w fun x w' => x = .returned (.bool true) ∧ Below w.heap.size w w' := by
  have hc2 : (Xc != Yc) = false := by simpa using hc
  have hx2 : (Xx != Yx) = true := by simpa using hx
  go_enter Tryd.func7, Tryd.ntmps7
  go_wp2_with (first
    | (go_at_call 9; refine (awake_any _ ((hT.alloc _).alloc _)).mono ?_; rintro x w1 ⟨rfl, hb1⟩; obtain ⟨hc1, hf1⟩ := bcell hb1; have hz1_0 : w.heap.size < w1.heap.size := lt_below hb1 (by first | with_reducible assumption | (simp; done) | (simp; omega)); have hl1_0 := Nat.le_of_lt hz1_0; have hz1_1 : w.heap.size + 1 < w1.heap.size := lt_below hb1 (by first | with_reducible assumption | (simp; done) | (simp; omega)); have hl1_1 := Nat.le_of_lt hz1_1; have hA1 := bnext (w0 := w) (by (repeat (first | with_reducible assumption | with_reducible exact Below.refl _ _ | with_reducible refine Below.setCell ?_ (by first | omega | (dsimp only; omega) | (simp <;> omega)) _ | with_reducible refine Below.alloc ?_ (by first | omega | (simp <;> omega)) _ | with_reducible refine Below.drew ?_))) hb1; have hs1 := hA1.size; clear hb1)
    | (have := hA2; go_at_call 10; refine (c10b _ (hT.go (by (repeat (first | with_reducible assumption | with_reducible exact Below.refl _ _ | with_reducible refine Below.setCell ?_ (by first | omega | (dsimp only; omega) | (simp <;> omega)) _ | with_reducible refine Below.alloc ?_ (by first | omega | (simp <;> omega)) _ | with_reducible refine Below.drew ?_))))).mono ?_; rintro x w3 ⟨rfl, hb3⟩; obtain ⟨hc3, hf3⟩ := bcell hb3; have hz3_0 : w.heap.size < w3.heap.size := lt_below hb3 (by first | with_reducible assumption | (simp; done) | (simp; omega)); have hl3_0 := Nat.le_of_lt hz3_0; have hz3_1 : w.heap.size + 1 < w3.heap.size := lt_below hb3 (by first | with_reducible assumption | (simp; done) | (simp; omega)); have hl3_1 := Nat.le_of_lt hz3_1; have hz3_2 : w2.heap.size < w3.heap.size := lt_below hb3 (by first | with_reducible assumption | (simp; done) | (simp; omega)); have hl3_2 := Nat.le_of_lt hz3_2; have hA3 := bnext (w0 := w) (by (repeat (first | with_reducible assumption | with_reducible exact Below.refl _ _ | with_reducible refine Below.setCell ?_ (by first | omega | (dsimp only; omega) | (simp <;> omega)) _ | with_reducible refine Below.alloc ?_ (by first | omega | (simp <;> omega)) _ | with_reducible refine Below.drew ?_))) hb3; have hs3 := hA3.size; clear hb3)
    | (go_at_call 10; refine (c10 _ (hT.go hA1)).mono ?_; rintro x w2 ⟨rfl, hb2⟩; obtain ⟨hc2, hf2⟩ := bcell hb2; have hz2_0 : w.heap.size < w2.heap.size := lt_below hb2 (by first | with_reducible assumption | (simp; done) | (simp; omega)); have hl2_0 := Nat.le_of_lt hz2_0; have hz2_1 : w.heap.size + 1 < w2.heap.size := lt_below hb2 (by first | with_reducible assumption | (simp; done) | (simp; omega)); have hl2_1 := Nat.le_of_lt hz2_1; have hA2 := bnext (w0 := w) (by (repeat (first | with_reducible assumption | with_reducible exact Below.refl _ _ | with_reducible refine Below.setCell ?_ (by first | omega | (dsimp only; omega) | (simp <;> omega)) _ | with_reducible refine Below.alloc ?_ (by first | omega | (simp <;> omega)) _ | with_reducible refine Below.drew ?_))) hb2; have hs2 := hA2.size; clear hb2))
  go_loopw [11, 52] (fun m t wr => ∃ i : Nat, i ≤ 4 ∧ t = .int .i64 i ∧ m = .bool (mo A B i) ∧ Four wr w.heap.size 0 A ∧ Four wr (w.heap.size + 1) 0 B ∧ Dc wr w2.heap.size Xc Xs Xg Xx Xk ∧ Dc wr w3.heap.size Yc Xs Yg Yx Yk ∧ Below w.heap.size w wr ∧ w3.heap.size < wr.heap.size) (fun _ t _ => 4 - (intOf t).toNat)
  case atStart => exact ⟨0, by decide, rfl, by rw [mo_zero], .of (by go_simp) (by go_simp) (by go_simp) (by go_simp), .of (by go_simp) (by go_simp) (by go_simp) (by go_simp), ⟨by go_simp, by go_simp, by go_simp, by go_simp, by go_simp, by go_simp, by go_simp, by go_simp⟩, ⟨by go_simp, by go_simp, by go_simp, by go_simp, by go_simp, by go_simp, by go_simp, by go_simp⟩, by (repeat (first | with_reducible assumption | with_reducible exact Below.refl _ _ | with_reducible refine Below.setCell ?_ (by first | omega | (dsimp only; omega) | (simp <;> omega)) _ | with_reducible refine Below.alloc ?_ (by first | omega | (simp <;> omega)) _ | with_reducible refine Below.drew ?_)), by simp⟩
  case round =>
    obtain ⟨i, hi, rfl, rfl, fA, fB, fX, fY, hbw, hsz⟩ := hrel
    have hl0 : w.heap.size < wr.heap.size := by omega
    have hl1 : w.heap.size + 1 < wr.heap.size := by omega
    have hl2 : w2.heap.size < wr.heap.size := by omega
    by_cases h : i < 4
    · have hi4 : (i : Int) < 4 := by omega
      have hAi := fA.cell i h
      have hBi := fB.cell i h
      rw [Nat.zero_add] at hAi hBi
      by_cases he : W4 A i = W4 B i
      · have hn := mo_same he
        rw [he] at hAi
        clear he
        go_wp2
        refine wp_whole (by kernel_rfl) (by kernel_rfl) fun hne hcell => ?_
        repeat go_big_quiet_step (fail)
        refine wpQuiet_nil fun w5 hb5 => ?_
        go_wp2
        go_roundw
        case rel => exact ⟨i + 1, by omega, by go_num, by rw [hn], fA.next hl0 hb5, fB.next hl1 hb5, fX.next hl2 hb5, fY.next hsz hb5, bnext hbw hb5, Nat.lt_of_lt_of_le hsz hb5.size⟩
        case measure => simp [intOf]; omega
      · have hn := mo_other he
        have hne1 : (W4 A i == W4 B i) = false := by simpa using he
        have hne2 : (W4 A i != W4 B i) = true := by simpa using he
        go_wp2
        refine wp_whole (by kernel_rfl) (by kernel_rfl) fun hne hcell => ?_
        repeat go_big_quiet_step (fail)
        refine wpQuiet_nil fun w5 hb5 => ?_
        have hA5 : w5.cell? ⟨w.heap.size, i, none⟩ = some (.int .u64 (W4 A i)) := by rw [(bcell hb5).1 _ _ hl0]; exact hAi
        have hB5 : w5.cell? ⟨w.heap.size + 1, i, none⟩ = some (.int .u64 (W4 B i)) := by rw [(bcell hb5).1 _ _ hl1]; exact hBi
        have hl5 := lt_below hb5 hl0
        have hl6 := lt_below hb5 hl1
        go_wp2
        refine wp_whole (by kernel_rfl) (by kernel_rfl) fun hne hcell => ?_
        repeat go_big_quiet_step (fail)
        refine wpQuiet_nil fun w6 hb6 => ?_
        go_wp2
        go_roundw
        case rel => exact ⟨i + 1, by omega, by go_num, by rw [hn], (fA.next hl0 hb5).next (lt_below hb5 hl0) hb6, (fB.next hl1 hb5).next (lt_below hb5 hl1) hb6, (fX.next hl2 hb5).next (lt_below hb5 hl2) hb6, (fY.next hsz hb5).next (lt_below hb5 hsz) hb6, bnext (bnext hbw hb5) hb6, Nat.lt_of_lt_of_le (lt_below hb5 hsz) hb6.size⟩
        case measure => simp [intOf]; omega
    · obtain rfl : i = 4 := by omega
      obtain ⟨x0, x1, x2, x3, x4, x5, x6, x7⟩ := fX
      obtain ⟨y0, y1, y2, y3, y4, y5, y6, y7⟩ := fY
      go_wp2
      go_ret
      exact ⟨by simp [hm], hbw⟩
set_option maxHeartbeats 2000000 in
theorem rises_k
    (c10 : ∀ w, Tab w → Calls Tryd.prog 10 #[.int .i64 n, A4 A] w fun x w' => x = .returned (.tuple #[DV Xc Xs Xg Xx Xk, .int .i64 0]) ∧ Below w.heap.size w w')
    (c10b : ∀ w, Tab w → Calls Tryd.prog 10 #[.int .i64 n, A4 B] w fun x w' => x = .returned (.tuple #[DV Yc Xs Yg Yx Yk, .int .i64 0]) ∧ Below w.heap.size w w')
    (hx3 : (Xc == 3) = false) (hy3 : (Yc == 3) = false) (hc : (Xc == Yc) = true) (hx : (Xx == Yx) = true) (hm : mo A B 4 = mo Xk Yk 4)
    : Calls Tryd.prog 7 #[.int .i64 n, A4 A, A4 B] w fun x w' => x = .returned (.bool true) ∧ Below w.heap.size w w' := by
  have hc2 : (Xc != Yc) = false := by simpa using hc
  have hx2 : (Xx != Yx) = false := by simpa using hx
  go_enter Tryd.func7, Tryd.ntmps7
  go_wp2_with (first
    | (go_at_call 9; refine (awake_any _ ((hT.alloc _).alloc _)).mono ?_; rintro x w1 ⟨rfl, hb1⟩; obtain ⟨hc1, hf1⟩ := bcell hb1; have hz1_0 : w.heap.size < w1.heap.size := lt_below hb1 (by first | with_reducible assumption | (simp; done) | (simp; omega)); have hl1_0 := Nat.le_of_lt hz1_0; have hz1_1 : w.heap.size + 1 < w1.heap.size := lt_below hb1 (by first | with_reducible assumption | (simp; done) | (simp; omega)); have hl1_1 := Nat.le_of_lt hz1_1; have hA1 := bnext (w0 := w) (by (repeat (first | with_reducible assumption | with_reducible exact Below.refl _ _ | with_reducible refine Below.setCell ?_ (by first | omega | (dsimp only; omega) | (simp <;> omega)) _ | with_reducible refine Below.alloc ?_ (by first | omega | (simp <;> omega)) _ | with_reducible refine Below.drew ?_))) hb1; have hs1 := hA1.size; clear hb1)
    | (have := hA2; go_at_call 10; refine (c10b _ (hT.go (by (repeat (first | with_reducible assumption | with_reducible exact Below.refl _ _ | with_reducible refine Below.setCell ?_ (by first | omega | (dsimp only; omega) | (simp <;> omega)) _ | with_reducible refine Below.alloc ?_ (by first | omega | (simp <;> omega)) _ | with_reducible refine Below.drew ?_))))).mono ?_; rintro x w3 ⟨rfl, hb3⟩; obtain ⟨hc3, hf3⟩ := bcell hb3; have hz3_0 : w.heap.size < w3.heap.size := lt_below hb3 (by first | with_reducible assumption | (simp; done) | (simp; omega)); have hl3_0 := Nat.le_of_lt hz3_0; have hz3_1 : w.heap.size + 1 < w3.heap.size := lt_below hb3 (by first | with_reducible assumption | (simp; done) | (simp; omega)); have hl3_1 := Nat.le_of_lt hz3_1; have hz3_2 : w2.heap.size < w3.heap.size := lt_below hb3 (by first | with_reducible assumption | (simp; done) | (simp; omega)); have hl3_2 := Nat.le_of_lt hz3_2; have hA3 := bnext (w0 := w) (by (repeat (first | with_reducible assumption | with_reducible exact Below.refl _ _ | with_reducible refine Below.setCell ?_ (by first | omega | (dsimp only; omega) | (simp <;> omega)) _ | with_reducible refine Below.alloc ?_ (by first | omega | (simp <;> omega)) _ | with_reducible refine Below.drew ?_))) hb3; have hs3 := hA3.size; clear hb3)
    | (go_at_call 10; refine (c10 _ (hT.go hA1)).mono ?_; rintro x w2 ⟨rfl, hb2⟩; obtain ⟨hc2, hf2⟩ := bcell hb2; have hz2_0 : w.heap.size < w2.heap.size := lt_below hb2 (by first | with_reducible assumption | (simp; done) | (simp; omega)); have hl2_0 := Nat.le_of_lt hz2_0; have hz2_1 : w.heap.size + 1 < w2.heap.size := lt_below hb2 (by first | with_reducible assumption | (simp; done) | (simp; omega)); have hl2_1 := Nat.le_of_lt hz2_1; have hA2 := bnext (w0 := w) (by (repeat (first | with_reducible assumption | with_reducible exact Below.refl _ _ | with_reducible refine Below.setCell ?_ (by first | omega | (dsimp only; omega) | (simp <;> omega)) _ | with_reducible refine Below.alloc ?_ (by first | omega | (simp <;> omega)) _ | with_reducible refine Below.drew ?_))) hb2; have hs2 := hA2.size; clear hb2))
  go_loopw [11, 52] (fun m t wr => ∃ i : Nat, i ≤ 4 ∧ t = .int .i64 i ∧ m = .bool (mo A B i) ∧ Four wr w.heap.size 0 A ∧ Four wr (w.heap.size + 1) 0 B ∧ Dc wr w2.heap.size Xc Xs Xg Xx Xk ∧ Dc wr w3.heap.size Yc Xs Yg Yx Yk ∧ Below w.heap.size w wr ∧ w3.heap.size < wr.heap.size) (fun _ t _ => 4 - (intOf t).toNat)
  case atStart => exact ⟨0, by decide, rfl, by rw [mo_zero], .of (by go_simp) (by go_simp) (by go_simp) (by go_simp), .of (by go_simp) (by go_simp) (by go_simp) (by go_simp), ⟨by go_simp, by go_simp, by go_simp, by go_simp, by go_simp, by go_simp, by go_simp, by go_simp⟩, ⟨by go_simp, by go_simp, by go_simp, by go_simp, by go_simp, by go_simp, by go_simp, by go_simp⟩, by (repeat (first | with_reducible assumption | with_reducible exact Below.refl _ _ | with_reducible refine Below.setCell ?_ (by first | omega | (dsimp only; omega) | (simp <;> omega)) _ | with_reducible refine Below.alloc ?_ (by first | omega | (simp <;> omega)) _ | with_reducible refine Below.drew ?_)), by simp⟩
  case round =>
    obtain ⟨i, hi, rfl, rfl, fA, fB, fX, fY, hbw, hsz⟩ := hrel
    have hl0 : w.heap.size < wr.heap.size := by omega
    have hl1 : w.heap.size + 1 < wr.heap.size := by omega
    have hl2 : w2.heap.size < wr.heap.size := by omega
    by_cases h : i < 4
    · have hi4 : (i : Int) < 4 := by omega
      have hAi := fA.cell i h
      have hBi := fB.cell i h
      rw [Nat.zero_add] at hAi hBi
      by_cases he : W4 A i = W4 B i
      · have hn := mo_same he
        rw [he] at hAi
        clear he
        go_wp2
        refine wp_whole (by kernel_rfl) (by kernel_rfl) fun hne hcell => ?_
        repeat go_big_quiet_step (fail)
        refine wpQuiet_nil fun w5 hb5 => ?_
        go_wp2
        go_roundw
        case rel => exact ⟨i + 1, by omega, by go_num, by rw [hn], fA.next hl0 hb5, fB.next hl1 hb5, fX.next hl2 hb5, fY.next hsz hb5, bnext hbw hb5, Nat.lt_of_lt_of_le hsz hb5.size⟩
        case measure => simp [intOf]; omega
      · have hn := mo_other he
        have hne1 : (W4 A i == W4 B i) = false := by simpa using he
        have hne2 : (W4 A i != W4 B i) = true := by simpa using he
        go_wp2
        refine wp_whole (by kernel_rfl) (by kernel_rfl) fun hne hcell => ?_
        repeat go_big_quiet_step (fail)
        refine wpQuiet_nil fun w5 hb5 => ?_
        have hA5 : w5.cell? ⟨w.heap.size, i, none⟩ = some (.int .u64 (W4 A i)) := by rw [(bcell hb5).1 _ _ hl0]; exact hAi
        have hB5 : w5.cell? ⟨w.heap.size + 1, i, none⟩ = some (.int .u64 (W4 B i)) := by rw [(bcell hb5).1 _ _ hl1]; exact hBi
        have hl5 := lt_below hb5 hl0
        have hl6 := lt_below hb5 hl1
        go_wp2
        refine wp_whole (by kernel_rfl) (by kernel_rfl) fun hne hcell => ?_
        repeat go_big_quiet_step (fail)
        refine wpQuiet_nil fun w6 hb6 => ?_
        go_wp2
        go_roundw
        case rel => exact ⟨i + 1, by omega, by go_num, by rw [hn], (fA.next hl0 hb5).next (lt_below hb5 hl0) hb6, (fB.next hl1 hb5).next (lt_below hb5 hl1) hb6, (fX.next hl2 hb5).next (lt_below hb5 hl2) hb6, (fY.next hsz hb5).next (lt_below hb5 hsz) hb6, bnext (bnext hbw hb5) hb6, Nat.lt_of_lt_of_le (lt_below hb5 hsz) hb6.size⟩
        case measure => simp [intOf]; omega
    · obtain rfl : i = 4 := by omega
      have gX := fX.four
      have gY := fY.four
      obtain ⟨x0, x1, x2, x3, x4, x5, x6, x7⟩ := fX
      obtain ⟨y0, y1, y2, y3, y4, y5, y6, y7⟩ := fY
      go_wp2
      go_loopw [12, 70] (fun m t wr => ∃ i : Nat, i ≤ 4 ∧ t = .int .i64 i ∧ m = .bool (mo Xk Yk i) ∧ Four wr w2.heap.size 4 Xk ∧ Four wr w3.heap.size 4 Yk ∧ Below w.heap.size w wr ∧ w3.heap.size < wr.heap.size) (fun _ t _ => 4 - (intOf t).toNat)
      case atStart => exact ⟨0, by decide, rfl, by rw [mo_zero], gX, gY, hbw, hsz⟩
      case round =>
        clear x0 x1 x2 x3 x4 x5 x6 x7 y0 y1 y2 y3 y4 y5 y6 y7 gX gY fA fB hl0 hl1 hl2 hbw hsz h hi
        obtain ⟨i, hi, rfl, rfl, gX, gY, hbw, hsz⟩ := hrel
        have hl2 : w2.heap.size < wr.heap.size := by omega
        by_cases h : i < 4
        · have hi4 : (i : Int) < 4 := by omega
          have hAi := gX.cell i h
          have hBi := gY.cell i h
          by_cases he : W4 Xk i = W4 Yk i
          · have hn := mo_same he
            rw [he] at hAi
            clear he
            go_wp2
            refine wp_whole (by kernel_rfl) (by kernel_rfl) fun hne hcell => ?_
            repeat go_big_quiet_step (fail)
            refine wpQuiet_nil fun w5 hb5 => ?_
            go_wp2
            go_roundw
            case rel => exact ⟨i + 1, by omega, by go_num, by rw [hn], gX.next hl2 hb5, gY.next hsz hb5, bnext hbw hb5, Nat.lt_of_lt_of_le hsz hb5.size⟩
            case measure => simp [intOf]; omega
          · have hn := mo_other he
            have hne1 : (W4 Xk i == W4 Yk i) = false := by simpa using he
            have hne2 : (W4 Xk i != W4 Yk i) = true := by simpa using he
            go_wp2
            refine wp_whole (by kernel_rfl) (by kernel_rfl) fun hne hcell => ?_
            repeat go_big_quiet_step (fail)
            refine wpQuiet_nil fun w5 hb5 => ?_
            have hA5 : w5.cell? ⟨w2.heap.size, 4 + i, none⟩ = some (.int .u64 (W4 Xk i)) := by rw [(bcell hb5).1 _ _ hl2]; exact hAi
            have hB5 : w5.cell? ⟨w3.heap.size, 4 + i, none⟩ = some (.int .u64 (W4 Yk i)) := by rw [(bcell hb5).1 _ _ hsz]; exact hBi
            have hl5 := lt_below hb5 hl2
            have hl6 := lt_below hb5 hsz
            go_wp2
            refine wp_whole (by kernel_rfl) (by kernel_rfl) fun hne hcell => ?_
            repeat go_big_quiet_step (fail)
            refine wpQuiet_nil fun w6 hb6 => ?_
            go_wp2
            go_roundw
            case rel => exact ⟨i + 1, by omega, by go_num, by rw [hn], (gX.next hl2 hb5).next hl5 hb6, (gY.next hsz hb5).next hl6 hb6, bnext (bnext hbw hb5) hb6, Nat.lt_of_lt_of_le (lt_below hb5 hsz) hb6.size⟩
            case measure => simp [intOf]; omega
        · obtain rfl : i = 4 := by omega
          go_wp2
          go_ret
          exact ⟨by simp [hm], hbw⟩
end
end Go.Proofs.YtemhpdhplbcgjaaDoor
