/-
  The law BinaryQuiets: it returns true.
-/
import Derived.Test.YtemhpdhplbcgjaaDoorRr
import Derived.Test.YtemhpdhplbcgjaaDoorLb
set_option linter.unusedVariables false
set_option linter.unusedSectionVars false
set_option linter.unusedSimpArgs false
set_option maxRecDepth 20000
namespace Go.Proofs.YtemhpdhplbcgjaaDoor
open Go.RowKit
attribute [local irreducible] W4

section
variable (n : Int) (B Q : Nat) (w : World) (hT : Tab w) (c x : Int) (s g : Bool) (k : Nat)
include hT
set_option maxHeartbeats 2000000 in
theorem quiets_e (E : Int) (hE : (E != 0) = true)
    (c16 : ∀ w, Tab w → Calls Tryd.prog 16 #[.int .i64 n, A4 B] w fun r w' => r = .returned (.tuple #[A4 Q, .int .i64 E]) ∧ Below w.heap.size w w')
    (c17 : ∀ w, Calls Tryd.prog 17 #[.int .i64 n, A4 B] w fun r w' => r = .returned (.tuple #[A4 Q, .int .i64 E]) ∧ Below w.heap.size w w')
    : Calls Tryd.prog 6 #[.int .i64 n, A4 B] w fun x w' => x = .returned (.bool true) ∧ Below w.heap.size w w' := by
  have hQ := A4_self Q
  go_enter Tryd.func6, Tryd.ntmps6
  go_wp2_with (first
    | (go_at_call 9; refine (awake_any _ (hT.alloc _)).mono ?_; rintro x w1 ⟨rfl, hb1⟩; obtain ⟨hc1, hf1⟩ := bcell hb1; have hz1_0 : w.heap.size < w1.heap.size := lt_below hb1 (by first | with_reducible assumption | (simp; done) | (simp; omega)); have hl1_0 := Nat.le_of_lt hz1_0; have hA1 := bnext (w0 := w) (by (repeat (first | with_reducible assumption | with_reducible exact Below.refl _ _ | with_reducible refine Below.setCell ?_ (by first | omega | (dsimp only; omega) | (simp <;> omega)) _ | with_reducible refine Below.alloc ?_ (by first | omega | (simp <;> omega)) _ | with_reducible refine Below.drew ?_))) hb1; have hs1 := hA1.size; clear hb1)
    | (go_at_call 16; refine (c16 _ (hT.go (by (repeat (first | with_reducible assumption | with_reducible exact Below.refl _ _ | with_reducible refine Below.setCell ?_ (by first | omega | (dsimp only; omega) | (simp <;> omega)) _ | with_reducible refine Below.alloc ?_ (by first | omega | (simp <;> omega)) _ | with_reducible refine Below.drew ?_))))).mono ?_; rintro x w2 ⟨rfl, hb2⟩; obtain ⟨hc2, hf2⟩ := bcell hb2; have hz2_0 : w.heap.size < w2.heap.size := lt_below hb2 (by first | with_reducible assumption | (simp; done) | (simp; omega)); have hl2_0 := Nat.le_of_lt hz2_0; have hA2 := bnext (w0 := w) (by (repeat (first | with_reducible assumption | with_reducible exact Below.refl _ _ | with_reducible refine Below.setCell ?_ (by first | omega | (dsimp only; omega) | (simp <;> omega)) _ | with_reducible refine Below.alloc ?_ (by first | omega | (simp <;> omega)) _ | with_reducible refine Below.drew ?_))) hb2; have hs2 := hA2.size; clear hb2)
    | (go_at_call 17; refine (c17 _).mono ?_; rintro x w3 ⟨rfl, hb3⟩; obtain ⟨hc3, hf3⟩ := bcell hb3; have hz3_0 : w.heap.size < w3.heap.size := lt_below hb3 (by first | with_reducible assumption | (simp; done) | (simp; omega)); have hl3_0 := Nat.le_of_lt hz3_0; have hz3_1 : w2.heap.size < w3.heap.size := lt_below hb3 (by first | with_reducible assumption | (simp; done) | (simp; omega)); have hl3_1 := Nat.le_of_lt hz3_1; have hA3 := bnext (w0 := w) (by (repeat (first | with_reducible assumption | with_reducible exact Below.refl _ _ | with_reducible refine Below.setCell ?_ (by first | omega | (dsimp only; omega) | (simp <;> omega)) _ | with_reducible refine Below.alloc ?_ (by first | omega | (simp <;> omega)) _ | with_reducible refine Below.drew ?_))) hb3; have hs3 := hA3.size; clear hb3))
  go_ret
  exact ⟨rfl, by (repeat (first | with_reducible assumption | with_reducible exact Below.refl _ _ | with_reducible refine Below.setCell ?_ (by first | omega | (dsimp only; omega) | (simp <;> omega)) _ | with_reducible refine Below.alloc ?_ (by first | omega | (simp <;> omega)) _ | with_reducible refine Below.drew ?_))⟩
variable (c16 : ∀ w, Tab w → Calls Tryd.prog 16 #[.int .i64 n, A4 B] w fun r w' => r = .returned (.tuple #[A4 Q, .int .i64 0]) ∧ Below w.heap.size w w')
    (c17 : ∀ w, Calls Tryd.prog 17 #[.int .i64 n, A4 B] w fun r w' => r = .returned (.tuple #[A4 Q, .int .i64 0]) ∧ Below w.heap.size w w')
    (c10 : ∀ w, Tab w → Calls Tryd.prog 10 #[.int .i64 n, A4 B] w fun r w' => r = .returned (.tuple #[DV c s g x k, .int .i64 0]) ∧ Below w.heap.size w w')
    (c10q : ∀ w, Tab w → Calls Tryd.prog 10 #[.int .i64 n, A4 Q] w fun r w' => r = .returned (.tuple #[DV c s false x k, .int .i64 0]) ∧ Below w.heap.size w w')
include c16 c17 c10 c10q
set_option maxHeartbeats 2000000 in
theorem quiets_n (hc : (c != 3) = true) (hB : B = Q)
    : Calls Tryd.prog 6 #[.int .i64 n, A4 B] w fun x w' => x = .returned (.bool true) ∧ Below w.heap.size w w' := by
  subst hB
  have hQ := A4_self B
  go_enter Tryd.func6, Tryd.ntmps6
  go_wp2_with (first
    | (go_at_call 9; refine (awake_any _ (hT.alloc _)).mono ?_; rintro x w1 ⟨rfl, hb1⟩; obtain ⟨hc1, hf1⟩ := bcell hb1; have hz1_0 : w.heap.size < w1.heap.size := lt_below hb1 (by first | with_reducible assumption | (simp; done) | (simp; omega)); have hl1_0 := Nat.le_of_lt hz1_0; have hA1 := bnext (w0 := w) (by (repeat (first | with_reducible assumption | with_reducible exact Below.refl _ _ | with_reducible refine Below.setCell ?_ (by first | omega | (dsimp only; omega) | (simp <;> omega)) _ | with_reducible refine Below.alloc ?_ (by first | omega | (simp <;> omega)) _ | with_reducible refine Below.drew ?_))) hb1; have hs1 := hA1.size; clear hb1)
    | (go_at_call 16; refine (c16 _ (hT.go (by (repeat (first | with_reducible assumption | with_reducible exact Below.refl _ _ | with_reducible refine Below.setCell ?_ (by first | omega | (dsimp only; omega) | (simp <;> omega)) _ | with_reducible refine Below.alloc ?_ (by first | omega | (simp <;> omega)) _ | with_reducible refine Below.drew ?_))))).mono ?_; rintro x w2 ⟨rfl, hb2⟩; obtain ⟨hc2, hf2⟩ := bcell hb2; have hz2_0 : w.heap.size < w2.heap.size := lt_below hb2 (by first | with_reducible assumption | (simp; done) | (simp; omega)); have hl2_0 := Nat.le_of_lt hz2_0; have hA2 := bnext (w0 := w) (by (repeat (first | with_reducible assumption | with_reducible exact Below.refl _ _ | with_reducible refine Below.setCell ?_ (by first | omega | (dsimp only; omega) | (simp <;> omega)) _ | with_reducible refine Below.alloc ?_ (by first | omega | (simp <;> omega)) _ | with_reducible refine Below.drew ?_))) hb2; have hs2 := hA2.size; clear hb2)
    | (go_at_call 17; refine (c17 _).mono ?_; rintro x w3 ⟨rfl, hb3⟩; obtain ⟨hc3, hf3⟩ := bcell hb3; have hz3_0 : w.heap.size < w3.heap.size := lt_below hb3 (by first | with_reducible assumption | (simp; done) | (simp; omega)); have hl3_0 := Nat.le_of_lt hz3_0; have hz3_1 : w2.heap.size < w3.heap.size := lt_below hb3 (by first | with_reducible assumption | (simp; done) | (simp; omega)); have hl3_1 := Nat.le_of_lt hz3_1; have hA3 := bnext (w0 := w) (by (repeat (first | with_reducible assumption | with_reducible exact Below.refl _ _ | with_reducible refine Below.setCell ?_ (by first | omega | (dsimp only; omega) | (simp <;> omega)) _ | with_reducible refine Below.alloc ?_ (by first | omega | (simp <;> omega)) _ | with_reducible refine Below.drew ?_))) hb3; have hs3 := hA3.size; clear hb3)
    | (have := hA4; go_at_call 10; refine (c10q _ (hT.go (by (repeat (first | with_reducible assumption | with_reducible exact Below.refl _ _ | with_reducible refine Below.setCell ?_ (by first | omega | (dsimp only; omega) | (simp <;> omega)) _ | with_reducible refine Below.alloc ?_ (by first | omega | (simp <;> omega)) _ | with_reducible refine Below.drew ?_))))).mono ?_; rintro x w5 ⟨rfl, hb5⟩; obtain ⟨hc5, hf5⟩ := bcell hb5; have hz5_0 : w.heap.size < w5.heap.size := lt_below hb5 (by first | with_reducible assumption | (simp; done) | (simp; omega)); have hl5_0 := Nat.le_of_lt hz5_0; have hz5_1 : w2.heap.size < w5.heap.size := lt_below hb5 (by first | with_reducible assumption | (simp; done) | (simp; omega)); have hl5_1 := Nat.le_of_lt hz5_1; have hz5_2 : w3.heap.size < w5.heap.size := lt_below hb5 (by first | with_reducible assumption | (simp; done) | (simp; omega)); have hl5_2 := Nat.le_of_lt hz5_2; have hz5_3 : w4.heap.size < w5.heap.size := lt_below hb5 (by first | with_reducible assumption | (simp; done) | (simp; omega)); have hl5_3 := Nat.le_of_lt hz5_3; have hA5 := bnext (w0 := w) (by (repeat (first | with_reducible assumption | with_reducible exact Below.refl _ _ | with_reducible refine Below.setCell ?_ (by first | omega | (dsimp only; omega) | (simp <;> omega)) _ | with_reducible refine Below.alloc ?_ (by first | omega | (simp <;> omega)) _ | with_reducible refine Below.drew ?_))) hb5; have hs5 := hA5.size; clear hb5)
    | (go_at_call 10; refine (c10 _ (hT.go (by (repeat (first | with_reducible assumption | with_reducible exact Below.refl _ _ | with_reducible refine Below.setCell ?_ (by first | omega | (dsimp only; omega) | (simp <;> omega)) _ | with_reducible refine Below.alloc ?_ (by first | omega | (simp <;> omega)) _ | with_reducible refine Below.drew ?_))))).mono ?_; rintro x w4 ⟨rfl, hb4⟩; obtain ⟨hc4, hf4⟩ := bcell hb4; have hz4_0 : w.heap.size < w4.heap.size := lt_below hb4 (by first | with_reducible assumption | (simp; done) | (simp; omega)); have hl4_0 := Nat.le_of_lt hz4_0; have hz4_1 : w2.heap.size < w4.heap.size := lt_below hb4 (by first | with_reducible assumption | (simp; done) | (simp; omega)); have hl4_1 := Nat.le_of_lt hz4_1; have hz4_2 : w3.heap.size < w4.heap.size := lt_below hb4 (by first | with_reducible assumption | (simp; done) | (simp; omega)); have hl4_2 := Nat.le_of_lt hz4_2; have hA4 := bnext (w0 := w) (by (repeat (first | with_reducible assumption | with_reducible exact Below.refl _ _ | with_reducible refine Below.setCell ?_ (by first | omega | (dsimp only; omega) | (simp <;> omega)) _ | with_reducible refine Below.alloc ?_ (by first | omega | (simp <;> omega)) _ | with_reducible refine Below.drew ?_))) hb4; have hs4 := hA4.size; clear hb4))
  go_ret
  exact ⟨rfl, by (repeat (first | with_reducible assumption | with_reducible exact Below.refl _ _ | with_reducible refine Below.setCell ?_ (by first | omega | (dsimp only; omega) | (simp <;> omega)) _ | with_reducible refine Below.alloc ?_ (by first | omega | (simp <;> omega)) _ | with_reducible refine Below.drew ?_))⟩
set_option maxHeartbeats 2000000 in
theorem quiets_q (hc : c = 3)
    (c16q : ∀ w, Tab w → Calls Tryd.prog 16 #[.int .i64 n, A4 Q] w fun r w' => r = .returned (.tuple #[A4 Q, .int .i64 0]) ∧ Below w.heap.size w w')
    : Calls Tryd.prog 6 #[.int .i64 n, A4 B] w fun x w' => x = .returned (.bool true) ∧ Below w.heap.size w w' := by
  subst hc
  have hQ := A4_self Q
  have hK := A4_self k
  go_enter Tryd.func6, Tryd.ntmps6
  go_wp2_with (first
    | (go_at_call 9; refine (awake_any _ (hT.alloc _)).mono ?_; rintro x w1 ⟨rfl, hb1⟩; obtain ⟨hc1, hf1⟩ := bcell hb1; have hz1_0 : w.heap.size < w1.heap.size := lt_below hb1 (by first | with_reducible assumption | (simp; done) | (simp; omega)); have hl1_0 := Nat.le_of_lt hz1_0; have hA1 := bnext (w0 := w) (by (repeat (first | with_reducible assumption | with_reducible exact Below.refl _ _ | with_reducible refine Below.setCell ?_ (by first | omega | (dsimp only; omega) | (simp <;> omega)) _ | with_reducible refine Below.alloc ?_ (by first | omega | (simp <;> omega)) _ | with_reducible refine Below.drew ?_))) hb1; have hs1 := hA1.size; clear hb1)
    | (have := hA5; go_at_call 16; refine (c16q _ (hT.go (by (repeat (first | with_reducible assumption | with_reducible exact Below.refl _ _ | with_reducible refine Below.setCell ?_ (by first | omega | (dsimp only; omega) | (simp <;> omega)) _ | with_reducible refine Below.alloc ?_ (by first | omega | (simp <;> omega)) _ | with_reducible refine Below.drew ?_))))).mono ?_; rintro x w6 ⟨rfl, hb6⟩; obtain ⟨hc6, hf6⟩ := bcell hb6; have hz6_0 : w.heap.size < w6.heap.size := lt_below hb6 (by first | with_reducible assumption | (simp; done) | (simp; omega)); have hl6_0 := Nat.le_of_lt hz6_0; have hz6_1 : w2.heap.size < w6.heap.size := lt_below hb6 (by first | with_reducible assumption | (simp; done) | (simp; omega)); have hl6_1 := Nat.le_of_lt hz6_1; have hz6_2 : w3.heap.size < w6.heap.size := lt_below hb6 (by first | with_reducible assumption | (simp; done) | (simp; omega)); have hl6_2 := Nat.le_of_lt hz6_2; have hz6_3 : w4.heap.size < w6.heap.size := lt_below hb6 (by first | with_reducible assumption | (simp; done) | (simp; omega)); have hl6_3 := Nat.le_of_lt hz6_3; have hz6_4 : w5.heap.size < w6.heap.size := lt_below hb6 (by first | with_reducible assumption | (simp; done) | (simp; omega)); have hl6_4 := Nat.le_of_lt hz6_4; have hA6 := bnext (w0 := w) (by (repeat (first | with_reducible assumption | with_reducible exact Below.refl _ _ | with_reducible refine Below.setCell ?_ (by first | omega | (dsimp only; omega) | (simp <;> omega)) _ | with_reducible refine Below.alloc ?_ (by first | omega | (simp <;> omega)) _ | with_reducible refine Below.drew ?_))) hb6; have hs6 := hA6.size; clear hb6)
    | (go_at_call 16; refine (c16 _ (hT.go (by (repeat (first | with_reducible assumption | with_reducible exact Below.refl _ _ | with_reducible refine Below.setCell ?_ (by first | omega | (dsimp only; omega) | (simp <;> omega)) _ | with_reducible refine Below.alloc ?_ (by first | omega | (simp <;> omega)) _ | with_reducible refine Below.drew ?_))))).mono ?_; rintro x w2 ⟨rfl, hb2⟩; obtain ⟨hc2, hf2⟩ := bcell hb2; have hz2_0 : w.heap.size < w2.heap.size := lt_below hb2 (by first | with_reducible assumption | (simp; done) | (simp; omega)); have hl2_0 := Nat.le_of_lt hz2_0; have hA2 := bnext (w0 := w) (by (repeat (first | with_reducible assumption | with_reducible exact Below.refl _ _ | with_reducible refine Below.setCell ?_ (by first | omega | (dsimp only; omega) | (simp <;> omega)) _ | with_reducible refine Below.alloc ?_ (by first | omega | (simp <;> omega)) _ | with_reducible refine Below.drew ?_))) hb2; have hs2 := hA2.size; clear hb2)
    | (go_at_call 17; refine (c17 _).mono ?_; rintro x w3 ⟨rfl, hb3⟩; obtain ⟨hc3, hf3⟩ := bcell hb3; have hz3_0 : w.heap.size < w3.heap.size := lt_below hb3 (by first | with_reducible assumption | (simp; done) | (simp; omega)); have hl3_0 := Nat.le_of_lt hz3_0; have hz3_1 : w2.heap.size < w3.heap.size := lt_below hb3 (by first | with_reducible assumption | (simp; done) | (simp; omega)); have hl3_1 := Nat.le_of_lt hz3_1; have hA3 := bnext (w0 := w) (by (repeat (first | with_reducible assumption | with_reducible exact Below.refl _ _ | with_reducible refine Below.setCell ?_ (by first | omega | (dsimp only; omega) | (simp <;> omega)) _ | with_reducible refine Below.alloc ?_ (by first | omega | (simp <;> omega)) _ | with_reducible refine Below.drew ?_))) hb3; have hs3 := hA3.size; clear hb3)
    | (have := hA4; go_at_call 10; refine (c10q _ (hT.go (by (repeat (first | with_reducible assumption | with_reducible exact Below.refl _ _ | with_reducible refine Below.setCell ?_ (by first | omega | (dsimp only; omega) | (simp <;> omega)) _ | with_reducible refine Below.alloc ?_ (by first | omega | (simp <;> omega)) _ | with_reducible refine Below.drew ?_))))).mono ?_; rintro x w5 ⟨rfl, hb5⟩; obtain ⟨hc5, hf5⟩ := bcell hb5; have hz5_0 : w.heap.size < w5.heap.size := lt_below hb5 (by first | with_reducible assumption | (simp; done) | (simp; omega)); have hl5_0 := Nat.le_of_lt hz5_0; have hz5_1 : w2.heap.size < w5.heap.size := lt_below hb5 (by first | with_reducible assumption | (simp; done) | (simp; omega)); have hl5_1 := Nat.le_of_lt hz5_1; have hz5_2 : w3.heap.size < w5.heap.size := lt_below hb5 (by first | with_reducible assumption | (simp; done) | (simp; omega)); have hl5_2 := Nat.le_of_lt hz5_2; have hz5_3 : w4.heap.size < w5.heap.size := lt_below hb5 (by first | with_reducible assumption | (simp; done) | (simp; omega)); have hl5_3 := Nat.le_of_lt hz5_3; have hA5 := bnext (w0 := w) (by (repeat (first | with_reducible assumption | with_reducible exact Below.refl _ _ | with_reducible refine Below.setCell ?_ (by first | omega | (dsimp only; omega) | (simp <;> omega)) _ | with_reducible refine Below.alloc ?_ (by first | omega | (simp <;> omega)) _ | with_reducible refine Below.drew ?_))) hb5; have hs5 := hA5.size; clear hb5)
    | (go_at_call 10; refine (c10 _ (hT.go (by (repeat (first | with_reducible assumption | with_reducible exact Below.refl _ _ | with_reducible refine Below.setCell ?_ (by first | omega | (dsimp only; omega) | (simp <;> omega)) _ | with_reducible refine Below.alloc ?_ (by first | omega | (simp <;> omega)) _ | with_reducible refine Below.drew ?_))))).mono ?_; rintro x w4 ⟨rfl, hb4⟩; obtain ⟨hc4, hf4⟩ := bcell hb4; have hz4_0 : w.heap.size < w4.heap.size := lt_below hb4 (by first | with_reducible assumption | (simp; done) | (simp; omega)); have hl4_0 := Nat.le_of_lt hz4_0; have hz4_1 : w2.heap.size < w4.heap.size := lt_below hb4 (by first | with_reducible assumption | (simp; done) | (simp; omega)); have hl4_1 := Nat.le_of_lt hz4_1; have hz4_2 : w3.heap.size < w4.heap.size := lt_below hb4 (by first | with_reducible assumption | (simp; done) | (simp; omega)); have hl4_2 := Nat.le_of_lt hz4_2; have hA4 := bnext (w0 := w) (by (repeat (first | with_reducible assumption | with_reducible exact Below.refl _ _ | with_reducible refine Below.setCell ?_ (by first | omega | (dsimp only; omega) | (simp <;> omega)) _ | with_reducible refine Below.alloc ?_ (by first | omega | (simp <;> omega)) _ | with_reducible refine Below.drew ?_))) hb4; have hs4 := hA4.size; clear hb4))
  go_ret
  exact ⟨by first | rfl | simp, by (repeat (first | with_reducible assumption | with_reducible exact Below.refl _ _ | with_reducible refine Below.setCell ?_ (by first | omega | (dsimp only; omega) | (simp <;> omega)) _ | with_reducible refine Below.alloc ?_ (by first | omega | (simp <;> omega)) _ | with_reducible refine Below.drew ?_))⟩
end
theorem binaryQuiets_any (n : Int) (B : Nat) (w : World) (hT : Tab w) (hB : B < 2 ^ 256) :
    Calls Tryd.prog 6 #[.int .i64 n, A4 B] w fun x w' => x = .returned (.bool true) ∧ Below w.heap.size w w' := by
  have c16 := fun w hT => qu_any n B w hT hB
  have c17 := fun w => rquiet_any n B w hB
  have c10 := fun w hT => unpack_any n B w hT hB
  by_cases hg : goodN n B
  · have hF := bin_fm hg.1
    obtain ⟨S, E, F, hS, hE, hFr, hBe⟩ := fields_in hg.2
    have hu : unD n B = mean (fN n) (eN n) (leastN n) S E F := by
      unfold unD; rw [if_pos hg, hBe, unp_mean _ hS hE hFr]
    obtain ⟨hi, hpk, _⟩ := mean_isD hF hS hE hFr
    rw [← hu] at hi hpk
    -- it may be packed without the signal, too
    have hih : isD (fN n) (leastN n) (mostN n) (hush (unD n B)) := by
      rcases hi with ⟨h1, h2, h3, h4, h5, h6⟩ | ⟨h1, h2, h3, h4⟩ | ⟨h1, h2, h3, h4⟩
      · exact Or.inl ⟨h1, rfl, h3, h4, h5, h6⟩
      · exact Or.inr (Or.inl ⟨h1, rfl, h3, h4⟩)
      · exact Or.inr (Or.inr ⟨h1, h2, h3, Or.inr rfl⟩)
    have hE0 : pkE n (hush (unD n B)) = 0 := by unfold pkE; rw [if_pos hg.1, if_pos hih]
    have eE : quE n B = 0 := by unfold quE; rw [if_pos hg, hE0]
    have eV : quV n B = pkV n (hush (unD n B)) := by unfold quV; rw [if_pos hg]
    obtain ⟨hgQ, huQ⟩ := back_pk hE0
    rw [← eV] at hgQ huQ
    rw [eE] at c16 c17
    rw [show unE n B = 0 from if_pos hg] at c10
    have c10q := fun w hT => unpack_any n (quV n B) w hT (good_256 hgQ)
    rw [huQ, show unE n (quV n B) = 0 from if_pos hgQ] at c10q
    by_cases hc : (unD n B).c = 3
    · have c16q := fun w hT => qu_any n (quV n B) w hT (good_256 hgQ)
      have e1 : quV n (quV n B) = quV n B := by
        have : quV n (quV n B) = pkV n (hush (unD n (quV n B))) := if_pos hgQ
        rw [this, huQ, eV]; rfl
      have e2 : quE n (quV n B) = 0 := by
        have : quE n (quV n B) = pkE n (hush (unD n (quV n B))) := if_pos hgQ
        rw [this, huQ]; exact hE0
      rw [e1, e2] at c16q
      exact quiets_q n B (quV n B) w hT _ _ _ _ _ c16 c17 c10 c10q hc c16q
    · have hsame : hush (unD n B) = unD n B := by
        rcases hi with ⟨h1, h2, _⟩ | ⟨h1, h2, _⟩ | ⟨h1, _⟩
        · unfold hush; rw [← h2]
        · unfold hush; rw [← h2]
        · exact absurd h1 hc
      have hQB : B = quV n B := by
        rw [eV, hsame]; exact (back_un hg).2.symm
      exact quiets_n n B (quV n B) w hT _ _ _ _ _ c16 c17 c10 c10q (by simpa using hc) hQB
  · have eE : quE n B = 1 := if_neg hg
    rw [eE] at c16 c17
    exact quiets_e n B _ w hT 1 (by decide) c16 c17
end Go.Proofs.YtemhpdhplbcgjaaDoor
