/-
  The law RoundTurns of layer 6, for every number, direction, fraction and power of two: with the other sign Up is Down, and the rest is the same, the flags too; of lists above 100 words only that it returns. No condition.
-/
import Derived.Test.YthcndcanahhbcaaDoorJ11
import Derived.Test.YthcndcanahhbcaaDoorJ12
import Derived.Test.YthcndcanahhbcaaDoorCards
import Derived.Test.YthcndcanahhbcaaDoorTie
import Derived.Test.YthcndcanahhbcaaDoorJ9
/-
  What the law RoundTurns does: it returns true.
-/
set_option linter.unusedVariables false
set_option linter.unusedSectionVars false
set_option linter.unusedSimpArgs false
set_option maxRecDepth 20000
namespace Go.Proofs.YthcndcanahhbcaaDoor
open Go.RowKit

theorem A4_self (B : Nat) (w : World) : Sem.run Tryd.prog (Op.equalIn 10000 27 (A4 B) (A4 B)) w = .ok true w := by
  have := eq24 (W4 B 0) (W4 B 1) (W4 B 2) (W4 B 3) (W4 B 0) (W4 B 1) (W4 B 2) (W4 B 3) w
  rw [decide_eq_true ⟨rfl, rfl, rfl, rfl⟩] at this
  exact this
theorem DV_self (c : Int) (s g : Bool) (x : Int) (k : Nat) (w : World) : Sem.run Tryd.prog (Op.equalIn 10000 35 (DV c s g x k) (DV c s g x k)) w = .ok true w := by
  have := eq27 c c s s g g x x (W4 k 0) (W4 k 1) (W4 k 2) (W4 k 3) (W4 k 0) (W4 k 1) (W4 k 2) (W4 k 3) w
  rw [decide_eq_true ⟨rfl, rfl, rfl, rfl, rfl, rfl, rfl, rfl⟩] at this
  exact this
theorem rnE_turn (n d : Int) (N D : Nat) : rnE n (othD d) N D = rnE n d N D := by
  unfold rnE
  simp only [kn_turn]
/-- a list of words, by its number -/
theorem nt_of {a : Option Addr} {k c : Nat} {z : Nat → Int} {w : World} (h : Num w a k c z) (hk : k ≤ 2001) : Nt 2001 (val z k).toNat (.slice a k c) w :=
  ⟨a, k, c, z, rfl, hk, h, by have := (val_bd h.2.2.1 k).1; omega⟩
attribute [local irreducible] W4 Nt
section
variable (n d x : Int) (a1 a2 : Option Addr) (k1 c1 k2 c2 : Nat) (w : World) (hT : Tab w) (hc1 : (c1 : Int) ≤ 9223372036854775807) (hc2 : (c2 : Int) ≤ 9223372036854775807) (hk1 : k1 ≤ c1) (hk2 : k2 ≤ c2)
include hT hc1 hc2 hk1 hk2
set_option maxHeartbeats 2000000 in
theorem turns_long (h : 100 < k1 ∨ 100 < k2) :
    Calls Tryd.prog 7 #[.int .i64 n, .int .i64 d, .slice a1 k1 c1, .slice a2 k2 c2, .int .i64 x] w fun r w' => r = .returned (.bool true) ∧ Below w.heap.size w w' := by
  have c9 := awake6
  have hB : Below w.heap.size w w := Below.refl _ _
  by_cases h1 : 100 < k1
  · have i1 : (100 : Int) < k1 := by omega
    go_enter Tryd.func7, Tryd.ntmps7
    go_wp2_with (first | (go_at_call 9; refine (c9 _ (hT.go hB)).mono ?_; rintro r w1 ⟨rfl, hb1⟩; replace hB := bnext hB hb1; clear hb1))
    go_ret
    exact ⟨rfl, hB⟩
  · have i1 : (k1 : Int) ≤ 100 := by omega
    have i2 : (100 : Int) < k2 := by omega
    go_enter Tryd.func7, Tryd.ntmps7
    go_wp2_with (first | (go_at_call 9; refine (c9 _ (hT.go hB)).mono ?_; rintro r w1 ⟨rfl, hb1⟩; replace hB := bnext hB hb1; clear hb1))
    go_ret
    exact ⟨rfl, hB⟩
variable (i1 : (k1 : Int) ≤ 100) (i2 : (k2 : Int) ≤ 100) (d' : Int) (hd' : d' = othD d) (V V' : Nat) (F : Int)
include i1 i2 hd'
set_option maxHeartbeats 2000000 in
theorem turns_e (E : Int) (hE : (E != 0) = true)
    (c11 : ∀ W, Below w.heap.size w W → Calls Tryd.prog 11 #[.int .i64 n, .int .i64 d, .bool false, .slice a1 k1 c1, .slice a2 k2 c2, .int .i64 x] W fun r w' => r = .returned (.tuple #[A4 V, .int .i64 F, .int .i64 E]) ∧ Below W.heap.size W w')
    (c11t : ∀ W, Below w.heap.size w W → Calls Tryd.prog 11 #[.int .i64 n, .int .i64 d', .bool true, .slice a1 k1 c1, .slice a2 k2 c2, .int .i64 x] W fun r w' => r = .returned (.tuple #[A4 V', .int .i64 F, .int .i64 E]) ∧ Below W.heap.size W w') :
    Calls Tryd.prog 7 #[.int .i64 n, .int .i64 d, .slice a1 k1 c1, .slice a2 k2 c2, .int .i64 x] w fun r w' => r = .returned (.bool true) ∧ Below w.heap.size w w' := by
  have c9 := awake6
  have key : ∀ (hd : d = 3 ∨ d = 4 ∨ (d ≠ 3 ∧ d ≠ 4)), Calls Tryd.prog 7 #[.int .i64 n, .int .i64 d, .slice a1 k1 c1, .slice a2 k2 c2, .int .i64 x] w fun r w' => r = .returned (.bool true) ∧ Below w.heap.size w w' := by
    intro hd
    unfold othD at hd'
    rcases hd with rfl | rfl | ⟨h3, h4⟩
    · rw [if_pos (Or.inl rfl)] at hd'
      have e : d' = 4 := hd'
      clear hd'
      subst e
      go_enter Tryd.func7, Tryd.ntmps7
      go_wp2_with (first | (go_at_call 9; refine (c9 _ (hT.go (by (repeat (first | with_reducible assumption | with_reducible exact Below.refl _ _ | with_reducible refine Below.setCell ?_ (by first | omega | (dsimp only; omega) | (simp <;> omega)) _ | with_reducible refine Below.alloc ?_ (by first | omega | (simp <;> omega)) _ | with_reducible refine Below.drew ?_))))).mono ?_; rintro x w1 ⟨rfl, hb1⟩; obtain ⟨hc1, hf1⟩ := bcell hb1; have hA1 := bnext (w0 := w) (by (repeat (first | with_reducible assumption | with_reducible exact Below.refl _ _ | with_reducible refine Below.setCell ?_ (by first | omega | (dsimp only; omega) | (simp <;> omega)) _ | with_reducible refine Below.alloc ?_ (by first | omega | (simp <;> omega)) _ | with_reducible refine Below.drew ?_))) hb1; have hs1 := hA1.size; clear hb1) | (go_at_call 11; refine (c11 _ (by (repeat (first | with_reducible assumption | with_reducible exact Below.refl _ _ | with_reducible refine Below.setCell ?_ (by first | omega | (dsimp only; omega) | (simp <;> omega)) _ | with_reducible refine Below.alloc ?_ (by first | omega | (simp <;> omega)) _ | with_reducible refine Below.drew ?_)))).mono ?_; rintro r w2 ⟨rfl, hb2⟩; clear c11; obtain ⟨hc2, hf2⟩ := bcell hb2; have hA2 := bnext (w0 := w) (by (repeat (first | with_reducible assumption | with_reducible exact Below.refl _ _ | with_reducible refine Below.setCell ?_ (by first | omega | (dsimp only; omega) | (simp <;> omega)) _ | with_reducible refine Below.alloc ?_ (by first | omega | (simp <;> omega)) _ | with_reducible refine Below.drew ?_))) hb2; have hs2 := hA2.size; clear hb2))
      go_wp2_with (first | (go_at_call 11; refine (c11t _ (by (repeat (first | with_reducible assumption | with_reducible exact Below.refl _ _ | with_reducible refine Below.setCell ?_ (by first | omega | (dsimp only; omega) | (simp <;> omega)) _ | with_reducible refine Below.alloc ?_ (by first | omega | (simp <;> omega)) _ | with_reducible refine Below.drew ?_)))).mono ?_; rintro x w3 ⟨rfl, hb3⟩; obtain ⟨hc3, hf3⟩ := bcell hb3; have hz3_0 : w2.heap.size < w3.heap.size := lt_below hb3 (by first | with_reducible assumption | (simp; done) | (simp; omega)); have hl3_0 := Nat.le_of_lt hz3_0; have hA3 := bnext (w0 := w) (by (repeat (first | with_reducible assumption | with_reducible exact Below.refl _ _ | with_reducible refine Below.setCell ?_ (by first | omega | (dsimp only; omega) | (simp <;> omega)) _ | with_reducible refine Below.alloc ?_ (by first | omega | (simp <;> omega)) _ | with_reducible refine Below.drew ?_))) hb3; have hs3 := hA3.size; clear hb3))
      go_ret
      exact ⟨rfl, by (repeat (first | with_reducible assumption | with_reducible exact Below.refl _ _ | with_reducible refine Below.setCell ?_ (by first | omega | (dsimp only; omega) | (simp <;> omega)) _ | with_reducible refine Below.alloc ?_ (by first | omega | (simp <;> omega)) _ | with_reducible refine Below.drew ?_))⟩
    · rw [if_pos (Or.inr rfl)] at hd'
      have e : d' = 3 := hd'
      clear hd'
      subst e
      go_enter Tryd.func7, Tryd.ntmps7
      go_wp2_with (first | (go_at_call 9; refine (c9 _ (hT.go (by (repeat (first | with_reducible assumption | with_reducible exact Below.refl _ _ | with_reducible refine Below.setCell ?_ (by first | omega | (dsimp only; omega) | (simp <;> omega)) _ | with_reducible refine Below.alloc ?_ (by first | omega | (simp <;> omega)) _ | with_reducible refine Below.drew ?_))))).mono ?_; rintro x w1 ⟨rfl, hb1⟩; obtain ⟨hc1, hf1⟩ := bcell hb1; have hA1 := bnext (w0 := w) (by (repeat (first | with_reducible assumption | with_reducible exact Below.refl _ _ | with_reducible refine Below.setCell ?_ (by first | omega | (dsimp only; omega) | (simp <;> omega)) _ | with_reducible refine Below.alloc ?_ (by first | omega | (simp <;> omega)) _ | with_reducible refine Below.drew ?_))) hb1; have hs1 := hA1.size; clear hb1) | (go_at_call 11; refine (c11 _ (by (repeat (first | with_reducible assumption | with_reducible exact Below.refl _ _ | with_reducible refine Below.setCell ?_ (by first | omega | (dsimp only; omega) | (simp <;> omega)) _ | with_reducible refine Below.alloc ?_ (by first | omega | (simp <;> omega)) _ | with_reducible refine Below.drew ?_)))).mono ?_; rintro r w2 ⟨rfl, hb2⟩; clear c11; obtain ⟨hc2, hf2⟩ := bcell hb2; have hA2 := bnext (w0 := w) (by (repeat (first | with_reducible assumption | with_reducible exact Below.refl _ _ | with_reducible refine Below.setCell ?_ (by first | omega | (dsimp only; omega) | (simp <;> omega)) _ | with_reducible refine Below.alloc ?_ (by first | omega | (simp <;> omega)) _ | with_reducible refine Below.drew ?_))) hb2; have hs2 := hA2.size; clear hb2))
      go_wp2_with (first | (go_at_call 11; refine (c11t _ (by (repeat (first | with_reducible assumption | with_reducible exact Below.refl _ _ | with_reducible refine Below.setCell ?_ (by first | omega | (dsimp only; omega) | (simp <;> omega)) _ | with_reducible refine Below.alloc ?_ (by first | omega | (simp <;> omega)) _ | with_reducible refine Below.drew ?_)))).mono ?_; rintro x w3 ⟨rfl, hb3⟩; obtain ⟨hc3, hf3⟩ := bcell hb3; have hz3_0 : w2.heap.size < w3.heap.size := lt_below hb3 (by first | with_reducible assumption | (simp; done) | (simp; omega)); have hl3_0 := Nat.le_of_lt hz3_0; have hA3 := bnext (w0 := w) (by (repeat (first | with_reducible assumption | with_reducible exact Below.refl _ _ | with_reducible refine Below.setCell ?_ (by first | omega | (dsimp only; omega) | (simp <;> omega)) _ | with_reducible refine Below.alloc ?_ (by first | omega | (simp <;> omega)) _ | with_reducible refine Below.drew ?_))) hb3; have hs3 := hA3.size; clear hb3))
      go_ret
      exact ⟨rfl, by (repeat (first | with_reducible assumption | with_reducible exact Below.refl _ _ | with_reducible refine Below.setCell ?_ (by first | omega | (dsimp only; omega) | (simp <;> omega)) _ | with_reducible refine Below.alloc ?_ (by first | omega | (simp <;> omega)) _ | with_reducible refine Below.drew ?_))⟩
    · rw [if_neg (by omega)] at hd'
      subst hd'
      have g3 : (d' == 3) = false := beq_eq_false_iff_ne.2 h3
      have g4 : (d' == 4) = false := beq_eq_false_iff_ne.2 h4
      go_enter Tryd.func7, Tryd.ntmps7
      go_wp2_with (first | (go_at_call 9; refine (c9 _ (hT.go (by (repeat (first | with_reducible assumption | with_reducible exact Below.refl _ _ | with_reducible refine Below.setCell ?_ (by first | omega | (dsimp only; omega) | (simp <;> omega)) _ | with_reducible refine Below.alloc ?_ (by first | omega | (simp <;> omega)) _ | with_reducible refine Below.drew ?_))))).mono ?_; rintro x w1 ⟨rfl, hb1⟩; obtain ⟨hc1, hf1⟩ := bcell hb1; have hA1 := bnext (w0 := w) (by (repeat (first | with_reducible assumption | with_reducible exact Below.refl _ _ | with_reducible refine Below.setCell ?_ (by first | omega | (dsimp only; omega) | (simp <;> omega)) _ | with_reducible refine Below.alloc ?_ (by first | omega | (simp <;> omega)) _ | with_reducible refine Below.drew ?_))) hb1; have hs1 := hA1.size; clear hb1) | (go_at_call 11; refine (c11 _ (by (repeat (first | with_reducible assumption | with_reducible exact Below.refl _ _ | with_reducible refine Below.setCell ?_ (by first | omega | (dsimp only; omega) | (simp <;> omega)) _ | with_reducible refine Below.alloc ?_ (by first | omega | (simp <;> omega)) _ | with_reducible refine Below.drew ?_)))).mono ?_; rintro r w2 ⟨rfl, hb2⟩; clear c11; obtain ⟨hc2, hf2⟩ := bcell hb2; have hA2 := bnext (w0 := w) (by (repeat (first | with_reducible assumption | with_reducible exact Below.refl _ _ | with_reducible refine Below.setCell ?_ (by first | omega | (dsimp only; omega) | (simp <;> omega)) _ | with_reducible refine Below.alloc ?_ (by first | omega | (simp <;> omega)) _ | with_reducible refine Below.drew ?_))) hb2; have hs2 := hA2.size; clear hb2))
      go_wp2_with (first | (go_at_call 11; refine (c11t _ (by (repeat (first | with_reducible assumption | with_reducible exact Below.refl _ _ | with_reducible refine Below.setCell ?_ (by first | omega | (dsimp only; omega) | (simp <;> omega)) _ | with_reducible refine Below.alloc ?_ (by first | omega | (simp <;> omega)) _ | with_reducible refine Below.drew ?_)))).mono ?_; rintro x w3 ⟨rfl, hb3⟩; obtain ⟨hc3, hf3⟩ := bcell hb3; have hz3_0 : w2.heap.size < w3.heap.size := lt_below hb3 (by first | with_reducible assumption | (simp; done) | (simp; omega)); have hl3_0 := Nat.le_of_lt hz3_0; have hA3 := bnext (w0 := w) (by (repeat (first | with_reducible assumption | with_reducible exact Below.refl _ _ | with_reducible refine Below.setCell ?_ (by first | omega | (dsimp only; omega) | (simp <;> omega)) _ | with_reducible refine Below.alloc ?_ (by first | omega | (simp <;> omega)) _ | with_reducible refine Below.drew ?_))) hb3; have hs3 := hA3.size; clear hb3))
      go_ret
      exact ⟨rfl, by (repeat (first | with_reducible assumption | with_reducible exact Below.refl _ _ | with_reducible refine Below.setCell ?_ (by first | omega | (dsimp only; omega) | (simp <;> omega)) _ | with_reducible refine Below.alloc ?_ (by first | omega | (simp <;> omega)) _ | with_reducible refine Below.drew ?_))⟩
  exact key (by omega)
set_option maxHeartbeats 4000000 in
theorem turns_k (Dc Dx : Int) (Dg : Bool) (Dk : Nat)
    (c11 : ∀ W, Below w.heap.size w W → Calls Tryd.prog 11 #[.int .i64 n, .int .i64 d, .bool false, .slice a1 k1 c1, .slice a2 k2 c2, .int .i64 x] W fun r w' => r = .returned (.tuple #[A4 V, .int .i64 F, .int .i64 0]) ∧ Below W.heap.size W w')
    (c11t : ∀ W, Below w.heap.size w W → Calls Tryd.prog 11 #[.int .i64 n, .int .i64 d', .bool true, .slice a1 k1 c1, .slice a2 k2 c2, .int .i64 x] W fun r w' => r = .returned (.tuple #[A4 V', .int .i64 F, .int .i64 0]) ∧ Below W.heap.size W w')
    (c23 : ∀ W, Calls Tryd.prog 23 #[.int .i64 n, A4 V] W fun r w' => r = .returned (.tuple #[DV Dc false Dg Dx Dk, .int .i64 0]) ∧ Below W.heap.size W w')
    (c23t : ∀ W, Calls Tryd.prog 23 #[.int .i64 n, A4 V'] W fun r w' => r = .returned (.tuple #[DV Dc true Dg Dx Dk, .int .i64 0]) ∧ Below W.heap.size W w') :
    Calls Tryd.prog 7 #[.int .i64 n, .int .i64 d, .slice a1 k1 c1, .slice a2 k2 c2, .int .i64 x] w fun r w' => r = .returned (.bool true) ∧ Below w.heap.size w w' := by
  have c9 := awake6
  have h35 := DV_self Dc false Dg Dx Dk
  have hsm := cell_set_map
  have key : ∀ (hd : d = 3 ∨ d = 4 ∨ (d ≠ 3 ∧ d ≠ 4)), Calls Tryd.prog 7 #[.int .i64 n, .int .i64 d, .slice a1 k1 c1, .slice a2 k2 c2, .int .i64 x] w fun r w' => r = .returned (.bool true) ∧ Below w.heap.size w w' := by
    intro hd
    unfold othD at hd'
    rcases hd with rfl | rfl | ⟨h3, h4⟩
    · rw [if_pos (Or.inl rfl)] at hd'
      have e : d' = 4 := hd'
      clear hd'
      subst e
      go_enter Tryd.func7, Tryd.ntmps7
      go_wp2_with (first | (go_at_call 9; refine (c9 _ (hT.go (by (repeat (first | with_reducible assumption | with_reducible exact Below.refl _ _ | with_reducible refine Below.setCell ?_ (by first | omega | (dsimp only; omega) | (simp <;> omega)) _ | with_reducible refine Below.alloc ?_ (by first | omega | (simp <;> omega)) _ | with_reducible refine Below.drew ?_))))).mono ?_; rintro x w1 ⟨rfl, hb1⟩; obtain ⟨hc1, hf1⟩ := bcell hb1; have hA1 := bnext (w0 := w) (by (repeat (first | with_reducible assumption | with_reducible exact Below.refl _ _ | with_reducible refine Below.setCell ?_ (by first | omega | (dsimp only; omega) | (simp <;> omega)) _ | with_reducible refine Below.alloc ?_ (by first | omega | (simp <;> omega)) _ | with_reducible refine Below.drew ?_))) hb1; have hs1 := hA1.size; clear hb1) | (go_at_call 11; refine (c11 _ (by (repeat (first | with_reducible assumption | with_reducible exact Below.refl _ _ | with_reducible refine Below.setCell ?_ (by first | omega | (dsimp only; omega) | (simp <;> omega)) _ | with_reducible refine Below.alloc ?_ (by first | omega | (simp <;> omega)) _ | with_reducible refine Below.drew ?_)))).mono ?_; rintro r w2 ⟨rfl, hb2⟩; clear c11; obtain ⟨hc2, hf2⟩ := bcell hb2; have hA2 := bnext (w0 := w) (by (repeat (first | with_reducible assumption | with_reducible exact Below.refl _ _ | with_reducible refine Below.setCell ?_ (by first | omega | (dsimp only; omega) | (simp <;> omega)) _ | with_reducible refine Below.alloc ?_ (by first | omega | (simp <;> omega)) _ | with_reducible refine Below.drew ?_))) hb2; have hs2 := hA2.size; clear hb2))
      go_wp2_with (first | (go_at_call 11; refine (c11t _ (by (repeat (first | with_reducible assumption | with_reducible exact Below.refl _ _ | with_reducible refine Below.setCell ?_ (by first | omega | (dsimp only; omega) | (simp <;> omega)) _ | with_reducible refine Below.alloc ?_ (by first | omega | (simp <;> omega)) _ | with_reducible refine Below.drew ?_)))).mono ?_; rintro x w3 ⟨rfl, hb3⟩; obtain ⟨hc3, hf3⟩ := bcell hb3; have hz3_0 : w2.heap.size < w3.heap.size := lt_below hb3 (by first | with_reducible assumption | (simp; done) | (simp; omega)); have hl3_0 := Nat.le_of_lt hz3_0; have hA3 := bnext (w0 := w) (by (repeat (first | with_reducible assumption | with_reducible exact Below.refl _ _ | with_reducible refine Below.setCell ?_ (by first | omega | (dsimp only; omega) | (simp <;> omega)) _ | with_reducible refine Below.alloc ?_ (by first | omega | (simp <;> omega)) _ | with_reducible refine Below.drew ?_))) hb3; have hs3 := hA3.size; clear hb3) | (go_at_call 23; refine (c23 _).mono ?_; rintro r w4 ⟨rfl, hb4⟩; clear c23; obtain ⟨hc4, hf4⟩ := bcell hb4; have hz4_0 : w2.heap.size < w4.heap.size := lt_below hb4 (by first | with_reducible assumption | (simp; done) | (simp; omega)); have hl4_0 := Nat.le_of_lt hz4_0; have hz4_1 : w3.heap.size < w4.heap.size := lt_below hb4 (by first | with_reducible assumption | (simp; done) | (simp; omega)); have hl4_1 := Nat.le_of_lt hz4_1; have hA4 := bnext (w0 := w) (by (repeat (first | with_reducible assumption | with_reducible exact Below.refl _ _ | with_reducible refine Below.setCell ?_ (by first | omega | (dsimp only; omega) | (simp <;> omega)) _ | with_reducible refine Below.alloc ?_ (by first | omega | (simp <;> omega)) _ | with_reducible refine Below.drew ?_))) hb4; have hs4 := hA4.size; clear hb4))
      go_wp2_with (first | (go_at_call 23; refine (c23t _).mono ?_; rintro x w5 ⟨rfl, hb5⟩; obtain ⟨hc5, hf5⟩ := bcell hb5; have hz5_0 : w2.heap.size < w5.heap.size := lt_below hb5 (by first | with_reducible assumption | (simp; done) | (simp; omega)); have hl5_0 := Nat.le_of_lt hz5_0; have hz5_1 : w3.heap.size < w5.heap.size := lt_below hb5 (by first | with_reducible assumption | (simp; done) | (simp; omega)); have hl5_1 := Nat.le_of_lt hz5_1; have hz5_2 : w4.heap.size < w5.heap.size := lt_below hb5 (by first | with_reducible assumption | (simp; done) | (simp; omega)); have hl5_2 := Nat.le_of_lt hz5_2; have hA5 := bnext (w0 := w) (by (repeat (first | with_reducible assumption | with_reducible exact Below.refl _ _ | with_reducible refine Below.setCell ?_ (by first | omega | (dsimp only; omega) | (simp <;> omega)) _ | with_reducible refine Below.alloc ?_ (by first | omega | (simp <;> omega)) _ | with_reducible refine Below.drew ?_))) hb5; have hs5 := hA5.size; clear hb5))
      go_ret
      exact ⟨rfl, by (repeat (first | with_reducible assumption | with_reducible exact Below.refl _ _ | with_reducible refine Below.setCell ?_ (by first | omega | (dsimp only; omega) | (simp <;> omega)) _ | with_reducible refine Below.alloc ?_ (by first | omega | (simp <;> omega)) _ | with_reducible refine Below.drew ?_))⟩
    · rw [if_pos (Or.inr rfl)] at hd'
      have e : d' = 3 := hd'
      clear hd'
      subst e
      go_enter Tryd.func7, Tryd.ntmps7
      go_wp2_with (first | (go_at_call 9; refine (c9 _ (hT.go (by (repeat (first | with_reducible assumption | with_reducible exact Below.refl _ _ | with_reducible refine Below.setCell ?_ (by first | omega | (dsimp only; omega) | (simp <;> omega)) _ | with_reducible refine Below.alloc ?_ (by first | omega | (simp <;> omega)) _ | with_reducible refine Below.drew ?_))))).mono ?_; rintro x w1 ⟨rfl, hb1⟩; obtain ⟨hc1, hf1⟩ := bcell hb1; have hA1 := bnext (w0 := w) (by (repeat (first | with_reducible assumption | with_reducible exact Below.refl _ _ | with_reducible refine Below.setCell ?_ (by first | omega | (dsimp only; omega) | (simp <;> omega)) _ | with_reducible refine Below.alloc ?_ (by first | omega | (simp <;> omega)) _ | with_reducible refine Below.drew ?_))) hb1; have hs1 := hA1.size; clear hb1) | (go_at_call 11; refine (c11 _ (by (repeat (first | with_reducible assumption | with_reducible exact Below.refl _ _ | with_reducible refine Below.setCell ?_ (by first | omega | (dsimp only; omega) | (simp <;> omega)) _ | with_reducible refine Below.alloc ?_ (by first | omega | (simp <;> omega)) _ | with_reducible refine Below.drew ?_)))).mono ?_; rintro r w2 ⟨rfl, hb2⟩; clear c11; obtain ⟨hc2, hf2⟩ := bcell hb2; have hA2 := bnext (w0 := w) (by (repeat (first | with_reducible assumption | with_reducible exact Below.refl _ _ | with_reducible refine Below.setCell ?_ (by first | omega | (dsimp only; omega) | (simp <;> omega)) _ | with_reducible refine Below.alloc ?_ (by first | omega | (simp <;> omega)) _ | with_reducible refine Below.drew ?_))) hb2; have hs2 := hA2.size; clear hb2))
      go_wp2_with (first | (go_at_call 11; refine (c11t _ (by (repeat (first | with_reducible assumption | with_reducible exact Below.refl _ _ | with_reducible refine Below.setCell ?_ (by first | omega | (dsimp only; omega) | (simp <;> omega)) _ | with_reducible refine Below.alloc ?_ (by first | omega | (simp <;> omega)) _ | with_reducible refine Below.drew ?_)))).mono ?_; rintro x w3 ⟨rfl, hb3⟩; obtain ⟨hc3, hf3⟩ := bcell hb3; have hz3_0 : w2.heap.size < w3.heap.size := lt_below hb3 (by first | with_reducible assumption | (simp; done) | (simp; omega)); have hl3_0 := Nat.le_of_lt hz3_0; have hA3 := bnext (w0 := w) (by (repeat (first | with_reducible assumption | with_reducible exact Below.refl _ _ | with_reducible refine Below.setCell ?_ (by first | omega | (dsimp only; omega) | (simp <;> omega)) _ | with_reducible refine Below.alloc ?_ (by first | omega | (simp <;> omega)) _ | with_reducible refine Below.drew ?_))) hb3; have hs3 := hA3.size; clear hb3) | (go_at_call 23; refine (c23 _).mono ?_; rintro r w4 ⟨rfl, hb4⟩; clear c23; obtain ⟨hc4, hf4⟩ := bcell hb4; have hz4_0 : w2.heap.size < w4.heap.size := lt_below hb4 (by first | with_reducible assumption | (simp; done) | (simp; omega)); have hl4_0 := Nat.le_of_lt hz4_0; have hz4_1 : w3.heap.size < w4.heap.size := lt_below hb4 (by first | with_reducible assumption | (simp; done) | (simp; omega)); have hl4_1 := Nat.le_of_lt hz4_1; have hA4 := bnext (w0 := w) (by (repeat (first | with_reducible assumption | with_reducible exact Below.refl _ _ | with_reducible refine Below.setCell ?_ (by first | omega | (dsimp only; omega) | (simp <;> omega)) _ | with_reducible refine Below.alloc ?_ (by first | omega | (simp <;> omega)) _ | with_reducible refine Below.drew ?_))) hb4; have hs4 := hA4.size; clear hb4))
      go_wp2_with (first | (go_at_call 23; refine (c23t _).mono ?_; rintro x w5 ⟨rfl, hb5⟩; obtain ⟨hc5, hf5⟩ := bcell hb5; have hz5_0 : w2.heap.size < w5.heap.size := lt_below hb5 (by first | with_reducible assumption | (simp; done) | (simp; omega)); have hl5_0 := Nat.le_of_lt hz5_0; have hz5_1 : w3.heap.size < w5.heap.size := lt_below hb5 (by first | with_reducible assumption | (simp; done) | (simp; omega)); have hl5_1 := Nat.le_of_lt hz5_1; have hz5_2 : w4.heap.size < w5.heap.size := lt_below hb5 (by first | with_reducible assumption | (simp; done) | (simp; omega)); have hl5_2 := Nat.le_of_lt hz5_2; have hA5 := bnext (w0 := w) (by (repeat (first | with_reducible assumption | with_reducible exact Below.refl _ _ | with_reducible refine Below.setCell ?_ (by first | omega | (dsimp only; omega) | (simp <;> omega)) _ | with_reducible refine Below.alloc ?_ (by first | omega | (simp <;> omega)) _ | with_reducible refine Below.drew ?_))) hb5; have hs5 := hA5.size; clear hb5))
      go_ret
      exact ⟨rfl, by (repeat (first | with_reducible assumption | with_reducible exact Below.refl _ _ | with_reducible refine Below.setCell ?_ (by first | omega | (dsimp only; omega) | (simp <;> omega)) _ | with_reducible refine Below.alloc ?_ (by first | omega | (simp <;> omega)) _ | with_reducible refine Below.drew ?_))⟩
    · rw [if_neg (by omega)] at hd'
      subst hd'
      have g3 : (d' == 3) = false := beq_eq_false_iff_ne.2 h3
      have g4 : (d' == 4) = false := beq_eq_false_iff_ne.2 h4
      go_enter Tryd.func7, Tryd.ntmps7
      go_wp2_with (first | (go_at_call 9; refine (c9 _ (hT.go (by (repeat (first | with_reducible assumption | with_reducible exact Below.refl _ _ | with_reducible refine Below.setCell ?_ (by first | omega | (dsimp only; omega) | (simp <;> omega)) _ | with_reducible refine Below.alloc ?_ (by first | omega | (simp <;> omega)) _ | with_reducible refine Below.drew ?_))))).mono ?_; rintro x w1 ⟨rfl, hb1⟩; obtain ⟨hc1, hf1⟩ := bcell hb1; have hA1 := bnext (w0 := w) (by (repeat (first | with_reducible assumption | with_reducible exact Below.refl _ _ | with_reducible refine Below.setCell ?_ (by first | omega | (dsimp only; omega) | (simp <;> omega)) _ | with_reducible refine Below.alloc ?_ (by first | omega | (simp <;> omega)) _ | with_reducible refine Below.drew ?_))) hb1; have hs1 := hA1.size; clear hb1) | (go_at_call 11; refine (c11 _ (by (repeat (first | with_reducible assumption | with_reducible exact Below.refl _ _ | with_reducible refine Below.setCell ?_ (by first | omega | (dsimp only; omega) | (simp <;> omega)) _ | with_reducible refine Below.alloc ?_ (by first | omega | (simp <;> omega)) _ | with_reducible refine Below.drew ?_)))).mono ?_; rintro r w2 ⟨rfl, hb2⟩; clear c11; obtain ⟨hc2, hf2⟩ := bcell hb2; have hA2 := bnext (w0 := w) (by (repeat (first | with_reducible assumption | with_reducible exact Below.refl _ _ | with_reducible refine Below.setCell ?_ (by first | omega | (dsimp only; omega) | (simp <;> omega)) _ | with_reducible refine Below.alloc ?_ (by first | omega | (simp <;> omega)) _ | with_reducible refine Below.drew ?_))) hb2; have hs2 := hA2.size; clear hb2))
      go_wp2_with (first | (go_at_call 11; refine (c11t _ (by (repeat (first | with_reducible assumption | with_reducible exact Below.refl _ _ | with_reducible refine Below.setCell ?_ (by first | omega | (dsimp only; omega) | (simp <;> omega)) _ | with_reducible refine Below.alloc ?_ (by first | omega | (simp <;> omega)) _ | with_reducible refine Below.drew ?_)))).mono ?_; rintro x w3 ⟨rfl, hb3⟩; obtain ⟨hc3, hf3⟩ := bcell hb3; have hz3_0 : w2.heap.size < w3.heap.size := lt_below hb3 (by first | with_reducible assumption | (simp; done) | (simp; omega)); have hl3_0 := Nat.le_of_lt hz3_0; have hA3 := bnext (w0 := w) (by (repeat (first | with_reducible assumption | with_reducible exact Below.refl _ _ | with_reducible refine Below.setCell ?_ (by first | omega | (dsimp only; omega) | (simp <;> omega)) _ | with_reducible refine Below.alloc ?_ (by first | omega | (simp <;> omega)) _ | with_reducible refine Below.drew ?_))) hb3; have hs3 := hA3.size; clear hb3) | (go_at_call 23; refine (c23 _).mono ?_; rintro r w4 ⟨rfl, hb4⟩; clear c23; obtain ⟨hc4, hf4⟩ := bcell hb4; have hz4_0 : w2.heap.size < w4.heap.size := lt_below hb4 (by first | with_reducible assumption | (simp; done) | (simp; omega)); have hl4_0 := Nat.le_of_lt hz4_0; have hz4_1 : w3.heap.size < w4.heap.size := lt_below hb4 (by first | with_reducible assumption | (simp; done) | (simp; omega)); have hl4_1 := Nat.le_of_lt hz4_1; have hA4 := bnext (w0 := w) (by (repeat (first | with_reducible assumption | with_reducible exact Below.refl _ _ | with_reducible refine Below.setCell ?_ (by first | omega | (dsimp only; omega) | (simp <;> omega)) _ | with_reducible refine Below.alloc ?_ (by first | omega | (simp <;> omega)) _ | with_reducible refine Below.drew ?_))) hb4; have hs4 := hA4.size; clear hb4))
      go_wp2_with (first | (go_at_call 23; refine (c23t _).mono ?_; rintro x w5 ⟨rfl, hb5⟩; obtain ⟨hc5, hf5⟩ := bcell hb5; have hz5_0 : w2.heap.size < w5.heap.size := lt_below hb5 (by first | with_reducible assumption | (simp; done) | (simp; omega)); have hl5_0 := Nat.le_of_lt hz5_0; have hz5_1 : w3.heap.size < w5.heap.size := lt_below hb5 (by first | with_reducible assumption | (simp; done) | (simp; omega)); have hl5_1 := Nat.le_of_lt hz5_1; have hz5_2 : w4.heap.size < w5.heap.size := lt_below hb5 (by first | with_reducible assumption | (simp; done) | (simp; omega)); have hl5_2 := Nat.le_of_lt hz5_2; have hA5 := bnext (w0 := w) (by (repeat (first | with_reducible assumption | with_reducible exact Below.refl _ _ | with_reducible refine Below.setCell ?_ (by first | omega | (dsimp only; omega) | (simp <;> omega)) _ | with_reducible refine Below.alloc ?_ (by first | omega | (simp <;> omega)) _ | with_reducible refine Below.drew ?_))) hb5; have hs5 := hA5.size; clear hb5))
      go_ret
      exact ⟨rfl, by (repeat (first | with_reducible assumption | with_reducible exact Below.refl _ _ | with_reducible refine Below.setCell ?_ (by first | omega | (dsimp only; omega) | (simp <;> omega)) _ | with_reducible refine Below.alloc ?_ (by first | omega | (simp <;> omega)) _ | with_reducible refine Below.drew ?_))⟩
  exact key (by omega)
end
theorem roundTurns_any (n d : Int) (a1 : Option Addr) (k1 c1 : Nat) (z1 : Nat → Int) (a2 : Option Addr) (k2 c2 : Nat) (z2 : Nat → Int) (x : Int) (w : World) (hT : Tab w) (h1 : Num w a1 k1 c1 z1) (h2 : Num w a2 k2 c2 z2) :
    Calls Tryd.prog 7 #[.int .i64 n, .int .i64 d, .slice a1 k1 c1, .slice a2 k2 c2, .int .i64 x] w fun r w' => r = .returned (.bool true) ∧ Below w.heap.size w w' := by
  have m1 := h1.2.1
  have m2 := h2.2.1
  unfold maxLen at m1 m2
  by_cases hl : 100 < k1 ∨ 100 < k2
  · exact turns_long n d x a1 a2 k1 c1 k2 c2 w hT (by omega) (by omega) h1.1 h2.1 hl
  · have t1 := nt_of h1 (by omega)
    have t2 := nt_of h2 (by omega)
    generalize (val z1 k1).toNat = N at *
    generalize (val z2 k2).toNat = D at *
    have c11 := fun W (hW : Below w.heap.size w W) => rnd_any n d x false (hT.go hW) (t1.next hW) (t2.next hW)
    have c11t := fun W (hW : Below w.heap.size w W) => rnd_any n (othD d) x true (hT.go hW) (t1.next hW) (t2.next hW)
    rw [rnE_turn] at c11t
    by_cases h0 : rnE n d N D = 0
    · obtain ⟨hb, hk, hD, _, _⟩ := rn_zero h0
      have h0' : rnE n (othD d) N D = 0 := by rw [rnE_turn]; exact h0
      obtain ⟨e1, e2, e3⟩ := rd_turn d N x hb hD
      obtain ⟨g1, g2, Dc, Dg, Dx, Dk, u1, u2⟩ := un_turn hb e3
      rw [← e1] at g2 u2
      unfold rnV rnF at c11 c11t
      rw [h0'] at c11t
      rw [if_pos rfl, if_pos rfl] at c11t
      rw [h0] at c11 c11t
      rw [if_pos rfl, if_pos rfl] at c11
      rw [e2] at c11t
      have c23 := fun W => runpack_any n (rdV n d false N D x) W (good_256 g1)
      have c23t := fun W => runpack_any n (rdV n (othD d) true N D x) W (good_256 g2)
      rw [u1, show unE n (rdV n d false N D x) = 0 from if_pos g1] at c23
      rw [u2, show unE n (rdV n (othD d) true N D x) = 0 from if_pos g2] at c23t
      exact turns_k n d x a1 a2 k1 c1 k2 c2 w hT (by omega) (by omega) h1.1 h2.1 (by omega) (by omega) _ rfl _ _ _ Dc Dx Dg Dk c11 c11t c23 c23t
    · unfold rnV rnF at c11 c11t
      rw [rnE_turn] at c11t
      rw [if_neg h0, if_neg h0] at c11 c11t
      exact turns_e n d x a1 a2 k1 c1 k2 c2 w hT (by omega) (by omega) h1.1 h2.1 (by omega) (by omega) _ rfl 0 0 0 _ (by simpa using h0) c11 c11t
end Go.Proofs.YthcndcanahhbcaaDoor

/-
  The law RoundTurns of layer 6, for every number, direction, fraction and power of two: with the other sign Up is Down, and the rest is the same, the flags too; of lists above 100 words only that it returns. No condition.
-/
set_option linter.unusedVariables false
set_option linter.unusedSimpArgs false
namespace Go.Proofs.YthcndcanahhbcaaDoor
open Go.ChangeShapes Go.WideShapes Go.ChangeAt Go.RowKit

set_option maxRecDepth 100000 in
theorem roundTurns_contract (H : Type) (enc : TypeId × Value → H) (W : World) (hT : Tab W) (base : Nat) (args : Array Value) (ds gs : List (DataW H)) (before : List MemPlace)
    (hval : ∀ (j : Nat) t v, Tryd.f7.params[j]? = some t → args[j]? = some v → Value.okWide Tryd.prog W .any base t v)
    (hW : DataW.Whole enc Tryd.prog Tryd.f7.params.toList Rows.roundTurnsSpec.vars false W args.toList ds gs before) :
    Calls Tryd.prog 7 args W fun e W' => ∃ v, e = .returned v ∧ Rows.roundTurnsSpec.post enc Tryd.prog Tryd.f7 false true false false W args v W' := by
  have hW' := hW
  have hlt := hW.lt
  obtain ⟨p, q, hA0, hV, rfl, hfz, hnd⟩ := hW
  have hA : DataW.TrodAll enc Tryd.prog W 0 (fun _ => true) true Tryd.f7.params.toList args.toList ds p := hA0
  rw [Tryd.params7] at hA hval
  obtain ⟨v0, vs0, d0, ds0, p0, q0, hargs0, rfl, rfl, h0, r0⟩ := trodAll_cons hA
  obtain ⟨v1, vs1, d1, ds1, p1, q1, rfl, rfl, rfl, h1, r1⟩ := trodAll_cons r0
  obtain ⟨v2, vs2, d2, ds2, p2, q2, rfl, rfl, rfl, h2, r2⟩ := trodAll_cons r1
  obtain ⟨v3, vs3, d3, ds3, p3, q3, rfl, rfl, rfl, h3, r3⟩ := trodAll_cons r2
  obtain ⟨v4, vs4, d4, ds4, p4, q4, rfl, rfl, rfl, h4, r4⟩ := trodAll_cons r3
  obtain ⟨rfl, rfl, rfl⟩ := trodAll_nil r4
  obtain rfl : args = #[v0, v1, v2, v3, v4] := by cases args; simp_all
  obtain ⟨rfl, rfl⟩ := trodVars_none hV
  obtain ⟨z0, rfl, rfl, rfl, w0⟩ := open_int Tryd.underlying3 (hval 0 3 v0 rfl rfl) h0
  obtain ⟨z1, rfl, rfl, rfl, w1⟩ := open_int Tryd.underlying3 (hval 1 3 v1 rfl rfl) h1
  have t2 := h2
  obtain ⟨a2, n2, c2, x2, rfl, hN2⟩ := open_nat (hval 2 22 v2 rfl rfl) h2
  have t3 := h3
  obtain ⟨a3, n3, c3, x3, rfl, hN3⟩ := open_nat (hval 3 22 v3 rfl rfl) h3
  obtain ⟨z4, rfl, rfl, rfl, w4⟩ := open_int Tryd.underlying3 (hval 4 3 v4 rfl rfl) h4
  clear hA0
  simp only [List.append_nil] at hW' hlt
  refine (roundTurns_any z0 z1 a2 n2 c2 x2 a3 n3 c3 x3 z4 W hT hN2 hN3).mono fun e W' ⟨he, hb⟩ => ?_
  subst he
  exact ⟨_, rfl, _, _, _, [], _, [], hW', trodAll_cons_mk (shut_bool Tryd.underlying4 _) trodAll_mk0, (trodAll_cons_mk (shut_int Tryd.underlying3 w0) (trodAll_cons_mk (shut_int Tryd.underlying3 w1) (trodAll_cons_mk (Below.trod Tryd.laidOut Tryd.rec22 Tryd.row22 t2 hb (fun x hx => hlt x (by simp [hx]))) (trodAll_cons_mk (Below.trod Tryd.laidOut Tryd.rec22 Tryd.row22 t3 hb (fun x hx => hlt x (by simp [hx]))) (trodAll_cons_mk (shut_int Tryd.underlying3 w4) trodAll_mk0))))), rfl, hb.frame _, fun h => by cases h⟩

theorem roundTurns_laid (os : Os) : laidMet Tryd.prog Rows.roundTurnsRow.laid ((laidWorld os).forCall (fun _ _ => 0) ⟨#[], #[.int .i64 0, .int .i64 0, .slice none 0 0, .slice none 0 0, .int .i64 0], []⟩).memory :=
  laidMet_of_run' 8 (by kernel_rfl) (by kernel_rfl)
theorem roundTurns_reads (os : Os) {H : Type} (enc : TypeId × Value → H) : ∃ places, DataW.whole enc Tryd.prog ((laidWorld os).forCall (fun _ _ => 0) ⟨#[], #[.int .i64 0, .int .i64 0, .slice none 0 0, .slice none 0 0, .int .i64 0], []⟩).memory Tryd.f7.params.toList Rows.roundTurnsSpec.vars false (#[.int .i64 0, .int .i64 0, .slice none 0 0, .slice none 0 0, .int .i64 0] : Array Value).toList 8 = some ([.lit (.int .i64 0), .lit (.int .i64 0), .nil, .nil, .lit (.int .i64 0)], [], places) :=
  ⟨[], by kernel_rfl⟩

set_option maxRecDepth 100000 in
theorem roundTurns_lifted (os : Os) (started : os.Started) (H : Type) (enc : TypeId × Value → H) (F : Stop.Interp) :
    ReturnsInHanded {} Tryd.checked os 7 .any ((OpenSpec.ofChange Rows.roundTurnsSpec).preRow enc Tryd.prog Tryd.f7 Rows.roundTurnsRow.domain false Rows.roundTurnsRow.laid) (((OpenSpec.ofChange Rows.roundTurnsSpec).at F).post enc Tryd.prog Tryd.f7 false true false false) := by
  obtain ⟨places, hx⟩ := roundTurns_reads os enc
  refine returnsInHanded_of_row (C := Tryd.checked) (s := OpenSpec.ofChange Rows.roundTurnsSpec) Tryd.own started (by kernel_rfl) Tryd.func7
    (witness_row_at (enc := enc) (C := Tryd.checked) false (laidWorld os) #[.int .i64 0, .int .i64 0, .slice none 0 0, .slice none 0 0, .int .i64 0] rfl (by kernel_rfl) (by kernel_rfl) (by kernel_rfl)
      (OpenSpec.preRow_of_cond 8 hx (by kernel_rfl) (fun k hk => by cases hk) (by kernel_rfl) (roundTurns_laid os))) ?_
  intro W base args ds gs before hval hW _ _ _ hL _ _
  exact roundTurns_contract H enc W (tab_of_laid hL) base args ds gs before hval hW

theorem roundTurns_holds : Rows.RoundTurnsSaid :=
  OpenClaim.holds_of_cond 7 Tryd.f7 rfl rfl rfl rfl rfl rfl rfl ⟨rfl, rfl, rfl, rfl, rfl⟩ rfl rfl rfl rfl rfl (by kernel_rfl) Tryd.func7 (by kernel_rfl)
    (of_decide_eq_true (by kernel_rfl)) (by unfold Func.isWrapper; first | (rw [if_pos (by decide +kernel)]; kernel_rfl) | (rw [if_neg (by decide +kernel)]; exact ⟨rfl, rfl⟩))
    (fun os started H enc _ F => by rw [OpenClaim.pre_eq_preRow]; exact roundTurns_lifted os started H enc F)

theorem roundTurns_plain (f : FuncId) (fn : Func) (hf : Tryd.pinned.checked.prog.funcNamed "caliper/caliperlaw06.RoundTurns" = some f) (hfn : Tryd.pinned.checked.prog.funcs[f]? = some fn) :
    false = Tryd.pinned.checked.prog.looks [] ∧ ∀ (j : Nat) t, fn.params[j]? = some t → Tryd.pinned.checked.prog.wantsStandIn t = false := by
  obtain rfl : f = 7 := Option.some.inj ((show Tryd.prog.funcNamed "caliper/caliperlaw06.RoundTurns" = some 7 by kernel_rfl).symm.trans hf) |>.symm
  obtain rfl : fn = Tryd.f7 := (Option.some.inj (Tryd.func7.symm.trans hfn)).symm
  refine ⟨by kernel_rfl, fun j t ht => ?_⟩
  rw [Tryd.params7] at ht
  have hm : t = 3 ∨ t = 22 ∨ t = 3 := by simpa using Array.mem_of_getElem? ht
  rcases hm with rfl | rfl | rfl
  · exact (show Tryd.prog.wantsStandIn 3 = false by kernel_rfl)
  · exact (show Tryd.prog.wantsStandIn 22 = false by kernel_rfl)
  · exact (show Tryd.prog.wantsStandIn 3 = false by kernel_rfl)

theorem roundTurns_card : Rows.RoundTurnsCardSaid :=
  Claim7.holds_tied_plain_at .later [] _ _ _ _ roundTurns_holds (fun _ h => by cases h) (by kernel_rfl) (fun _ h => by cases h) roundTurns_row_tie rfl ⟨rfl, rfl⟩ (by kernel_rfl) rfl roundTurns_plain (by kernel_rfl)
end Go.Proofs.YthcndcanahhbcaaDoor
