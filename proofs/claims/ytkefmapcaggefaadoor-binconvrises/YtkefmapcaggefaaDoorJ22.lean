/-
  Texts that the proof leans on, joined: Ck, Cj.
-/
import Derived.Test.YtkefmapcaggefaaDoorJ20
import Derived.Test.YtkefmapcaggefaaDoorJ1
set_option linter.unusedVariables false
set_option linter.unusedSectionVars false
set_option linter.unusedSimpArgs false
set_option maxRecDepth 20000
namespace Go.Proofs.YtkefmapcaggefaaDoor
open Go.RowKit
attribute [local irreducible] W4 mo

section
variable (m t d : Int) (A B : Nat) (w : World) (hT : Tab w)
  (c7 : ∀ W, Below w.heap.size w W → Calls Tryd.prog 8 #[] W fun r w' => r = .returned (.bool true) ∧ Below W.heap.size W w')
include hT c7
set_option maxHeartbeats 2000000 in
theorem cris_n (b0 b1 b2 b3 : Bool) (hn : (b0 && b1 && b2 && b3) = false)
    (c8 : ∀ W, Calls Tryd.prog 9 #[.int .i64 m, A4 A] W fun r w' => r = .returned (.bool b0) ∧ Below W.heap.size W w')
    (c8b : ∀ W, Calls Tryd.prog 9 #[.int .i64 m, A4 B] W fun r w' => r = .returned (.bool b1) ∧ Below W.heap.size W w')
    (c14 : ∀ W, Calls Tryd.prog 15 #[.int .i64 t] W fun r w' => r = .returned (.bool b2) ∧ W = w')
    (c10 : ∀ W, Calls Tryd.prog 11 #[.int .i64 d] W fun r w' => r = .returned (.bool b3) ∧ W = w') :
    Calls Tryd.prog 6 #[.int .i64 m, .int .i64 t, .int .i64 d, A4 A, A4 B] w fun r w' => r = .returned (.bool true) ∧ Below w.heap.size w w' := by
  cases b0 <;> cases b1 <;> cases b2 <;> cases b3 <;> simp only [Bool.and_self, Bool.and_true, Bool.and_false, Bool.true_and, Bool.false_and, Bool.true_eq_false] at hn
  all_goals (
    clear hn
    go_enter Tryd.func6, Tryd.ntmps6
    go_wp2_with (first
      | (go_at_call 8; refine (c7 _ bgo).mono ?_; rintro r w1 ⟨rfl, hb1⟩; obtain ⟨hc1, hf1⟩ := bcell hb1; have hz1_0 : w.heap.size < w1.heap.size := lt_below hb1 ltg; have hl1_0 := Nat.le_of_lt hz1_0; have hz1_1 : w.heap.size + 1 < w1.heap.size := lt_below hb1 ltg; have hl1_1 := Nat.le_of_lt hz1_1; have hA1 := bnext (w0 := w) bgo hb1; have hs1 := hA1.size; clear hb1)
      | (have := hA2; go_at_call 9; refine (c8b _).mono ?_; rintro r w3 ⟨rfl, hb3⟩; obtain ⟨hc3, hf3⟩ := bcell hb3; have hz3_0 : w.heap.size < w3.heap.size := lt_below hb3 ltg; have hl3_0 := Nat.le_of_lt hz3_0; have hz3_1 : w.heap.size + 1 < w3.heap.size := lt_below hb3 ltg; have hl3_1 := Nat.le_of_lt hz3_1; have hA3 := bnext (w0 := w) bgo hb3; have hs3 := hA3.size; clear hb3)
      | (go_at_call 9; refine (c8 _).mono ?_; rintro r w2 ⟨rfl, hb2⟩; obtain ⟨hc2, hf2⟩ := bcell hb2; have hz2_0 : w.heap.size < w2.heap.size := lt_below hb2 ltg; have hl2_0 := Nat.le_of_lt hz2_0; have hz2_1 : w.heap.size + 1 < w2.heap.size := lt_below hb2 ltg; have hl2_1 := Nat.le_of_lt hz2_1; have hA2 := bnext (w0 := w) bgo hb2; have hs2 := hA2.size; clear hb2)
      | (go_at_call 15; refine (c14 _).mono ?_; rintro r w4 ⟨rfl, rfl⟩)
      | (go_at_call 11; refine (c10 _).mono ?_; rintro r w4 ⟨rfl, rfl⟩))
    go_ret
    exact ⟨rfl, bgo⟩)
variable (c x c' x' : Int) (s s' g g' : Bool) (k k' : Nat)
    (c8 : ∀ W, Calls Tryd.prog 9 #[.int .i64 m, A4 A] W fun r w' => r = .returned (.bool true) ∧ Below W.heap.size W w')
    (c8b : ∀ W, Calls Tryd.prog 9 #[.int .i64 m, A4 B] W fun r w' => r = .returned (.bool true) ∧ Below W.heap.size W w')
    (c14 : ∀ W, Calls Tryd.prog 15 #[.int .i64 t] W fun r w' => r = .returned (.bool true) ∧ W = w')
    (c10 : ∀ W, Calls Tryd.prog 11 #[.int .i64 d] W fun r w' => r = .returned (.bool true) ∧ W = w')
    (c11 : ∀ W, Tab W → Calls Tryd.prog 12 #[.int .i64 m, A4 A] W fun r w' => r = .returned (.tuple #[DV c s g x k, .int .i64 0]) ∧ Below W.heap.size W w')
    (c11b : ∀ W, Tab W → Calls Tryd.prog 12 #[.int .i64 m, A4 B] W fun r w' => r = .returned (.tuple #[DV c' s' g' x' k', .int .i64 0]) ∧ Below W.heap.size W w')
include c8 c8b c14 c10 c11 c11b
set_option maxHeartbeats 4000000 in
theorem cris_s (h : (c == 3) = true ∨ (c == 3) = false ∧ ((c' == 3) = true ∨ (c' == 3) = false ∧ (s = true ∨ s = false ∧ s' = true))) :
    Calls Tryd.prog 6 #[.int .i64 m, .int .i64 t, .int .i64 d, A4 A, A4 B] w fun r w' => r = .returned (.bool true) ∧ Below w.heap.size w w' := by
  rcases h with h1 | ⟨h1, h2 | ⟨h2, rfl | ⟨rfl, rfl⟩⟩⟩
  all_goals (
    go_enter Tryd.func6, Tryd.ntmps6
    go_wp2_with (first
      | (go_at_call 8; refine (c7 _ bgo).mono ?_; rintro r w1 ⟨rfl, hb1⟩; obtain ⟨hc1, hf1⟩ := bcell hb1; have hz1_0 : w.heap.size < w1.heap.size := lt_below hb1 ltg; have hl1_0 := Nat.le_of_lt hz1_0; have hz1_1 : w.heap.size + 1 < w1.heap.size := lt_below hb1 ltg; have hl1_1 := Nat.le_of_lt hz1_1; have hA1 := bnext (w0 := w) bgo hb1; have hs1 := hA1.size; clear hb1)
      | (have := hA2; go_at_call 9; refine (c8b _).mono ?_; rintro r w3 ⟨rfl, hb3⟩; obtain ⟨hc3, hf3⟩ := bcell hb3; have hz3_0 : w.heap.size < w3.heap.size := lt_below hb3 ltg; have hl3_0 := Nat.le_of_lt hz3_0; have hz3_1 : w.heap.size + 1 < w3.heap.size := lt_below hb3 ltg; have hl3_1 := Nat.le_of_lt hz3_1; have hA3 := bnext (w0 := w) bgo hb3; have hs3 := hA3.size; clear hb3)
      | (go_at_call 9; refine (c8 _).mono ?_; rintro r w2 ⟨rfl, hb2⟩; obtain ⟨hc2, hf2⟩ := bcell hb2; have hz2_0 : w.heap.size < w2.heap.size := lt_below hb2 ltg; have hl2_0 := Nat.le_of_lt hz2_0; have hz2_1 : w.heap.size + 1 < w2.heap.size := lt_below hb2 ltg; have hl2_1 := Nat.le_of_lt hz2_1; have hA2 := bnext (w0 := w) bgo hb2; have hs2 := hA2.size; clear hb2)
      | (go_at_call 15; refine (c14 _).mono ?_; rintro r w4 ⟨rfl, rfl⟩)
      | (go_at_call 11; refine (c10 _).mono ?_; rintro r w4 ⟨rfl, rfl⟩)
      | (have := hA5; go_at_call 12; refine (c11b _ (hT.go bgo)).mono ?_; rintro r w6 ⟨rfl, hb6⟩; obtain ⟨hc6, hf6⟩ := bcell hb6; have hz6_0 : w.heap.size < w6.heap.size := lt_below hb6 ltg; have hl6_0 := Nat.le_of_lt hz6_0; have hz6_1 : w.heap.size + 1 < w6.heap.size := lt_below hb6 ltg; have hl6_1 := Nat.le_of_lt hz6_1; have hz6_2 : w5.heap.size < w6.heap.size := lt_below hb6 ltg; have hl6_2 := Nat.le_of_lt hz6_2; have hA6 := bnext (w0 := w) bgo hb6; have hs6 := hA6.size; clear hb6)
      | (go_at_call 12; refine (c11 _ (hT.go bgo)).mono ?_; rintro r w5 ⟨rfl, hb5⟩; obtain ⟨hc5, hf5⟩ := bcell hb5; have hz5_0 : w.heap.size < w5.heap.size := lt_below hb5 ltg; have hl5_0 := Nat.le_of_lt hz5_0; have hz5_1 : w.heap.size + 1 < w5.heap.size := lt_below hb5 ltg; have hl5_1 := Nat.le_of_lt hz5_1; have hA5 := bnext (w0 := w) bgo hb5; have hs5 := hA5.size; clear hb5))
    go_ret
    exact ⟨rfl, bgo⟩)
variable (hc : (c == 3) = false) (hc' : (c' == 3) = false) (hs : s = false) (hs' : s' = false) (V V' : Nat) (F F' : Int)
    (c12 : ∀ W, Tab W → Calls Tryd.prog 13 #[.int .i64 m, .int .i64 t, .int .i64 d, A4 A] W fun r w' => r = .returned (.tuple #[A4 V, .int .i64 F, .int .i64 0]) ∧ Below W.heap.size W w')
    (c12b : ∀ W, Tab W → Calls Tryd.prog 13 #[.int .i64 m, .int .i64 t, .int .i64 d, A4 B] W fun r w' => r = .returned (.tuple #[A4 V', .int .i64 F', .int .i64 0]) ∧ Below W.heap.size W w')
include hc hc' hs hs' c12 c12b
set_option maxHeartbeats 8000000 in
theorem cris_l
    (l1 : ∀ W, Calls Tryd.prog 16 #[A4 A, A4 B] W fun r w' => r = .returned (.bool true) ∧ Below W.heap.size W w')
    (l2 : ∀ W, Calls Tryd.prog 16 #[A4 V', A4 V] W fun r w' => r = .returned (.bool false) ∧ Below W.heap.size W w') :
    Calls Tryd.prog 6 #[.int .i64 m, .int .i64 t, .int .i64 d, A4 A, A4 B] w fun r w' => r = .returned (.bool true) ∧ Below w.heap.size w w' := by
  subst hs hs'
  go_enter Tryd.func6, Tryd.ntmps6
  go_wp2_with (first
    | (go_at_call 8; refine (c7 _ bgo).mono ?_; rintro r w1 ⟨rfl, hb1⟩; obtain ⟨hc1, hf1⟩ := bcell hb1; have hz1_0 : w.heap.size < w1.heap.size := lt_below hb1 ltg; have hl1_0 := Nat.le_of_lt hz1_0; have hz1_1 : w.heap.size + 1 < w1.heap.size := lt_below hb1 ltg; have hl1_1 := Nat.le_of_lt hz1_1; have hA1 := bnext (w0 := w) bgo hb1; have hs1 := hA1.size; clear hb1)
    | (have := hA2; go_at_call 9; refine (c8b _).mono ?_; rintro r w3 ⟨rfl, hb3⟩; obtain ⟨hc3, hf3⟩ := bcell hb3; have hz3_0 : w.heap.size < w3.heap.size := lt_below hb3 ltg; have hl3_0 := Nat.le_of_lt hz3_0; have hz3_1 : w.heap.size + 1 < w3.heap.size := lt_below hb3 ltg; have hl3_1 := Nat.le_of_lt hz3_1; have hA3 := bnext (w0 := w) bgo hb3; have hs3 := hA3.size; clear hb3)
    | (go_at_call 9; refine (c8 _).mono ?_; rintro r w2 ⟨rfl, hb2⟩; obtain ⟨hc2, hf2⟩ := bcell hb2; have hz2_0 : w.heap.size < w2.heap.size := lt_below hb2 ltg; have hl2_0 := Nat.le_of_lt hz2_0; have hz2_1 : w.heap.size + 1 < w2.heap.size := lt_below hb2 ltg; have hl2_1 := Nat.le_of_lt hz2_1; have hA2 := bnext (w0 := w) bgo hb2; have hs2 := hA2.size; clear hb2)
    | (go_at_call 15; refine (c14 _).mono ?_; rintro r w4 ⟨rfl, rfl⟩)
    | (go_at_call 11; refine (c10 _).mono ?_; rintro r w4 ⟨rfl, rfl⟩)
    | (have := hA5; go_at_call 12; refine (c11b _ (hT.go bgo)).mono ?_; rintro r w6 ⟨rfl, hb6⟩; obtain ⟨hc6, hf6⟩ := bcell hb6; have hz6_0 : w.heap.size < w6.heap.size := lt_below hb6 ltg; have hl6_0 := Nat.le_of_lt hz6_0; have hz6_1 : w.heap.size + 1 < w6.heap.size := lt_below hb6 ltg; have hl6_1 := Nat.le_of_lt hz6_1; have hz6_2 : w5.heap.size < w6.heap.size := lt_below hb6 ltg; have hl6_2 := Nat.le_of_lt hz6_2; have hA6 := bnext (w0 := w) bgo hb6; have hs6 := hA6.size; clear hb6)
    | (go_at_call 12; refine (c11 _ (hT.go bgo)).mono ?_; rintro r w5 ⟨rfl, hb5⟩; obtain ⟨hc5, hf5⟩ := bcell hb5; have hz5_0 : w.heap.size < w5.heap.size := lt_below hb5 ltg; have hl5_0 := Nat.le_of_lt hz5_0; have hz5_1 : w.heap.size + 1 < w5.heap.size := lt_below hb5 ltg; have hl5_1 := Nat.le_of_lt hz5_1; have hA5 := bnext (w0 := w) bgo hb5; have hs5 := hA5.size; clear hb5)
    | (have := hA7; go_at_call 13; refine (c12b _ (hT.go bgo)).mono ?_; rintro r w8 ⟨rfl, hb8⟩; obtain ⟨hc8, hf8⟩ := bcell hb8; have hz8_0 : w.heap.size < w8.heap.size := lt_below hb8 ltg; have hl8_0 := Nat.le_of_lt hz8_0; have hz8_1 : w.heap.size + 1 < w8.heap.size := lt_below hb8 ltg; have hl8_1 := Nat.le_of_lt hz8_1; have hz8_2 : w5.heap.size < w8.heap.size := lt_below hb8 ltg; have hl8_2 := Nat.le_of_lt hz8_2; have hz8_3 : w6.heap.size < w8.heap.size := lt_below hb8 ltg; have hl8_3 := Nat.le_of_lt hz8_3; have hz8_4 : w7.heap.size < w8.heap.size := lt_below hb8 ltg; have hl8_4 := Nat.le_of_lt hz8_4; have hA8 := bnext (w0 := w) bgo hb8; have hs8 := hA8.size; clear hb8)
    | (go_at_call 13; refine (c12 _ (hT.go bgo)).mono ?_; rintro r w7 ⟨rfl, hb7⟩; obtain ⟨hc7, hf7⟩ := bcell hb7; have hz7_0 : w.heap.size < w7.heap.size := lt_below hb7 ltg; have hl7_0 := Nat.le_of_lt hz7_0; have hz7_1 : w.heap.size + 1 < w7.heap.size := lt_below hb7 ltg; have hl7_1 := Nat.le_of_lt hz7_1; have hz7_2 : w5.heap.size < w7.heap.size := lt_below hb7 ltg; have hl7_2 := Nat.le_of_lt hz7_2; have hz7_3 : w6.heap.size < w7.heap.size := lt_below hb7 ltg; have hl7_3 := Nat.le_of_lt hz7_3; have hA7 := bnext (w0 := w) bgo hb7; have hs7 := hA7.size; clear hb7)
    | (have := hA9; go_at_call 16; refine (l2 _).mono ?_; rintro r w10 ⟨rfl, hb10⟩; obtain ⟨hc10, hf10⟩ := bcell hb10; have hz10_0 : w.heap.size < w10.heap.size := lt_below hb10 ltg; have hl10_0 := Nat.le_of_lt hz10_0; have hz10_1 : w.heap.size + 1 < w10.heap.size := lt_below hb10 ltg; have hl10_1 := Nat.le_of_lt hz10_1; have hz10_2 : w7.heap.size < w10.heap.size := lt_below hb10 ltg; have hl10_2 := Nat.le_of_lt hz10_2; have hz10_3 : w8.heap.size < w10.heap.size := lt_below hb10 ltg; have hl10_3 := Nat.le_of_lt hz10_3; have hA10 := bnext (w0 := w) bgo hb10; have hs10 := hA10.size; clear hb10)
    | (go_at_call 16; refine (l1 _).mono ?_; rintro r w9 ⟨rfl, hb9⟩; obtain ⟨hc9, hf9⟩ := bcell hb9; have hz9_0 : w.heap.size < w9.heap.size := lt_below hb9 ltg; have hl9_0 := Nat.le_of_lt hz9_0; have hz9_1 : w.heap.size + 1 < w9.heap.size := lt_below hb9 ltg; have hl9_1 := Nat.le_of_lt hz9_1; have hz9_2 : w7.heap.size < w9.heap.size := lt_below hb9 ltg; have hl9_2 := Nat.le_of_lt hz9_2; have hz9_3 : w8.heap.size < w9.heap.size := lt_below hb9 ltg; have hl9_3 := Nat.le_of_lt hz9_3; have hA9 := bnext (w0 := w) bgo hb9; have hs9 := hA9.size; clear hb9))
  go_ret
  exact ⟨by first | rfl | simp, bgo⟩
set_option maxHeartbeats 8000000 in
theorem cris_g
    (l1 : ∀ W, Calls Tryd.prog 16 #[A4 A, A4 B] W fun r w' => r = .returned (.bool false) ∧ Below W.heap.size W w')
    (l2 : ∀ W, Calls Tryd.prog 16 #[A4 B, A4 A] W fun r w' => r = .returned (.bool true) ∧ Below W.heap.size W w')
    (l3 : ∀ W, Calls Tryd.prog 16 #[A4 V, A4 V'] W fun r w' => r = .returned (.bool false) ∧ Below W.heap.size W w') :
    Calls Tryd.prog 6 #[.int .i64 m, .int .i64 t, .int .i64 d, A4 A, A4 B] w fun r w' => r = .returned (.bool true) ∧ Below w.heap.size w w' := by
  subst hs hs'
  go_enter Tryd.func6, Tryd.ntmps6
  go_wp2_with (first
    | (go_at_call 8; refine (c7 _ bgo).mono ?_; rintro r w1 ⟨rfl, hb1⟩; obtain ⟨hc1, hf1⟩ := bcell hb1; have hz1_0 : w.heap.size < w1.heap.size := lt_below hb1 ltg; have hl1_0 := Nat.le_of_lt hz1_0; have hz1_1 : w.heap.size + 1 < w1.heap.size := lt_below hb1 ltg; have hl1_1 := Nat.le_of_lt hz1_1; have hA1 := bnext (w0 := w) bgo hb1; have hs1 := hA1.size; clear hb1)
    | (have := hA2; go_at_call 9; refine (c8b _).mono ?_; rintro r w3 ⟨rfl, hb3⟩; obtain ⟨hc3, hf3⟩ := bcell hb3; have hz3_0 : w.heap.size < w3.heap.size := lt_below hb3 ltg; have hl3_0 := Nat.le_of_lt hz3_0; have hz3_1 : w.heap.size + 1 < w3.heap.size := lt_below hb3 ltg; have hl3_1 := Nat.le_of_lt hz3_1; have hA3 := bnext (w0 := w) bgo hb3; have hs3 := hA3.size; clear hb3)
    | (go_at_call 9; refine (c8 _).mono ?_; rintro r w2 ⟨rfl, hb2⟩; obtain ⟨hc2, hf2⟩ := bcell hb2; have hz2_0 : w.heap.size < w2.heap.size := lt_below hb2 ltg; have hl2_0 := Nat.le_of_lt hz2_0; have hz2_1 : w.heap.size + 1 < w2.heap.size := lt_below hb2 ltg; have hl2_1 := Nat.le_of_lt hz2_1; have hA2 := bnext (w0 := w) bgo hb2; have hs2 := hA2.size; clear hb2)
    | (go_at_call 15; refine (c14 _).mono ?_; rintro r w4 ⟨rfl, rfl⟩)
    | (go_at_call 11; refine (c10 _).mono ?_; rintro r w4 ⟨rfl, rfl⟩)
    | (have := hA5; go_at_call 12; refine (c11b _ (hT.go bgo)).mono ?_; rintro r w6 ⟨rfl, hb6⟩; obtain ⟨hc6, hf6⟩ := bcell hb6; have hz6_0 : w.heap.size < w6.heap.size := lt_below hb6 ltg; have hl6_0 := Nat.le_of_lt hz6_0; have hz6_1 : w.heap.size + 1 < w6.heap.size := lt_below hb6 ltg; have hl6_1 := Nat.le_of_lt hz6_1; have hz6_2 : w5.heap.size < w6.heap.size := lt_below hb6 ltg; have hl6_2 := Nat.le_of_lt hz6_2; have hA6 := bnext (w0 := w) bgo hb6; have hs6 := hA6.size; clear hb6)
    | (go_at_call 12; refine (c11 _ (hT.go bgo)).mono ?_; rintro r w5 ⟨rfl, hb5⟩; obtain ⟨hc5, hf5⟩ := bcell hb5; have hz5_0 : w.heap.size < w5.heap.size := lt_below hb5 ltg; have hl5_0 := Nat.le_of_lt hz5_0; have hz5_1 : w.heap.size + 1 < w5.heap.size := lt_below hb5 ltg; have hl5_1 := Nat.le_of_lt hz5_1; have hA5 := bnext (w0 := w) bgo hb5; have hs5 := hA5.size; clear hb5)
    | (have := hA7; go_at_call 13; refine (c12b _ (hT.go bgo)).mono ?_; rintro r w8 ⟨rfl, hb8⟩; obtain ⟨hc8, hf8⟩ := bcell hb8; have hz8_0 : w.heap.size < w8.heap.size := lt_below hb8 ltg; have hl8_0 := Nat.le_of_lt hz8_0; have hz8_1 : w.heap.size + 1 < w8.heap.size := lt_below hb8 ltg; have hl8_1 := Nat.le_of_lt hz8_1; have hz8_2 : w5.heap.size < w8.heap.size := lt_below hb8 ltg; have hl8_2 := Nat.le_of_lt hz8_2; have hz8_3 : w6.heap.size < w8.heap.size := lt_below hb8 ltg; have hl8_3 := Nat.le_of_lt hz8_3; have hz8_4 : w7.heap.size < w8.heap.size := lt_below hb8 ltg; have hl8_4 := Nat.le_of_lt hz8_4; have hA8 := bnext (w0 := w) bgo hb8; have hs8 := hA8.size; clear hb8)
    | (go_at_call 13; refine (c12 _ (hT.go bgo)).mono ?_; rintro r w7 ⟨rfl, hb7⟩; obtain ⟨hc7, hf7⟩ := bcell hb7; have hz7_0 : w.heap.size < w7.heap.size := lt_below hb7 ltg; have hl7_0 := Nat.le_of_lt hz7_0; have hz7_1 : w.heap.size + 1 < w7.heap.size := lt_below hb7 ltg; have hl7_1 := Nat.le_of_lt hz7_1; have hz7_2 : w5.heap.size < w7.heap.size := lt_below hb7 ltg; have hl7_2 := Nat.le_of_lt hz7_2; have hz7_3 : w6.heap.size < w7.heap.size := lt_below hb7 ltg; have hl7_3 := Nat.le_of_lt hz7_3; have hA7 := bnext (w0 := w) bgo hb7; have hs7 := hA7.size; clear hb7)
    | (have := hA10; go_at_call 16; refine (l3 _).mono ?_; rintro r w11 ⟨rfl, hb11⟩; obtain ⟨hc11, hf11⟩ := bcell hb11; have hz11_0 : w.heap.size < w11.heap.size := lt_below hb11 ltg; have hl11_0 := Nat.le_of_lt hz11_0; have hz11_1 : w.heap.size + 1 < w11.heap.size := lt_below hb11 ltg; have hl11_1 := Nat.le_of_lt hz11_1; have hz11_2 : w7.heap.size < w11.heap.size := lt_below hb11 ltg; have hl11_2 := Nat.le_of_lt hz11_2; have hz11_3 : w8.heap.size < w11.heap.size := lt_below hb11 ltg; have hl11_3 := Nat.le_of_lt hz11_3; have hA11 := bnext (w0 := w) bgo hb11; have hs11 := hA11.size; clear hb11)
    | (have := hA9; go_at_call 16; refine (l2 _).mono ?_; rintro r w10 ⟨rfl, hb10⟩; obtain ⟨hc10, hf10⟩ := bcell hb10; have hz10_0 : w.heap.size < w10.heap.size := lt_below hb10 ltg; have hl10_0 := Nat.le_of_lt hz10_0; have hz10_1 : w.heap.size + 1 < w10.heap.size := lt_below hb10 ltg; have hl10_1 := Nat.le_of_lt hz10_1; have hz10_2 : w7.heap.size < w10.heap.size := lt_below hb10 ltg; have hl10_2 := Nat.le_of_lt hz10_2; have hz10_3 : w8.heap.size < w10.heap.size := lt_below hb10 ltg; have hl10_3 := Nat.le_of_lt hz10_3; have hA10 := bnext (w0 := w) bgo hb10; have hs10 := hA10.size; clear hb10)
    | (go_at_call 16; refine (l1 _).mono ?_; rintro r w9 ⟨rfl, hb9⟩; obtain ⟨hc9, hf9⟩ := bcell hb9; have hz9_0 : w.heap.size < w9.heap.size := lt_below hb9 ltg; have hl9_0 := Nat.le_of_lt hz9_0; have hz9_1 : w.heap.size + 1 < w9.heap.size := lt_below hb9 ltg; have hl9_1 := Nat.le_of_lt hz9_1; have hz9_2 : w7.heap.size < w9.heap.size := lt_below hb9 ltg; have hl9_2 := Nat.le_of_lt hz9_2; have hz9_3 : w8.heap.size < w9.heap.size := lt_below hb9 ltg; have hl9_3 := Nat.le_of_lt hz9_3; have hA9 := bnext (w0 := w) bgo hb9; have hs9 := hA9.size; clear hb9))
  go_ret
  exact ⟨by first | rfl | simp, bgo⟩
end
section
variable (m t d : Int) (A : Nat) (w : World) (hT : Tab w)
  (c7 : ∀ W, Below w.heap.size w W → Calls Tryd.prog 8 #[] W fun r w' => r = .returned (.bool true) ∧ Below W.heap.size W w')
include hT c7
set_option maxHeartbeats 8000000 in
theorem cris_e (c x : Int) (g : Bool) (k V : Nat) (F : Int) (hc : (c == 3) = false)
    (c8 : ∀ W, Calls Tryd.prog 9 #[.int .i64 m, A4 A] W fun r w' => r = .returned (.bool true) ∧ Below W.heap.size W w')
    (c14 : ∀ W, Calls Tryd.prog 15 #[.int .i64 t] W fun r w' => r = .returned (.bool true) ∧ W = w')
    (c10 : ∀ W, Calls Tryd.prog 11 #[.int .i64 d] W fun r w' => r = .returned (.bool true) ∧ W = w')
    (c11 : ∀ W, Tab W → Calls Tryd.prog 12 #[.int .i64 m, A4 A] W fun r w' => r = .returned (.tuple #[DV c false g x k, .int .i64 0]) ∧ Below W.heap.size W w')
    (c12 : ∀ W, Tab W → Calls Tryd.prog 13 #[.int .i64 m, .int .i64 t, .int .i64 d, A4 A] W fun r w' => r = .returned (.tuple #[A4 V, .int .i64 F, .int .i64 0]) ∧ Below W.heap.size W w')
    (l1 : ∀ W, Calls Tryd.prog 16 #[A4 A, A4 A] W fun r w' => r = .returned (.bool false) ∧ Below W.heap.size W w') :
    Calls Tryd.prog 6 #[.int .i64 m, .int .i64 t, .int .i64 d, A4 A, A4 A] w fun r w' => r = .returned (.bool true) ∧ Below w.heap.size w w' := by
  have hQ := A4_self A
  have hR := A4_self V
  go_enter Tryd.func6, Tryd.ntmps6
  go_wp2_with (first
    | (go_at_call 8; refine (c7 _ bgo).mono ?_; rintro r w1 ⟨rfl, hb1⟩; obtain ⟨hc1, hf1⟩ := bcell hb1; have hz1_0 : w.heap.size < w1.heap.size := lt_below hb1 ltg; have hl1_0 := Nat.le_of_lt hz1_0; have hz1_1 : w.heap.size + 1 < w1.heap.size := lt_below hb1 ltg; have hl1_1 := Nat.le_of_lt hz1_1; have hA1 := bnext (w0 := w) bgo hb1; have hs1 := hA1.size; clear hb1)
    | (have := hA2; go_at_call 9; refine (c8 _).mono ?_; rintro r w3 ⟨rfl, hb3⟩; obtain ⟨hc3, hf3⟩ := bcell hb3; have hz3_0 : w.heap.size < w3.heap.size := lt_below hb3 ltg; have hl3_0 := Nat.le_of_lt hz3_0; have hz3_1 : w.heap.size + 1 < w3.heap.size := lt_below hb3 ltg; have hl3_1 := Nat.le_of_lt hz3_1; have hA3 := bnext (w0 := w) bgo hb3; have hs3 := hA3.size; clear hb3)
    | (go_at_call 9; refine (c8 _).mono ?_; rintro r w2 ⟨rfl, hb2⟩; obtain ⟨hc2, hf2⟩ := bcell hb2; have hz2_0 : w.heap.size < w2.heap.size := lt_below hb2 ltg; have hl2_0 := Nat.le_of_lt hz2_0; have hz2_1 : w.heap.size + 1 < w2.heap.size := lt_below hb2 ltg; have hl2_1 := Nat.le_of_lt hz2_1; have hA2 := bnext (w0 := w) bgo hb2; have hs2 := hA2.size; clear hb2)
    | (go_at_call 15; refine (c14 _).mono ?_; rintro r w4 ⟨rfl, rfl⟩)
    | (go_at_call 11; refine (c10 _).mono ?_; rintro r w4 ⟨rfl, rfl⟩)
    | (have := hA5; go_at_call 12; refine (c11 _ (hT.go bgo)).mono ?_; rintro r w6 ⟨rfl, hb6⟩; obtain ⟨hc6, hf6⟩ := bcell hb6; have hz6_0 : w.heap.size < w6.heap.size := lt_below hb6 ltg; have hl6_0 := Nat.le_of_lt hz6_0; have hz6_1 : w.heap.size + 1 < w6.heap.size := lt_below hb6 ltg; have hl6_1 := Nat.le_of_lt hz6_1; have hz6_2 : w5.heap.size < w6.heap.size := lt_below hb6 ltg; have hl6_2 := Nat.le_of_lt hz6_2; have hA6 := bnext (w0 := w) bgo hb6; have hs6 := hA6.size; clear hb6)
    | (go_at_call 12; refine (c11 _ (hT.go bgo)).mono ?_; rintro r w5 ⟨rfl, hb5⟩; obtain ⟨hc5, hf5⟩ := bcell hb5; have hz5_0 : w.heap.size < w5.heap.size := lt_below hb5 ltg; have hl5_0 := Nat.le_of_lt hz5_0; have hz5_1 : w.heap.size + 1 < w5.heap.size := lt_below hb5 ltg; have hl5_1 := Nat.le_of_lt hz5_1; have hA5 := bnext (w0 := w) bgo hb5; have hs5 := hA5.size; clear hb5)
    | (have := hA7; go_at_call 13; refine (c12 _ (hT.go bgo)).mono ?_; rintro r w8 ⟨rfl, hb8⟩; obtain ⟨hc8, hf8⟩ := bcell hb8; have hz8_0 : w.heap.size < w8.heap.size := lt_below hb8 ltg; have hl8_0 := Nat.le_of_lt hz8_0; have hz8_1 : w.heap.size + 1 < w8.heap.size := lt_below hb8 ltg; have hl8_1 := Nat.le_of_lt hz8_1; have hz8_2 : w5.heap.size < w8.heap.size := lt_below hb8 ltg; have hl8_2 := Nat.le_of_lt hz8_2; have hz8_3 : w6.heap.size < w8.heap.size := lt_below hb8 ltg; have hl8_3 := Nat.le_of_lt hz8_3; have hz8_4 : w7.heap.size < w8.heap.size := lt_below hb8 ltg; have hl8_4 := Nat.le_of_lt hz8_4; have hA8 := bnext (w0 := w) bgo hb8; have hs8 := hA8.size; clear hb8)
    | (go_at_call 13; refine (c12 _ (hT.go bgo)).mono ?_; rintro r w7 ⟨rfl, hb7⟩; obtain ⟨hc7, hf7⟩ := bcell hb7; have hz7_0 : w.heap.size < w7.heap.size := lt_below hb7 ltg; have hl7_0 := Nat.le_of_lt hz7_0; have hz7_1 : w.heap.size + 1 < w7.heap.size := lt_below hb7 ltg; have hl7_1 := Nat.le_of_lt hz7_1; have hz7_2 : w5.heap.size < w7.heap.size := lt_below hb7 ltg; have hl7_2 := Nat.le_of_lt hz7_2; have hz7_3 : w6.heap.size < w7.heap.size := lt_below hb7 ltg; have hl7_3 := Nat.le_of_lt hz7_3; have hA7 := bnext (w0 := w) bgo hb7; have hs7 := hA7.size; clear hb7)
    | (have := hA9; go_at_call 16; refine (l1 _).mono ?_; rintro r w10 ⟨rfl, hb10⟩; obtain ⟨hc10, hf10⟩ := bcell hb10; have hz10_0 : w.heap.size < w10.heap.size := lt_below hb10 ltg; have hl10_0 := Nat.le_of_lt hz10_0; have hz10_1 : w.heap.size + 1 < w10.heap.size := lt_below hb10 ltg; have hl10_1 := Nat.le_of_lt hz10_1; have hz10_2 : w7.heap.size < w10.heap.size := lt_below hb10 ltg; have hl10_2 := Nat.le_of_lt hz10_2; have hz10_3 : w8.heap.size < w10.heap.size := lt_below hb10 ltg; have hl10_3 := Nat.le_of_lt hz10_3; have hA10 := bnext (w0 := w) bgo hb10; have hs10 := hA10.size; clear hb10)
    | (go_at_call 16; refine (l1 _).mono ?_; rintro r w9 ⟨rfl, hb9⟩; obtain ⟨hc9, hf9⟩ := bcell hb9; have hz9_0 : w.heap.size < w9.heap.size := lt_below hb9 ltg; have hl9_0 := Nat.le_of_lt hz9_0; have hz9_1 : w.heap.size + 1 < w9.heap.size := lt_below hb9 ltg; have hl9_1 := Nat.le_of_lt hz9_1; have hz9_2 : w7.heap.size < w9.heap.size := lt_below hb9 ltg; have hl9_2 := Nat.le_of_lt hz9_2; have hz9_3 : w8.heap.size < w9.heap.size := lt_below hb9 ltg; have hl9_3 := Nat.le_of_lt hz9_3; have hA9 := bnext (w0 := w) bgo hb9; have hs9 := hA9.size; clear hb9))
  go_ret
  exact ⟨by first | rfl | simp, bgo⟩
end
theorem binconvRises_any (m t d : Int) (A B : Nat) (w : World) (hT : Tab w) (hA : A < 2 ^ 256) (hB : B < 2 ^ 256) : Calls Tryd.prog 6 #[.int .i64 m, .int .i64 t, .int .i64 d, A4 A, A4 B] w fun r w' => r = .returned (.bool true) ∧ Below w.heap.size w w' := by
  have c7 := fun W (hW : Below w.heap.size w W) => awake12 W (hT.go hW)
  have c8 := fun W => rgood_any m A hA W
  have c8b := fun W => rgood_any m B hB W
  have c14 : ∀ W, Calls Tryd.prog 15 #[.int .i64 t] W fun r w' => r = .returned (.bool (decide (binN t))) ∧ W = w' := fun W => (rbinary_any t W).mono fun r w' h => ⟨h.1, h.2.symm⟩
  have c10 := fun W => rdir12 d W
  by_cases h : goodN m A ∧ goodN m B ∧ binN t ∧ knB d
  · obtain ⟨h0, h1, h2, h3⟩ := h
    have g0 : cnG m t d A := ⟨h0, h2, h3⟩
    have g1 : cnG m t d B := ⟨h1, h2, h3⟩
    rw [decide_eq_true h0] at c8
    rw [decide_eq_true h1] at c8b
    rw [decide_eq_true h2] at c14
    rw [decide_eq_true h3] at c10
    have c11 := fun W h => unpack_any m A W h hA
    rw [show unE m A = 0 from if_pos h0] at c11
    have c11b := fun W h => unpack_any m B W h hB
    rw [show unE m B = 0 from if_pos h1] at c11b
    have c12 := fun W hh => conv_v m t d A W hh hA
    rw [show cnV m t d A = cvV t d (unD m A) from if_pos g0, show cnF m t d A = cvF t d (unD m A) from if_pos g0, show cnE m t d A = 0 from if_pos g0] at c12
    have c12b := fun W hh => conv_v m t d B W hh hB
    rw [show cnV m t d B = cvV t d (unD m B) from if_pos g1, show cnF m t d B = cvF t d (unD m B) from if_pos g1, show cnE m t d B = 0 from if_pos g1] at c12b
    have i0 := und_is h0
    have i1 := und_is h1
    have k0 := (back_un h0).2
    have k1 := (back_un h1).2
    have w0 := good_256 (cv_good d h2 (unD m A))
    have w1 := good_256 (cv_good d h2 (unD m B))
    by_cases hs : (unD m A).c = 3 ∨ (unD m B).c = 3 ∨ (unD m A).s = true ∨ (unD m B).s = true
    · refine cris_s m t d A B w hT c7 _ _ _ _ _ _ _ _ _ _ c8 c8b c14 c10 c11 c11b ?_
      by_cases a : (unD m A).c = 3
      · exact Or.inl (by simpa using a)
      · refine Or.inr ⟨by simpa using a, ?_⟩
        by_cases b : (unD m B).c = 3
        · exact Or.inl (by simpa using b)
        · refine Or.inr ⟨by simpa using b, ?_⟩
          cases e1 : (unD m A).s
          · cases e2 : (unD m B).s
            · simp [a, b, e1, e2] at hs
            · exact Or.inr ⟨rfl, rfl⟩
          · exact Or.inl rfl
    · have n0 : (unD m A).c ≠ 3 := fun q => hs (Or.inl q)
      have n1 : (unD m B).c ≠ 3 := fun q => hs (Or.inr (Or.inl q))
      have s0 : (unD m A).s = false := by
        cases e : (unD m A).s
        · rfl
        · exact absurd (Or.inr (Or.inr (Or.inl e))) hs
      have s1 : (unD m B).s = false := by
        cases e : (unD m B).s
        · rfl
        · exact absurd (Or.inr (Or.inr (Or.inr e))) hs
      have key : ∀ X Y : Dat, isD (fN m) (leastN m) (mostN m) X → isD (fN m) (leastN m) (mostN m) Y → X.c ≠ 3 → Y.c ≠ 3 → X.s = false → Y.s = false → pkV m X ≤ pkV m Y → cvV t d X ≤ cvV t d Y := by
        rintro ⟨a1, a2, a3, a4, a5⟩ ⟨b1, b2, b3, b4, b5⟩ u1 u2 u3 u4 u5 u6 u7
        dsimp only at u3 u4 u5 u6
        subst u5 u6
        exact cv_rise d h0.1 h2 u1 u2 u3 u4 u7
      rcases Nat.lt_trichotomy A B with hlt | heq | hgt
      · have hk := key _ _ i0 i1 n0 n1 s0 s1 (by rw [k0, k1]; omega)
        refine cris_l m t d A B w hT c7 _ _ _ _ _ _ _ _ _ _ c8 c8b c14 c10 c11 c11b (by simpa using n0) (by simpa using n1) s0 s1 _ _ _ _ c12 c12b (fun W => ?_) (fun W => ?_)
        · have := less_v A B W hA hB
          rw [decide_eq_true hlt] at this
          exact this
        · have := less_v _ _ W w1 w0
          rw [decide_eq_false (by omega)] at this
          exact this
      · subst heq
        have c11' : ∀ W, Tab W → Calls Tryd.prog 12 #[.int .i64 m, A4 A] W fun r w' => r = .returned (.tuple #[DV (unD m A).c false (unD m A).g (unD m A).x (unD m A).k, .int .i64 0]) ∧ Below W.heap.size W w' := fun W hh => by
          have := c11 W hh
          rw [show (unD m A).v = DV (unD m A).c (unD m A).s (unD m A).g (unD m A).x (unD m A).k from rfl, s0] at this
          exact this
        refine cris_e m t d A w hT c7 _ _ _ _ _ _ (by simpa using n0) c8 c14 c10 c11' c12 (fun W => ?_)
        have := less_v A A W hA hA
        rw [decide_eq_false (by omega)] at this
        exact this
      · have hk := key _ _ i1 i0 n1 n0 s1 s0 (by rw [k0, k1]; omega)
        refine cris_g m t d A B w hT c7 _ _ _ _ _ _ _ _ _ _ c8 c8b c14 c10 c11 c11b (by simpa using n0) (by simpa using n1) s0 s1 _ _ _ _ c12 c12b (fun W => ?_) (fun W => ?_) (fun W => ?_)
        · have := less_v A B W hA hB
          rw [decide_eq_false (by omega)] at this
          exact this
        · have := less_v B A W hB hA
          rw [decide_eq_true hgt] at this
          exact this
        · have := less_v _ _ W w0 w1
          rw [decide_eq_false (by omega)] at this
          exact this
  · refine cris_n m t d A B w hT c7 _ _ _ _ ?_ c8 c8b c14 c10
    by_cases a0 : goodN m A
    · by_cases a1 : goodN m B
      · by_cases a2 : binN t
        · have a3 : ¬ knB d := fun a3 => h ⟨a0, a1, a2, a3⟩
          rw [decide_eq_false (p := knB d) a3, Bool.and_false]
        · rw [decide_eq_false (p := binN t) a2, Bool.and_false, Bool.false_and]
      · rw [decide_eq_false (p := goodN m B) a1, Bool.and_false, Bool.false_and, Bool.false_and]
    · rw [decide_eq_false (p := goodN m A) a0, Bool.false_and, Bool.false_and, Bool.false_and]
end Go.Proofs.YtkefmapcaggefaaDoor

namespace Go.Proofs.YtkefmapcaggefaaDoor
open Go.RowKit
attribute [local irreducible] W4

section
variable (m t d : Int) (B : Nat) (w : World) (hT : Tab w)
  (c7 : ∀ W, Below w.heap.size w W → Calls Tryd.prog 8 #[] W fun r w' => r = .returned (.bool true) ∧ Below W.heap.size W w')
include hT c7
set_option maxHeartbeats 2000000 in
theorem turns_n (b1 b2 b3 : Bool) (hn : (b1 && b2 && b3) = false)
    (c8 : ∀ W, Calls Tryd.prog 9 #[.int .i64 m, A4 B] W fun r w' => r = .returned (.bool b1) ∧ Below W.heap.size W w')
    (c14 : ∀ W, Calls Tryd.prog 15 #[.int .i64 t] W fun r w' => r = .returned (.bool b2) ∧ W = w')
    (c10 : ∀ W, Calls Tryd.prog 11 #[.int .i64 d] W fun r w' => r = .returned (.bool b3) ∧ W = w') :
    Calls Tryd.prog 7 #[.int .i64 m, .int .i64 t, .int .i64 d, A4 B] w fun r w' => r = .returned (.bool true) ∧ Below w.heap.size w w' := by
  cases b1 <;> cases b2 <;> cases b3 <;> simp only [Bool.and_self, Bool.and_true, Bool.and_false, Bool.true_and, Bool.false_and, Bool.true_eq_false] at hn
  all_goals (
    clear hn
    go_enter Tryd.func7, Tryd.ntmps7
    go_wp2_with (first
      | (have := hA2; go_at_call 8; refine (c7 _ bgo).mono ?_; rintro r w4 ⟨rfl, hb4⟩; obtain ⟨hc4, hf4⟩ := bcell hb4; have hz4_0 : w.heap.size < w4.heap.size := lt_below hb4 ltg; have hl4_0 := Nat.le_of_lt hz4_0; have hA4 := bnext (w0 := w) bgo hb4; have hs4 := hA4.size; clear hb4)
      | (go_at_call 8; refine (c7 _ bgo).mono ?_; rintro r w1 ⟨rfl, hb1⟩; obtain ⟨hc1, hf1⟩ := bcell hb1; have hz1_0 : w.heap.size < w1.heap.size := lt_below hb1 ltg; have hl1_0 := Nat.le_of_lt hz1_0; have hA1 := bnext (w0 := w) bgo hb1; have hs1 := hA1.size; clear hb1)
      | (go_at_call 9; refine (c8 _).mono ?_; rintro r w2 ⟨rfl, hb2⟩; obtain ⟨hc2, hf2⟩ := bcell hb2; have hz2_0 : w.heap.size < w2.heap.size := lt_below hb2 ltg; have hl2_0 := Nat.le_of_lt hz2_0; have hA2 := bnext (w0 := w) bgo hb2; have hs2 := hA2.size; clear hb2)
      | (go_at_call 15; refine (c14 _).mono ?_; rintro r w3 ⟨rfl, rfl⟩)
      | (go_at_call 11; refine (c10 _).mono ?_; rintro r w3 ⟨rfl, rfl⟩))
    go_ret
    exact ⟨rfl, bgo⟩)
set_option maxHeartbeats 8000000 in
theorem turns_y (c x c' x' : Int) (s s2 g g' : Bool) (k k' C V V' : Nat) (o F E : Int) (ho : o = othD d)
    (c8 : ∀ W, Calls Tryd.prog 9 #[.int .i64 m, A4 B] W fun r w' => r = .returned (.bool true) ∧ Below W.heap.size W w')
    (c14 : ∀ W, Calls Tryd.prog 15 #[.int .i64 t] W fun r w' => r = .returned (.bool true) ∧ W = w')
    (c10 : ∀ W, Calls Tryd.prog 11 #[.int .i64 d] W fun r w' => r = .returned (.bool true) ∧ W = w')
    (c11 : ∀ W, Tab W → Calls Tryd.prog 12 #[.int .i64 m, A4 B] W fun r w' => r = .returned (.tuple #[DV c s g x k, .int .i64 0]) ∧ Below W.heap.size W w')
    (c16 : ∀ W, Tab W → Calls Tryd.prog 17 #[.int .i64 m, DV c (!s) g x k] W fun r w' => r = .returned (.tuple #[A4 C, .int .i64 E]) ∧ Below W.heap.size W w')
    (c12 : ∀ W, Tab W → Calls Tryd.prog 13 #[.int .i64 m, .int .i64 t, .int .i64 d, A4 B] W fun r w' => r = .returned (.tuple #[A4 V, .int .i64 F, .int .i64 0]) ∧ Below W.heap.size W w')
    (c12b : ∀ W, Tab W → Calls Tryd.prog 13 #[.int .i64 m, .int .i64 t, .int .i64 o, A4 C] W fun r w' => r = .returned (.tuple #[A4 V', .int .i64 F, .int .i64 0]) ∧ Below W.heap.size W w')
    (c11p : ∀ W, Tab W → Calls Tryd.prog 12 #[.int .i64 t, A4 V] W fun r w' => r = .returned (.tuple #[DV c' s2 g' x' k', .int .i64 0]) ∧ Below W.heap.size W w')
    (c11q : ∀ W, Tab W → Calls Tryd.prog 12 #[.int .i64 t, A4 V'] W fun r w' => r = .returned (.tuple #[DV c' (!s2) g' x' k', .int .i64 0]) ∧ Below W.heap.size W w') :
    Calls Tryd.prog 7 #[.int .i64 m, .int .i64 t, .int .i64 d, A4 B] w fun r w' => r = .returned (.bool true) ∧ Below w.heap.size w w' := by
  have hQ := DV_self c' s2 g' x' k'
  have hsm := cell_set_map
  have hnn : (!(!s2)) = s2 := Bool.not_not s2
  have hw : (d = 3 ∧ o = 4) ∨ (d = 4 ∧ o = 3) ∨ ((d == 3) = false ∧ (d == 4) = false ∧ o = d) := by
    unfold othD at ho
    by_cases h3 : d = 3
    · left; subst h3; exact ⟨rfl, ho⟩
    · by_cases h4 : d = 4
      · right; left; subst h4; exact ⟨rfl, ho⟩
      · right; right
        rw [if_neg (by omega)] at ho
        exact ⟨by simpa using h3, by simpa using h4, ho⟩
  clear ho
  rcases hw with ⟨rfl, rfl⟩ | ⟨rfl, rfl⟩ | ⟨h3, h4, rfl⟩
  all_goals (
    go_enter Tryd.func7, Tryd.ntmps7
    go_wp2_with (first
      | (go_at_call 8; refine (c7 _ bgo).mono ?_; rintro r w1 ⟨rfl, hb1⟩; obtain ⟨hc1, hf1⟩ := bcell hb1; have hz1_0 : w.heap.size < w1.heap.size := lt_below hb1 ltg; have hl1_0 := Nat.le_of_lt hz1_0; have hA1 := bnext (w0 := w) bgo hb1; have hs1 := hA1.size; clear hb1)
      | (go_at_call 9; refine (c8 _).mono ?_; rintro r w2 ⟨rfl, hb2⟩; obtain ⟨hc2, hf2⟩ := bcell hb2; have hz2_0 : w.heap.size < w2.heap.size := lt_below hb2 ltg; have hl2_0 := Nat.le_of_lt hz2_0; have hA2 := bnext (w0 := w) bgo hb2; have hs2 := hA2.size; clear hb2)
      | (go_at_call 15; refine (c14 _).mono ?_; rintro r w3 ⟨rfl, rfl⟩)
      | (go_at_call 11; refine (c10 _).mono ?_; rintro r w3 ⟨rfl, rfl⟩)
      | (have := hA8; go_at_call 12; refine (c11q _ (hT.go bgo)).mono ?_; rintro r w9 ⟨rfl, hb9⟩; obtain ⟨hc9, hf9⟩ := bcell hb9; have hz9_0 : w.heap.size < w9.heap.size := lt_below hb9 ltg; have hl9_0 := Nat.le_of_lt hz9_0; have hz9_1 : w4.heap.size < w9.heap.size := lt_below hb9 ltg; have hl9_1 := Nat.le_of_lt hz9_1; have hz9_2 : w5.heap.size < w9.heap.size := lt_below hb9 ltg; have hl9_2 := Nat.le_of_lt hz9_2; have hz9_3 : w6.heap.size < w9.heap.size := lt_below hb9 ltg; have hl9_3 := Nat.le_of_lt hz9_3; have hz9_4 : w7.heap.size < w9.heap.size := lt_below hb9 ltg; have hl9_4 := Nat.le_of_lt hz9_4; have hz9_5 : w8.heap.size < w9.heap.size := lt_below hb9 ltg; have hl9_5 := Nat.le_of_lt hz9_5; have hA9 := bnext (w0 := w) bgo hb9; have hs9 := hA9.size; clear hb9)
      | (have := hA7; go_at_call 12; refine (c11p _ (hT.go bgo)).mono ?_; rintro r w8 ⟨rfl, hb8⟩; obtain ⟨hc8, hf8⟩ := bcell hb8; have hz8_0 : w.heap.size < w8.heap.size := lt_below hb8 ltg; have hl8_0 := Nat.le_of_lt hz8_0; have hz8_1 : w4.heap.size < w8.heap.size := lt_below hb8 ltg; have hl8_1 := Nat.le_of_lt hz8_1; have hz8_2 : w5.heap.size < w8.heap.size := lt_below hb8 ltg; have hl8_2 := Nat.le_of_lt hz8_2; have hz8_3 : w6.heap.size < w8.heap.size := lt_below hb8 ltg; have hl8_3 := Nat.le_of_lt hz8_3; have hz8_4 : w7.heap.size < w8.heap.size := lt_below hb8 ltg; have hl8_4 := Nat.le_of_lt hz8_4; have hA8 := bnext (w0 := w) bgo hb8; have hs8 := hA8.size; clear hb8)
      | (go_at_call 12; refine (c11 _ (hT.go bgo)).mono ?_; rintro r w4 ⟨rfl, hb4⟩; obtain ⟨hc4, hf4⟩ := bcell hb4; have hz4_0 : w.heap.size < w4.heap.size := lt_below hb4 ltg; have hl4_0 := Nat.le_of_lt hz4_0; have hA4 := bnext (w0 := w) bgo hb4; have hs4 := hA4.size; clear hb4)
      | (go_at_call 17; refine (c16 _ (hT.go bgo)).mono ?_; rintro r w5 ⟨rfl, hb5⟩; obtain ⟨hc5, hf5⟩ := bcell hb5; have hz5_0 : w.heap.size < w5.heap.size := lt_below hb5 ltg; have hl5_0 := Nat.le_of_lt hz5_0; have hz5_1 : w4.heap.size < w5.heap.size := lt_below hb5 ltg; have hl5_1 := Nat.le_of_lt hz5_1; have hA5 := bnext (w0 := w) bgo hb5; have hs5 := hA5.size; clear hb5)
      | (have := hA6; go_at_call 13; refine (c12b _ (hT.go bgo)).mono ?_; rintro r w7 ⟨rfl, hb7⟩; obtain ⟨hc7, hf7⟩ := bcell hb7; have hz7_0 : w.heap.size < w7.heap.size := lt_below hb7 ltg; have hl7_0 := Nat.le_of_lt hz7_0; have hz7_1 : w4.heap.size < w7.heap.size := lt_below hb7 ltg; have hl7_1 := Nat.le_of_lt hz7_1; have hz7_2 : w5.heap.size < w7.heap.size := lt_below hb7 ltg; have hl7_2 := Nat.le_of_lt hz7_2; have hz7_3 : w6.heap.size < w7.heap.size := lt_below hb7 ltg; have hl7_3 := Nat.le_of_lt hz7_3; have hA7 := bnext (w0 := w) bgo hb7; have hs7 := hA7.size; clear hb7)
      | (go_at_call 13; refine (c12 _ (hT.go bgo)).mono ?_; rintro r w6 ⟨rfl, hb6⟩; obtain ⟨hc6, hf6⟩ := bcell hb6; have hz6_0 : w.heap.size < w6.heap.size := lt_below hb6 ltg; have hl6_0 := Nat.le_of_lt hz6_0; have hz6_1 : w4.heap.size < w6.heap.size := lt_below hb6 ltg; have hl6_1 := Nat.le_of_lt hz6_1; have hz6_2 : w5.heap.size < w6.heap.size := lt_below hb6 ltg; have hl6_2 := Nat.le_of_lt hz6_2; have hA6 := bnext (w0 := w) bgo hb6; have hs6 := hA6.size; clear hb6))
    go_ret
    exact ⟨by first | rfl | simp, bgo⟩)
end
theorem oth_oth (d : Int) : othD (othD d) = d := by
  unfold othD
  by_cases h : d = 3 ∨ d = 4
  · rw [if_pos h, if_pos (by omega)]; omega
  · rw [if_neg h, if_neg h]
theorem binconvTurns_any (m t d : Int) (B : Nat) (w : World) (hT : Tab w) (hB : B < 2 ^ 256) : Calls Tryd.prog 7 #[.int .i64 m, .int .i64 t, .int .i64 d, A4 B] w fun r w' => r = .returned (.bool true) ∧ Below w.heap.size w w' := by
  have c7 := fun W (hW : Below w.heap.size w W) => awake12 W (hT.go hW)
  have c8 := fun W => rgood_any m B hB W
  have c14 : ∀ W, Calls Tryd.prog 15 #[.int .i64 t] W fun r w' => r = .returned (.bool (decide (binN t))) ∧ W = w' := fun W => (rbinary_any t W).mono fun r w' h => ⟨h.1, h.2.symm⟩
  have c10 := fun W => rdir12 d W
  by_cases h : cnG m t d B
  · obtain ⟨h1, h2, h3⟩ := id h
    rw [decide_eq_true h1] at c8
    rw [decide_eq_true h2] at c14
    rw [decide_eq_true h3] at c10
    have hi := und_is h1
    have hk := unD_k m B
    have c11 := fun W h => unpack_any m B W h hB
    rw [show unE m B = 0 from if_pos h1] at c11
    have c12 := fun W hh => conv_v m t d B W hh hB
    rw [show cnV m t d B = cvV t d (unD m B) from if_pos h, show cnF m t d B = cvF t d (unD m B) from if_pos h, show cnE m t d B = 0 from if_pos h] at c12
    generalize unD m B = D at *
    obtain ⟨c, s, g, x, k⟩ := D
    have hj : isD (fN m) (leastN m) (mostN m) ⟨c, !s, g, x, k⟩ := hi
    obtain ⟨p1, p2⟩ := pk_good h1.1 hj
    have h' : cnG m t (othD d) (pkV m ⟨c, !s, g, x, k⟩) := ⟨p1, h2, (kn_turn d).2 h3⟩
    have c12b := fun W hh => conv_v m t (othD d) (pkV m ⟨c, !s, g, x, k⟩) W hh (good_256 p1)
    rw [show cnV m t (othD d) (pkV m ⟨c, !s, g, x, k⟩) = cvV t (othD d) ⟨c, !s, g, x, k⟩ by unfold cnV; rw [if_pos h', p2], show cnF m t (othD d) (pkV m ⟨c, !s, g, x, k⟩) = cvF t (othD d) ⟨c, !s, g, x, k⟩ by unfold cnF; rw [if_pos h', p2], show cnE m t (othD d) (pkV m ⟨c, !s, g, x, k⟩) = 0 from if_pos h'] at c12b
    have c16 := fun W hh => pack_any m ⟨c, !s, g, x, k⟩ W hh hk
    cases s
    · obtain ⟨t1, t2, t3⟩ := cv_turn d h2 c g x k
      obtain ⟨u1, u2, c', g', x', k', u3, u4⟩ := un_turn h2 t3
      rw [show (!false) = true from rfl, t1, t2] at c12b
      have e1 := fun W hh => unpack_any t (cvV t d ⟨c, false, g, x, k⟩) W hh (good_256 u1)
      have e2 := fun W hh => unpack_any t (cvV t d ⟨c, false, g, x, k⟩ + 2 ^ (fN t + eN t)) W hh (good_256 u2)
      rw [show unE t (cvV t d ⟨c, false, g, x, k⟩) = 0 from if_pos u1, u3] at e1
      rw [show unE t (cvV t d ⟨c, false, g, x, k⟩ + 2 ^ (fN t + eN t)) = 0 from if_pos u2, u4] at e2
      exact turns_y m t d B w hT c7 c x c' x' false false g g' k k' _ _ _ _ _ _ rfl c8 c14 c10 c11 c16 c12 c12b e1 e2
    · obtain ⟨t1, t2, t3⟩ := cv_turn (othD d) h2 c g x k
      rw [oth_oth] at t1 t2
      obtain ⟨u1, u2, c', g', x', k', u3, u4⟩ := un_turn h2 t3
      rw [t1, t2] at c12
      have e1 := fun W hh => unpack_any t (cvV t (othD d) ⟨c, false, g, x, k⟩) W hh (good_256 u1)
      have e2 := fun W hh => unpack_any t (cvV t (othD d) ⟨c, false, g, x, k⟩ + 2 ^ (fN t + eN t)) W hh (good_256 u2)
      rw [show unE t (cvV t (othD d) ⟨c, false, g, x, k⟩) = 0 from if_pos u1, u3] at e1
      rw [show unE t (cvV t (othD d) ⟨c, false, g, x, k⟩ + 2 ^ (fN t + eN t)) = 0 from if_pos u2, u4] at e2
      exact turns_y m t d B w hT c7 c x c' x' true true g g' k k' _ _ _ _ _ _ rfl c8 c14 c10 c11 c16 c12 c12b e2 e1
  · refine turns_n m t d B w hT c7 _ _ _ ?_ c8 c14 c10
    by_cases a1 : goodN m B
    · by_cases a2 : binN t
      · have a3 : ¬ knB d := fun a3 => h ⟨a1, a2, a3⟩
        rw [decide_eq_false (p := knB d) a3, Bool.and_false]
      · rw [decide_eq_false (p := binN t) a2, Bool.and_false, Bool.false_and]
    · rw [decide_eq_false (p := goodN m B) a1, Bool.false_and, Bool.false_and]
end Go.Proofs.YtkefmapcaggefaaDoor
