/-
  Texts that the proof leans on, joined: Ci, Lai, Lift, Lfw, Lfd, Cx.
-/
import Derived.Test.YtkefmapcaggefaaDoorJ20
import Derived.Test.YtkefmapcaggefaaDoorJ1
import Derived.Test.YtkefmapcaggefaaDoorJ9
import Derived.Lib.SmallJoins
import Derived.ProofKit
import Derived.OpenShut
import Derived.Carry
import Derived.Deep.DeepHandedRow
import Derived.Test.YtkefmapcaggefaaDoorJ14
set_option linter.unusedVariables false
set_option linter.unusedSectionVars false
set_option linter.unusedSimpArgs false
set_option maxRecDepth 20000
namespace Go.Proofs.YtkefmapcaggefaaDoor
open Go.RowKit
attribute [local irreducible] W4

section
variable (m d : Int) (B : Nat) (w : World) (hT : Tab w)
  (c7 : ∀ W, Below w.heap.size w W → Calls Tryd.prog 8 #[] W fun r w' => r = .returned (.bool true) ∧ Below W.heap.size W w')
include hT c7
set_option maxHeartbeats 2000000 in
theorem self_n (b1 b3 : Bool) (hn : (b1 && b3) = false)
    (c8 : ∀ W, Calls Tryd.prog 9 #[.int .i64 m, A4 B] W fun r w' => r = .returned (.bool b1) ∧ Below W.heap.size W w')
    (c10 : ∀ W, Calls Tryd.prog 11 #[.int .i64 d] W fun r w' => r = .returned (.bool b3) ∧ W = w') :
    Calls Tryd.prog 5 #[.int .i64 m, .int .i64 d, A4 B] w fun r w' => r = .returned (.bool true) ∧ Below w.heap.size w w' := by
  cases b1 <;> cases b3 <;> simp only [Bool.and_self, Bool.and_true, Bool.and_false, Bool.true_and, Bool.false_and, Bool.true_eq_false] at hn
  all_goals (
    clear hn
    go_enter Tryd.func5, Tryd.ntmps5
    go_wp2_with (first
      | (have := hA2; go_at_call 8; refine (c7 _ bgo).mono ?_; rintro r w4 ⟨rfl, hb4⟩; obtain ⟨hc4, hf4⟩ := bcell hb4; have hz4_0 : w.heap.size < w4.heap.size := lt_below hb4 ltg; have hl4_0 := Nat.le_of_lt hz4_0; have hA4 := bnext (w0 := w) bgo hb4; have hs4 := hA4.size; clear hb4)
      | (go_at_call 8; refine (c7 _ bgo).mono ?_; rintro r w1 ⟨rfl, hb1⟩; obtain ⟨hc1, hf1⟩ := bcell hb1; have hz1_0 : w.heap.size < w1.heap.size := lt_below hb1 ltg; have hl1_0 := Nat.le_of_lt hz1_0; have hA1 := bnext (w0 := w) bgo hb1; have hs1 := hA1.size; clear hb1)
      | (go_at_call 9; refine (c8 _).mono ?_; rintro r w2 ⟨rfl, hb2⟩; obtain ⟨hc2, hf2⟩ := bcell hb2; have hz2_0 : w.heap.size < w2.heap.size := lt_below hb2 ltg; have hl2_0 := Nat.le_of_lt hz2_0; have hA2 := bnext (w0 := w) bgo hb2; have hs2 := hA2.size; clear hb2)
      | (go_at_call 11; refine (c10 _).mono ?_; rintro r w3 ⟨rfl, rfl⟩))
    go_ret
    exact ⟨rfl, bgo⟩)
variable (c x : Int) (s : Bool) (k : Nat)
    (c8 : ∀ W, Calls Tryd.prog 9 #[.int .i64 m, A4 B] W fun r w' => r = .returned (.bool true) ∧ Below W.heap.size W w')
    (c10 : ∀ W, Calls Tryd.prog 11 #[.int .i64 d] W fun r w' => r = .returned (.bool true) ∧ W = w')
include c8 c10
set_option maxHeartbeats 2000000 in
theorem self_y
    (c12 : ∀ W, Tab W → Calls Tryd.prog 13 #[.int .i64 m, .int .i64 m, .int .i64 d, A4 B] W fun r w' => r = .returned (.tuple #[A4 B, .int .i64 0, .int .i64 0]) ∧ Below W.heap.size W w')
    (c11 : ∀ W, Tab W → Calls Tryd.prog 12 #[.int .i64 m, A4 B] W fun r w' => r = .returned (.tuple #[DV c s false x k, .int .i64 0]) ∧ Below W.heap.size W w') :
    Calls Tryd.prog 5 #[.int .i64 m, .int .i64 d, A4 B] w fun r w' => r = .returned (.bool true) ∧ Below w.heap.size w w' := by
  have hQ := A4_self B
  go_enter Tryd.func5, Tryd.ntmps5
  go_wp2_with (first
    | (go_at_call 8; refine (c7 _ bgo).mono ?_; rintro r w1 ⟨rfl, hb1⟩; obtain ⟨hc1, hf1⟩ := bcell hb1; have hz1_0 : w.heap.size < w1.heap.size := lt_below hb1 ltg; have hl1_0 := Nat.le_of_lt hz1_0; have hA1 := bnext (w0 := w) bgo hb1; have hs1 := hA1.size; clear hb1)
    | (go_at_call 9; refine (c8 _).mono ?_; rintro r w2 ⟨rfl, hb2⟩; obtain ⟨hc2, hf2⟩ := bcell hb2; have hz2_0 : w.heap.size < w2.heap.size := lt_below hb2 ltg; have hl2_0 := Nat.le_of_lt hz2_0; have hA2 := bnext (w0 := w) bgo hb2; have hs2 := hA2.size; clear hb2)
    | (go_at_call 11; refine (c10 _).mono ?_; rintro r w3 ⟨rfl, rfl⟩)
    | (go_at_call 13; refine (c12 _ (hT.go bgo)).mono ?_; rintro r w4 ⟨rfl, hb4⟩; obtain ⟨hc4, hf4⟩ := bcell hb4; have hz4_0 : w.heap.size < w4.heap.size := lt_below hb4 ltg; have hl4_0 := Nat.le_of_lt hz4_0; have hA4 := bnext (w0 := w) bgo hb4; have hs4 := hA4.size; clear hb4)
    | (go_at_call 12; refine (c11 _ (hT.go bgo)).mono ?_; rintro r w5 ⟨rfl, hb5⟩; obtain ⟨hc5, hf5⟩ := bcell hb5; have hz5_0 : w.heap.size < w5.heap.size := lt_below hb5 ltg; have hl5_0 := Nat.le_of_lt hz5_0; have hz5_1 : w4.heap.size < w5.heap.size := lt_below hb5 ltg; have hl5_1 := Nat.le_of_lt hz5_1; have hA5 := bnext (w0 := w) bgo hb5; have hs5 := hA5.size; clear hb5))
  go_ret
  exact ⟨by first | rfl | simp, bgo⟩
set_option maxHeartbeats 2000000 in
theorem self_q (Q : Nat) (E : Int)
    (c12 : ∀ W, Tab W → Calls Tryd.prog 13 #[.int .i64 m, .int .i64 m, .int .i64 d, A4 B] W fun r w' => r = .returned (.tuple #[A4 Q, .int .i64 1, .int .i64 0]) ∧ Below W.heap.size W w')
    (c11 : ∀ W, Tab W → Calls Tryd.prog 12 #[.int .i64 m, A4 B] W fun r w' => r = .returned (.tuple #[DV c s true x k, .int .i64 0]) ∧ Below W.heap.size W w')
    (c13 : ∀ W, Tab W → Calls Tryd.prog 14 #[.int .i64 m, A4 B] W fun r w' => r = .returned (.tuple #[A4 Q, .int .i64 E]) ∧ Below W.heap.size W w') :
    Calls Tryd.prog 5 #[.int .i64 m, .int .i64 d, A4 B] w fun r w' => r = .returned (.bool true) ∧ Below w.heap.size w w' := by
  have hQ := A4_self Q
  go_enter Tryd.func5, Tryd.ntmps5
  go_wp2_with (first
    | (go_at_call 8; refine (c7 _ bgo).mono ?_; rintro r w1 ⟨rfl, hb1⟩; obtain ⟨hc1, hf1⟩ := bcell hb1; have hz1_0 : w.heap.size < w1.heap.size := lt_below hb1 ltg; have hl1_0 := Nat.le_of_lt hz1_0; have hA1 := bnext (w0 := w) bgo hb1; have hs1 := hA1.size; clear hb1)
    | (go_at_call 9; refine (c8 _).mono ?_; rintro r w2 ⟨rfl, hb2⟩; obtain ⟨hc2, hf2⟩ := bcell hb2; have hz2_0 : w.heap.size < w2.heap.size := lt_below hb2 ltg; have hl2_0 := Nat.le_of_lt hz2_0; have hA2 := bnext (w0 := w) bgo hb2; have hs2 := hA2.size; clear hb2)
    | (go_at_call 11; refine (c10 _).mono ?_; rintro r w3 ⟨rfl, rfl⟩)
    | (go_at_call 13; refine (c12 _ (hT.go bgo)).mono ?_; rintro r w4 ⟨rfl, hb4⟩; obtain ⟨hc4, hf4⟩ := bcell hb4; have hz4_0 : w.heap.size < w4.heap.size := lt_below hb4 ltg; have hl4_0 := Nat.le_of_lt hz4_0; have hA4 := bnext (w0 := w) bgo hb4; have hs4 := hA4.size; clear hb4)
    | (go_at_call 12; refine (c11 _ (hT.go bgo)).mono ?_; rintro r w5 ⟨rfl, hb5⟩; obtain ⟨hc5, hf5⟩ := bcell hb5; have hz5_0 : w.heap.size < w5.heap.size := lt_below hb5 ltg; have hl5_0 := Nat.le_of_lt hz5_0; have hz5_1 : w4.heap.size < w5.heap.size := lt_below hb5 ltg; have hl5_1 := Nat.le_of_lt hz5_1; have hA5 := bnext (w0 := w) bgo hb5; have hs5 := hA5.size; clear hb5)
    | (go_at_call 14; refine (c13 _ (hT.go bgo)).mono ?_; rintro r w6 ⟨rfl, hb6⟩; obtain ⟨hc6, hf6⟩ := bcell hb6; have hz6_0 : w.heap.size < w6.heap.size := lt_below hb6 ltg; have hl6_0 := Nat.le_of_lt hz6_0; have hz6_1 : w4.heap.size < w6.heap.size := lt_below hb6 ltg; have hl6_1 := Nat.le_of_lt hz6_1; have hz6_2 : w5.heap.size < w6.heap.size := lt_below hb6 ltg; have hl6_2 := Nat.le_of_lt hz6_2; have hA6 := bnext (w0 := w) bgo hb6; have hs6 := hA6.size; clear hb6))
  go_ret
  exact ⟨by first | rfl | simp, bgo⟩
end
theorem binconvSelf_any (m d : Int) (B : Nat) (w : World) (hT : Tab w) (hB : B < 2 ^ 256) : Calls Tryd.prog 5 #[.int .i64 m, .int .i64 d, A4 B] w fun r w' => r = .returned (.bool true) ∧ Below w.heap.size w w' := by
  have c7 := fun W (hW : Below w.heap.size w W) => awake12 W (hT.go hW)
  have c8 := fun W => rgood_any m B hB W
  have c10 := fun W => rdir12 d W
  by_cases h : goodN m B ∧ knB d
  · obtain ⟨h1, h3⟩ := h
    rw [decide_eq_true h1] at c8
    rw [decide_eq_true h3] at c10
    have hc : cnG m m d B := ⟨h1, h1.1, h3⟩
    obtain ⟨v1, v2⟩ := cv_self h1.1 (und_is h1) d
    obtain ⟨q1, q2, q3⟩ := qu_self h1
    have eV : cnV m m d B = quV m B := by unfold cnV; rw [if_pos hc, v1, q1]
    have eF : cnF m m d B = if (unD m B).g then 1 else 0 := by unfold cnF; rw [if_pos hc, v2]
    have eE : cnE m m d B = 0 := by unfold cnE; rw [if_pos hc]
    have c12 := fun W h => conv_v m m d B W h hB
    rw [eV, eF, eE] at c12
    have c11 : ∀ W, Tab W → Calls Tryd.prog 12 #[.int .i64 m, A4 B] W fun r w' => r = .returned (.tuple #[DV (unD m B).c (unD m B).s (unD m B).g (unD m B).x (unD m B).k, .int .i64 0]) ∧ Below W.heap.size W w' := fun W h => by
      have := unpack_any m B W h hB
      rw [show unE m B = 0 from if_pos h1] at this
      exact this
    by_cases hg : (unD m B).g = true
    · rw [hg] at c11
      simp only [hg, if_true] at c12
      exact self_q m d B w hT c7 _ _ _ _ c8 c10 _ _ c12 c11 (fun W h => qu_any m B W h hB)
    · have hg' : (unD m B).g = false := by simpa using hg
      rw [hg'] at c11
      simp only [hg', Bool.false_eq_true, if_false] at c12
      rw [q3 hg'] at c12
      exact self_y m d B w hT c7 _ _ _ _ c8 c10 c12 c11
  · refine self_n m d B w hT c7 _ _ ?_ c8 c10
    by_cases a1 : goodN m B
    · rw [decide_eq_false (fun a3 => h ⟨a1, a3⟩), Bool.and_false]
    · rw [decide_eq_false a1, Bool.false_and]
section
variable (m n d e : Int) (B : Nat) (w : World) (hT : Tab w)
  (c7 : ∀ W, Below w.heap.size w W → Calls Tryd.prog 8 #[] W fun r w' => r = .returned (.bool true) ∧ Below W.heap.size W w')
include hT c7
set_option maxHeartbeats 2000000 in
theorem widens_n (b1 b2 b3 b4 : Bool) (hn : (b1 && b2 && b3 && b4) = false)
    (c8 : ∀ W, Calls Tryd.prog 9 #[.int .i64 m, A4 B] W fun r w' => r = .returned (.bool b1) ∧ Below W.heap.size W w')
    (c9 : ∀ W, Calls Tryd.prog 10 #[.int .i64 m, .int .i64 n] W fun r w' => r = .returned (.bool b2) ∧ Below W.heap.size W w')
    (c10 : ∀ W, Calls Tryd.prog 11 #[.int .i64 d] W fun r w' => r = .returned (.bool b3) ∧ W = w')
    (c10b : ∀ W, Calls Tryd.prog 11 #[.int .i64 e] W fun r w' => r = .returned (.bool b4) ∧ W = w') :
    Calls Tryd.prog 3 #[.int .i64 m, .int .i64 n, .int .i64 d, .int .i64 e, A4 B] w fun r w' => r = .returned (.bool true) ∧ Below w.heap.size w w' := by
  cases b1 <;> cases b2 <;> cases b3 <;> cases b4 <;> simp only [Bool.and_self, Bool.and_true, Bool.and_false, Bool.true_and, Bool.false_and, Bool.true_eq_false] at hn
  all_goals (
    clear hn
    go_enter Tryd.func3, Tryd.ntmps3
    go_wp2_with (first
      | (go_at_call 8; refine (c7 _ bgo).mono ?_; rintro r w1 ⟨rfl, hb1⟩; obtain ⟨hc1, hf1⟩ := bcell hb1; have hz1_0 : w.heap.size < w1.heap.size := lt_below hb1 ltg; have hl1_0 := Nat.le_of_lt hz1_0; have hA1 := bnext (w0 := w) bgo hb1; have hs1 := hA1.size; clear hb1)
      | (go_at_call 9; refine (c8 _).mono ?_; rintro r w2 ⟨rfl, hb2⟩; obtain ⟨hc2, hf2⟩ := bcell hb2; have hz2_0 : w.heap.size < w2.heap.size := lt_below hb2 ltg; have hl2_0 := Nat.le_of_lt hz2_0; have hA2 := bnext (w0 := w) bgo hb2; have hs2 := hA2.size; clear hb2)
      | (go_at_call 10; refine (c9 _).mono ?_; rintro r w3 ⟨rfl, hb3⟩; obtain ⟨hc3, hf3⟩ := bcell hb3; have hz3_0 : w.heap.size < w3.heap.size := lt_below hb3 ltg; have hl3_0 := Nat.le_of_lt hz3_0; have hA3 := bnext (w0 := w) bgo hb3; have hs3 := hA3.size; clear hb3)
      | (go_at_call 11; refine (c10 _).mono ?_; rintro r w4 ⟨rfl, rfl⟩)
      | (go_at_call 11; refine (c10b _).mono ?_; rintro r w4 ⟨rfl, rfl⟩))
    go_ret
    exact ⟨rfl, bgo⟩)
variable (c x : Int) (s : Bool) (k V : Nat)
    (c8 : ∀ W, Calls Tryd.prog 9 #[.int .i64 m, A4 B] W fun r w' => r = .returned (.bool true) ∧ Below W.heap.size W w')
    (c9 : ∀ W, Calls Tryd.prog 10 #[.int .i64 m, .int .i64 n] W fun r w' => r = .returned (.bool true) ∧ Below W.heap.size W w')
    (c10 : ∀ W, Calls Tryd.prog 11 #[.int .i64 d] W fun r w' => r = .returned (.bool true) ∧ W = w')
    (c10b : ∀ W, Calls Tryd.prog 11 #[.int .i64 e] W fun r w' => r = .returned (.bool true) ∧ W = w')
include c8 c9 c10 c10b
set_option maxHeartbeats 4000000 in
theorem widens_y
    (c12 : ∀ W, Tab W → Calls Tryd.prog 13 #[.int .i64 m, .int .i64 n, .int .i64 d, A4 B] W fun r w' => r = .returned (.tuple #[A4 V, .int .i64 0, .int .i64 0]) ∧ Below W.heap.size W w')
    (c12b : ∀ W, Tab W → Calls Tryd.prog 13 #[.int .i64 n, .int .i64 m, .int .i64 e, A4 V] W fun r w' => r = .returned (.tuple #[A4 B, .int .i64 0, .int .i64 0]) ∧ Below W.heap.size W w')
    (c11 : ∀ W, Tab W → Calls Tryd.prog 12 #[.int .i64 m, A4 B] W fun r w' => r = .returned (.tuple #[DV c s false x k, .int .i64 0]) ∧ Below W.heap.size W w') :
    Calls Tryd.prog 3 #[.int .i64 m, .int .i64 n, .int .i64 d, .int .i64 e, A4 B] w fun r w' => r = .returned (.bool true) ∧ Below w.heap.size w w' := by
  have hQ := A4_self B
  go_enter Tryd.func3, Tryd.ntmps3
  go_wp2_with (first
    | (go_at_call 8; refine (c7 _ bgo).mono ?_; rintro r w1 ⟨rfl, hb1⟩; obtain ⟨hc1, hf1⟩ := bcell hb1; have hz1_0 : w.heap.size < w1.heap.size := lt_below hb1 ltg; have hl1_0 := Nat.le_of_lt hz1_0; have hA1 := bnext (w0 := w) bgo hb1; have hs1 := hA1.size; clear hb1)
    | (go_at_call 9; refine (c8 _).mono ?_; rintro r w2 ⟨rfl, hb2⟩; obtain ⟨hc2, hf2⟩ := bcell hb2; have hz2_0 : w.heap.size < w2.heap.size := lt_below hb2 ltg; have hl2_0 := Nat.le_of_lt hz2_0; have hA2 := bnext (w0 := w) bgo hb2; have hs2 := hA2.size; clear hb2)
    | (go_at_call 10; refine (c9 _).mono ?_; rintro r w3 ⟨rfl, hb3⟩; obtain ⟨hc3, hf3⟩ := bcell hb3; have hz3_0 : w.heap.size < w3.heap.size := lt_below hb3 ltg; have hl3_0 := Nat.le_of_lt hz3_0; have hA3 := bnext (w0 := w) bgo hb3; have hs3 := hA3.size; clear hb3)
    | (go_at_call 11; refine (c10 _).mono ?_; rintro r w4 ⟨rfl, rfl⟩)
    | (go_at_call 11; refine (c10b _).mono ?_; rintro r w4 ⟨rfl, rfl⟩)
    | (go_at_call 12; refine (c11 _ (hT.go bgo)).mono ?_; rintro r w5 ⟨rfl, hb5⟩; obtain ⟨hc5, hf5⟩ := bcell hb5; have hz5_0 : w.heap.size < w5.heap.size := lt_below hb5 ltg; have hl5_0 := Nat.le_of_lt hz5_0; have hA5 := bnext (w0 := w) bgo hb5; have hs5 := hA5.size; clear hb5)
    | (have := hA6; go_at_call 13; refine (c12b _ (hT.go bgo)).mono ?_; rintro r w7 ⟨rfl, hb7⟩; obtain ⟨hc7, hf7⟩ := bcell hb7; have hz7_0 : w.heap.size < w7.heap.size := lt_below hb7 ltg; have hl7_0 := Nat.le_of_lt hz7_0; have hz7_1 : w5.heap.size < w7.heap.size := lt_below hb7 ltg; have hl7_1 := Nat.le_of_lt hz7_1; have hz7_2 : w6.heap.size < w7.heap.size := lt_below hb7 ltg; have hl7_2 := Nat.le_of_lt hz7_2; have hA7 := bnext (w0 := w) bgo hb7; have hs7 := hA7.size; clear hb7)
    | (go_at_call 13; refine (c12 _ (hT.go bgo)).mono ?_; rintro r w6 ⟨rfl, hb6⟩; obtain ⟨hc6, hf6⟩ := bcell hb6; have hz6_0 : w.heap.size < w6.heap.size := lt_below hb6 ltg; have hl6_0 := Nat.le_of_lt hz6_0; have hz6_1 : w5.heap.size < w6.heap.size := lt_below hb6 ltg; have hl6_1 := Nat.le_of_lt hz6_1; have hA6 := bnext (w0 := w) bgo hb6; have hs6 := hA6.size; clear hb6))
  go_ret
  exact ⟨by first | rfl | simp, bgo⟩
set_option maxHeartbeats 4000000 in
theorem widens_q (Q : Nat) (E : Int)
    (c12 : ∀ W, Tab W → Calls Tryd.prog 13 #[.int .i64 m, .int .i64 n, .int .i64 d, A4 B] W fun r w' => r = .returned (.tuple #[A4 V, .int .i64 1, .int .i64 0]) ∧ Below W.heap.size W w')
    (c12b : ∀ W, Tab W → Calls Tryd.prog 13 #[.int .i64 n, .int .i64 m, .int .i64 e, A4 V] W fun r w' => r = .returned (.tuple #[A4 Q, .int .i64 0, .int .i64 0]) ∧ Below W.heap.size W w')
    (c11 : ∀ W, Tab W → Calls Tryd.prog 12 #[.int .i64 m, A4 B] W fun r w' => r = .returned (.tuple #[DV c s true x k, .int .i64 0]) ∧ Below W.heap.size W w')
    (c13 : ∀ W, Tab W → Calls Tryd.prog 14 #[.int .i64 m, A4 B] W fun r w' => r = .returned (.tuple #[A4 Q, .int .i64 E]) ∧ Below W.heap.size W w') :
    Calls Tryd.prog 3 #[.int .i64 m, .int .i64 n, .int .i64 d, .int .i64 e, A4 B] w fun r w' => r = .returned (.bool true) ∧ Below w.heap.size w w' := by
  have hQ := A4_self Q
  have hsm := cell_set_map
  go_enter Tryd.func3, Tryd.ntmps3
  go_wp2_with (first
    | (go_at_call 8; refine (c7 _ bgo).mono ?_; rintro r w1 ⟨rfl, hb1⟩; obtain ⟨hc1, hf1⟩ := bcell hb1; have hz1_0 : w.heap.size < w1.heap.size := lt_below hb1 ltg; have hl1_0 := Nat.le_of_lt hz1_0; have hA1 := bnext (w0 := w) bgo hb1; have hs1 := hA1.size; clear hb1)
    | (go_at_call 9; refine (c8 _).mono ?_; rintro r w2 ⟨rfl, hb2⟩; obtain ⟨hc2, hf2⟩ := bcell hb2; have hz2_0 : w.heap.size < w2.heap.size := lt_below hb2 ltg; have hl2_0 := Nat.le_of_lt hz2_0; have hA2 := bnext (w0 := w) bgo hb2; have hs2 := hA2.size; clear hb2)
    | (go_at_call 10; refine (c9 _).mono ?_; rintro r w3 ⟨rfl, hb3⟩; obtain ⟨hc3, hf3⟩ := bcell hb3; have hz3_0 : w.heap.size < w3.heap.size := lt_below hb3 ltg; have hl3_0 := Nat.le_of_lt hz3_0; have hA3 := bnext (w0 := w) bgo hb3; have hs3 := hA3.size; clear hb3)
    | (go_at_call 11; refine (c10 _).mono ?_; rintro r w4 ⟨rfl, rfl⟩)
    | (go_at_call 11; refine (c10b _).mono ?_; rintro r w4 ⟨rfl, rfl⟩)
    | (go_at_call 12; refine (c11 _ (hT.go bgo)).mono ?_; rintro r w5 ⟨rfl, hb5⟩; obtain ⟨hc5, hf5⟩ := bcell hb5; have hz5_0 : w.heap.size < w5.heap.size := lt_below hb5 ltg; have hl5_0 := Nat.le_of_lt hz5_0; have hA5 := bnext (w0 := w) bgo hb5; have hs5 := hA5.size; clear hb5)
    | (have := hA6; go_at_call 13; refine (c12b _ (hT.go bgo)).mono ?_; rintro r w7 ⟨rfl, hb7⟩; obtain ⟨hc7, hf7⟩ := bcell hb7; have hz7_0 : w.heap.size < w7.heap.size := lt_below hb7 ltg; have hl7_0 := Nat.le_of_lt hz7_0; have hz7_1 : w5.heap.size < w7.heap.size := lt_below hb7 ltg; have hl7_1 := Nat.le_of_lt hz7_1; have hz7_2 : w6.heap.size < w7.heap.size := lt_below hb7 ltg; have hl7_2 := Nat.le_of_lt hz7_2; have hA7 := bnext (w0 := w) bgo hb7; have hs7 := hA7.size; clear hb7)
    | (go_at_call 13; refine (c12 _ (hT.go bgo)).mono ?_; rintro r w6 ⟨rfl, hb6⟩; obtain ⟨hc6, hf6⟩ := bcell hb6; have hz6_0 : w.heap.size < w6.heap.size := lt_below hb6 ltg; have hl6_0 := Nat.le_of_lt hz6_0; have hz6_1 : w5.heap.size < w6.heap.size := lt_below hb6 ltg; have hl6_1 := Nat.le_of_lt hz6_1; have hA6 := bnext (w0 := w) bgo hb6; have hs6 := hA6.size; clear hb6)
    | (go_at_call 14; refine (c13 _ (hT.go bgo)).mono ?_; rintro r w8 ⟨rfl, hb8⟩; obtain ⟨hc8, hf8⟩ := bcell hb8; have hz8_0 : w.heap.size < w8.heap.size := lt_below hb8 ltg; have hl8_0 := Nat.le_of_lt hz8_0; have hz8_1 : w5.heap.size < w8.heap.size := lt_below hb8 ltg; have hl8_1 := Nat.le_of_lt hz8_1; have hz8_2 : w6.heap.size < w8.heap.size := lt_below hb8 ltg; have hl8_2 := Nat.le_of_lt hz8_2; have hz8_3 : w7.heap.size < w8.heap.size := lt_below hb8 ltg; have hl8_3 := Nat.le_of_lt hz8_3; have hA8 := bnext (w0 := w) bgo hb8; have hs8 := hA8.size; clear hb8))
  go_ret
  exact ⟨by first | rfl | simp, bgo⟩
end
theorem binconvWidens_any (m n d e : Int) (B : Nat) (w : World) (hT : Tab w) (hB : B < 2 ^ 256) : Calls Tryd.prog 3 #[.int .i64 m, .int .i64 n, .int .i64 d, .int .i64 e, A4 B] w fun r w' => r = .returned (.bool true) ∧ Below w.heap.size w w' := by
  have c7 := fun W (hW : Below w.heap.size w W) => awake12 W (hT.go hW)
  have c8 := fun W => rgood_any m B hB W
  have c9 := fun W => rholds_v m n W
  have c10 := fun W => rdir12 d W
  have c10b := fun W => rdir12 e W
  by_cases h : goodN m B ∧ holdsP m n ∧ knB d ∧ knB e
  · obtain ⟨h1, h2, h3, h4⟩ := h
    rw [decide_eq_true h1] at c8
    rw [decide_eq_true h2] at c9
    rw [decide_eq_true h3] at c10
    rw [decide_eq_true h4] at c10b
    have hn := hold_bin h1.1 h2
    have hc : cnG m n d B := ⟨h1, hn, h3⟩
    obtain ⟨D', i1, i2, i3, i4⟩ := cv_widen h1.1 h2 (und_is h1) d
    obtain ⟨g1, g2⟩ := pk_good hn i1
    obtain ⟨v1, v2⟩ := cv_self h1.1 (und_is h1) e
    obtain ⟨q1, q2, q3⟩ := qu_self h1
    obtain ⟨j1, j2⟩ := i4 m e
    have hc' : cnG n m e (pkV n D') := ⟨g1, h1.1, h4⟩
    have c12 := fun W h => conv_v m n d B W h hB
    have c12b := fun W h => conv_v n m e (pkV n D') W h (good_256 g1)
    rw [show cnV m n d B = pkV n D' by unfold cnV; rw [if_pos hc, i2], show cnF m n d B = if (unD m B).g then 1 else 0 by unfold cnF; rw [if_pos hc, i3], show cnE m n d B = 0 from if_pos hc] at c12
    rw [show cnV n m e (pkV n D') = quV m B by unfold cnV; rw [if_pos hc', g2, j1, v1, q1], show cnF n m e (pkV n D') = 0 by unfold cnF; rw [if_pos hc', g2, j2, v2]; split <;> rfl, show cnE n m e (pkV n D') = 0 from if_pos hc'] at c12b
    have c11 : ∀ W, Tab W → Calls Tryd.prog 12 #[.int .i64 m, A4 B] W fun r w' => r = .returned (.tuple #[DV (unD m B).c (unD m B).s (unD m B).g (unD m B).x (unD m B).k, .int .i64 0]) ∧ Below W.heap.size W w' := fun W h => by
      have := unpack_any m B W h hB
      rw [show unE m B = 0 from if_pos h1] at this
      exact this
    by_cases hg : (unD m B).g = true
    · rw [hg] at c11
      simp only [hg, if_true] at c12
      exact widens_q m n d e B w hT c7 _ _ _ _ _ c8 c9 c10 c10b _ _ c12 c12b c11 (fun W h => qu_any m B W h hB)
    · have hg' : (unD m B).g = false := by simpa using hg
      rw [hg'] at c11
      simp only [hg', Bool.false_eq_true, if_false] at c12
      rw [q3 hg'] at c12b
      exact widens_y m n d e B w hT c7 _ _ _ _ _ c8 c9 c10 c10b c12 c12b c11
  · refine widens_n m n d e B w hT c7 _ _ _ _ ?_ c8 c9 c10 c10b
    by_cases a1 : goodN m B
    · by_cases a2 : holdsP m n
      · by_cases a3 : knB d
        · rw [decide_eq_false (p := knB e) (fun a4 => h ⟨a1, a2, a3, a4⟩), Bool.and_false]
        · rw [decide_eq_false (p := knB d) a3, Bool.and_false, Bool.false_and]
      · rw [decide_eq_false (p := holdsP m n) a2, Bool.and_false, Bool.false_and, Bool.false_and]
    · rw [decide_eq_false (p := goodN m B) a1, Bool.false_and, Bool.false_and, Bool.false_and]
end Go.Proofs.YtkefmapcaggefaaDoor

namespace Go.Proofs.YtkefmapcaggefaaDoor
open Go.RowKit

section
variable {H : Type} {enc : TypeId × Value → H} {W : World} {base : Nat} {sp : Nat → Bool} {held : Bool}
theorem u59 : ∃ a b c d, Tryd.prog.underlying 77 = some (.struct #[a, b, c, d]) ∧ a.offset = 0 ∧ b.offset = 1 ∧ c.offset = 2 ∧ d.offset = 3 ∧ a.type = 9 ∧ b.type = 3 ∧ c.type = 3 ∧ d.type = 3 :=
  ⟨_, _, _, _, Tryd.underlying77, rfl, rfl, rfl, rfl, rfl, rfl, rfl, rfl⟩
theorem c9 : Tryd.prog.cellsOf 9 = 1 := by kernel_rfl
theorem c3 : Tryd.prog.cellsOf 3 = 1 := by kernel_rfl
theorem c59 : Tryd.prog.cellsOf 77 = 4 := by kernel_rfl
theorem c60 : Tryd.prog.cellsOf 78 = 48 := by kernel_rfl
theorem u60 : Tryd.prog.underlying 78 = some (.array 12 77) := by kernel_rfl
theorem row_cells {fuel : Nat} {cs : List Value} {nm : List UInt8} {a b c : Int} {p : DataW H × List MemPlace} (hp : p.1 = .agg [.lit (.string nm), .lit (.int .i64 a), .lit (.int .i64 b), .lit (.int .i64 c)])
    (h : DataW.trod enc Tryd.prog W base sp held fuel 77 cs = some p) : cs = [.string ⟨nm.toArray⟩, .int .i64 a, .int .i64 b, .int .i64 c] := by
  obtain ⟨f0, f1, f2, f3, hu, o0, o1, o2, o3, t0, t1, t2, t3⟩ := u59
  obtain ⟨y0, y1, y2, y3, n, rfl, hl, h0, h1, h2, h3⟩ := Joins.trod_struct4 hu h
  rw [o0, t0, c9] at h0
  rw [o1, t1, c3] at h1
  rw [o2, t2, c3] at h2
  rw [o3, t3, c3] at h3
  obtain ⟨s, hs, rfl, _⟩ := DataW.trod_string Tryd.underlying9 h0
  obtain ⟨z1, hz1, rfl, _⟩ := DataW.trod_int Tryd.underlying3 h1
  obtain ⟨z2, hz2, rfl, _⟩ := DataW.trod_int Tryd.underlying3 h2
  obtain ⟨z3, hz3, rfl, _⟩ := DataW.trod_int Tryd.underlying3 h3
  simp only [DataW.agg.injEq, List.cons.injEq, DataW.lit.injEq, Lit.string.injEq, Lit.int.injEq, true_and, and_true] at hp
  obtain ⟨rfl, rfl, rfl, rfl⟩ := hp
  rw [c59] at hl
  match cs, hl with
  | [v0, v1, v2, v3], _ =>
    simp at hs hz1 hz2 hz3
    subst hs hz1 hz2 hz3
    rfl
theorem row_at {cs : List Value} {i : Nat} {v0 v1 v2 v3 : Value} (h : (cs.drop (i * 4)).take 4 = [v0, v1, v2, v3]) : cs[i * 4]? = some v0 ∧ cs[i * 4 + 1]? = some v1 ∧ cs[i * 4 + 2]? = some v2 ∧ cs[i * 4 + 3]? = some v3 := by
  have g : ∀ k, k < 4 → cs[i * 4 + k]? = [v0, v1, v2, v3][k]? := fun k hk => by
    rw [← h, List.getElem?_take_of_lt hk, List.getElem?_drop]
  exact ⟨g 0 (by decide), g 1 (by decide), g 2 (by decide), g 3 (by decide)⟩
theorem tab_of_trod {fuel : Nat} {cs : List Value} {p : List MemPlace} (h : DataW.trod enc Tryd.prog W base sp held fuel 78 cs = some (Rows.laid_caliper_desc_rows, p)) :
    ∀ i k, i < 12 → k < 4 → cs[i * 4 + k]? = some (rowV i k) := by
  cases fuel with
  | zero => simp [DataW.trod] at h
  | succ fuel =>
    simp only [DataW.trod, u60, c59, c60] at h
    split at h
    · rename_i hl
      obtain ⟨xs, hm, hx⟩ := Option.map_eq_some_iff.1 h
      have hxs := congrArg Prod.fst hx
      simp only [Rows.laid_caliper_desc_rows, DataW.agg.injEq] at hxs
      intro i k hi hk
      obtain ⟨b, hb, hf⟩ := Lib.mapM_at hm i i (by simp [hi])
      have hd : (xs.map (·.1))[i]? = some b.1 := by simp [hb]
      rw [hxs] at hd
      have key : ∀ (nm : List UInt8) (x y z : Int), b.1 = .agg [.lit (.string nm), .lit (.int .i64 x), .lit (.int .i64 y), .lit (.int .i64 z)] → cs[i * 4]? = some (.string ⟨nm.toArray⟩) ∧ cs[i * 4 + 1]? = some (.int .i64 x) ∧ cs[i * 4 + 2]? = some (.int .i64 y) ∧ cs[i * 4 + 3]? = some (.int .i64 z) :=
        fun nm x y z e => row_at (row_cells e hf)
      have hk' : k = 0 ∨ k = 1 ∨ k = 2 ∨ k = 3 := by omega
      have hi' : i = 0 ∨ i = 1 ∨ i = 2 ∨ i = 3 ∨ i = 4 ∨ i = 5 ∨ i = 6 ∨ i = 7 ∨ i = 8 ∨ i = 9 ∨ i = 10 ∨ i = 11 := by omega
      rcases hi' with rfl | rfl | rfl | rfl | rfl | rfl | rfl | rfl | rfl | rfl | rfl | rfl
      all_goals
        obtain ⟨q0, q1, q2, q3⟩ := key _ _ _ _ (Option.some.inj hd).symm
        rcases hk' with rfl | rfl | rfl | rfl
        · exact q0
        · exact q1
        · exact q2
        · exact q3
    · cases h
end
theorem tab_of_laid {W : World} {rest : List (String × DataW Unit)} (h : laidMet Tryd.prog (("caliper/desc.rows", Rows.laid_caliper_desc_rows) :: rest) W) : Tab W := by
  obtain ⟨ps, ⟨g', t', cs, fuel, p, q, hg', ht', hvar, hd, _, _⟩, _⟩ := h
  have hg : Tryd.prog.globalNamed "caliper/desc.rows" = some 0 := by kernel_rfl
  have hty : (Tryd.prog.globals[0]?).map (·.type) = some 78 := by kernel_rfl
  obtain rfl := Option.some.inj (hg.symm.trans hg')
  obtain rfl := Option.some.inj (hty.symm.trans ht')
  have hc := tab_of_trod hd
  have hcell : ∀ i k, i < 12 → k < 4 → W.cell? ⟨0, i * 4 + k, none⟩ = some (rowV i k) := fun i k hi hk => by
    have := World.var?_cell hg hvar (i * 4 + k)
    rw [this, ← hc i k hi hk]
    simp
  refine ⟨?_, hcell⟩
  have h0 := hcell 0 0 (by decide) (by decide)
  by_cases hz : 0 < W.heap.size
  · exact hz
  · have : W.heap[0]? = none := Array.getElem?_eq_none (by omega)
    simp [World.cell?, this] at h0
end Go.Proofs.YtkefmapcaggefaaDoor

namespace Go.Proofs.YtkefmapcaggefaaDoor
open Go.ChangeShapes Go.WideShapes Go.ChangeAt Go.RowKit

theorem Tryd.own : ownKnob Tryd.prog.godebug = none := by kernel_rfl
theorem Tryd.laidOut : laidOutB Tryd.prog = true := by kernel_rfl
def tabCells : Array Value := ((List.range 12).flatMap fun i => (List.range 4).map fun k => rowV i k).toArray
def layCells (c : Array Value) : Obj → Obj
  | .cells _ t frozen => .cells c t frozen
  | o => o
noncomputable def laidWorld (os : Os) : World :=
  { World.holding Tryd.prog os ⟨#[], #[], []⟩ with heap := (World.holding Tryd.prog os ⟨#[], #[], []⟩).heap.modify 0 (layCells tabCells) }
end Go.Proofs.YtkefmapcaggefaaDoor

set_option maxRecDepth 100000
set_option maxRecDepth 20000
namespace Go.Proofs.YtkefmapcaggefaaDoor
open Go.ChangeShapes Go.WideShapes Go.ChangeAt Go.RowKit

theorem Tryd.cells22 : Tryd.prog.cellsOf 22 = 1 := by kernel_rfl
section
variable {H : Type} {enc : TypeId × Value → H} {W : World} {r : Reach} {base b : Nat} {sp : Nat → Bool} {held : Bool} {t : TypeId} {n : Nat} {v : Value} {d : DataW H} {p : List MemPlace}
theorem open_words (ht : Tryd.prog.underlying t = some (.array n 22)) (hc : Tryd.prog.cellsOf t = n) (hok : Value.okWide Tryd.prog W r base t v) (h : DataW.Trod enc Tryd.prog W b sp held t v d p) :
    ∃ x, Words x ∧ v = .agg (arrOf x n) ∧ p = [] := by
  have ho : ∃ cs, v = .agg cs ∧ cs.size = n := by
    simp only [Value.okWide, ht] at hok
    obtain ⟨cs, h1, h2, _⟩ := hok
    exact ⟨cs, h1, by rw [h2, hc]⟩
  obtain ⟨cs, rfl, hcs⟩ := ho
  obtain ⟨fuel, hf⟩ := h
  obtain ⟨xs, m, rfl, hx, hl, hlen, hi⟩ := DataW.trod_array ht hf
  have hcell : ∀ i, i < n → ∃ z, cs[i]? = some (.int .u64 z) ∧ xs[i]? = some (.lit (.int .u64 z), []) ∧ (0 ≤ z ∧ z ≤ 18446744073709551615) := by
    intro i hin
    have h1 := hi i hin
    rw [Tryd.cells22] at h1
    have hix : i < xs.length := by omega
    rw [List.getElem?_eq_getElem hix] at h1
    obtain ⟨z, hz, hxz, hw⟩ := DataW.trod_int Tryd.underlying22 h1
    refine ⟨z, ?_, ?_, bounds_u64 hw⟩
    · have hic : i < cs.size := by omega
      have : ((Value.agg cs).cells.toList.drop (i * 1)).take 1 = [cs[i]] := by
        simp [Value.cells, List.take_one, List.head?_drop, hic]
      rw [this] at hz
      rw [Array.getElem?_eq_getElem hic]
      simpa using hz
    · rw [List.getElem?_eq_getElem hix, hxz]
  refine ⟨fun i => match cs[i]? with | some (.int .u64 z) => (if i < n then z else 0) | _ => 0, ?_, ?_, ?_⟩
  · intro i
    by_cases hin : i < n
    · obtain ⟨z, h1, _, h3⟩ := hcell i hin
      simp only [h1, if_pos hin]; exact h3
    · have : cs[i]? = none := by simp; omega
      simp only [this]; omega
  · congr 1
    refine arrOf_of cs n _ hcs fun i hin => ?_
    obtain ⟨z, h1, _, _⟩ := hcell i hin
    simp only [h1, if_pos hin]
  · have : p = xs.flatMap (·.2) := by
      have := congrArg Prod.snd hx; simpa using this
    rw [this]
    simp only [List.flatMap_eq_nil_iff]
    intro y hy
    obtain ⟨i, hin, rfl⟩ := List.getElem_of_mem hy
    obtain ⟨z, _, h2, _⟩ := hcell i (by omega)
    rw [List.getElem?_eq_getElem hin] at h2
    rw [Option.some.inj h2]
end
end Go.Proofs.YtkefmapcaggefaaDoor

set_option maxRecDepth 100000
namespace Go.Proofs.YtkefmapcaggefaaDoor
open Go.ChangeShapes Go.WideShapes Go.ChangeAt Go.RowKit

section
variable {H : Type} {enc : TypeId × Value → H} {W : World} {r : Reach} {base b : Nat} {sp : Nat → Bool} {held : Bool} {t : TypeId} {n : Nat} {v : Value} {d : DataW H} {p : List MemPlace}
theorem open_bits (hok : Value.okWide Tryd.prog W r base 24 v) (h : DataW.Trod enc Tryd.prog W b sp held 24 v d p) : ∃ A, A < 2 ^ 256 ∧ v = A4 A ∧ p = [] := by
  obtain ⟨x, hx, rfl, hp⟩ := open_words Tryd.underlying24 (by kernel_rfl) hok h
  obtain ⟨A, hA, he, _⟩ := words_A4 hx
  exact ⟨A, hA, he, hp⟩
theorem bits_stay {W' : World} {sp' : Nat → Bool} (h : DataW.Trod enc Tryd.prog W 0 (fun _ => true) true 24 v d []) : DataW.Trod enc Tryd.prog W' 0 sp' true 24 v d [] :=
  WideElems.Trod_stays Tryd.laidOut (by kernel_rfl) (of_decide_eq_true (by kernel_rfl)) h (by simp) (by simp)
end
end Go.Proofs.YtkefmapcaggefaaDoor

set_option maxRecDepth 20000
namespace Go.Proofs.YtkefmapcaggefaaDoor
open Go.RowKit
attribute [local irreducible] W4

theorem cvF_or (t d : Int) (D : Dat) : bits .or .i64 0 (cvF t d D) = cvF t d D := by
  have h : cvF t d D = 0 ∨ cvF t d D = 1 ∨ cvF t d D = 8 ∨ cvF t d D = 10 ∨ cvF t d D = 12 := by
    unfold cvF rdF
    repeat' split
    all_goals simp
  rcases h with h | h | h | h | h <;> rw [h] <;> decide
section
variable (m n t d : Int) (B : Nat) (w : World) (hT : Tab w)
  (c7 : ∀ W, Below w.heap.size w W → Calls Tryd.prog 8 #[] W fun r w' => r = .returned (.bool true) ∧ Below W.heap.size W w')
include hT c7
set_option maxHeartbeats 2000000 in
theorem between_n (b1 b2 b3 b4 : Bool) (hn : (b1 && b2 && b3 && b4) = false)
    (c8 : ∀ W, Calls Tryd.prog 9 #[.int .i64 m, A4 B] W fun r w' => r = .returned (.bool b1) ∧ Below W.heap.size W w')
    (c9 : ∀ W, Calls Tryd.prog 10 #[.int .i64 m, .int .i64 n] W fun r w' => r = .returned (.bool b2) ∧ Below W.heap.size W w')
    (c14 : ∀ W, Calls Tryd.prog 15 #[.int .i64 t] W fun r w' => r = .returned (.bool b3) ∧ W = w')
    (c10 : ∀ W, Calls Tryd.prog 11 #[.int .i64 d] W fun r w' => r = .returned (.bool b4) ∧ W = w') :
    Calls Tryd.prog 4 #[.int .i64 m, .int .i64 n, .int .i64 t, .int .i64 d, A4 B] w fun r w' => r = .returned (.bool true) ∧ Below w.heap.size w w' := by
  cases b1 <;> cases b2 <;> cases b3 <;> cases b4 <;> simp only [Bool.and_self, Bool.and_true, Bool.and_false, Bool.true_and, Bool.false_and, Bool.true_eq_false] at hn
  all_goals (
    clear hn
    go_enter Tryd.func4, Tryd.ntmps4
    go_wp2_with (first
      | (go_at_call 8; refine (c7 _ bgo).mono ?_; rintro r w1 ⟨rfl, hb1⟩; obtain ⟨hc1, hf1⟩ := bcell hb1; have hz1_0 : w.heap.size < w1.heap.size := lt_below hb1 ltg; have hl1_0 := Nat.le_of_lt hz1_0; have hA1 := bnext (w0 := w) bgo hb1; have hs1 := hA1.size; clear hb1)
      | (go_at_call 9; refine (c8 _).mono ?_; rintro r w2 ⟨rfl, hb2⟩; obtain ⟨hc2, hf2⟩ := bcell hb2; have hz2_0 : w.heap.size < w2.heap.size := lt_below hb2 ltg; have hl2_0 := Nat.le_of_lt hz2_0; have hA2 := bnext (w0 := w) bgo hb2; have hs2 := hA2.size; clear hb2)
      | (go_at_call 10; refine (c9 _).mono ?_; rintro r w3 ⟨rfl, hb3⟩; obtain ⟨hc3, hf3⟩ := bcell hb3; have hz3_0 : w.heap.size < w3.heap.size := lt_below hb3 ltg; have hl3_0 := Nat.le_of_lt hz3_0; have hA3 := bnext (w0 := w) bgo hb3; have hs3 := hA3.size; clear hb3)
      | (go_at_call 15; refine (c14 _).mono ?_; rintro r w4 ⟨rfl, rfl⟩)
      | (go_at_call 11; refine (c10 _).mono ?_; rintro r w4 ⟨rfl, rfl⟩))
    go_ret
    exact ⟨rfl, bgo⟩)
set_option maxHeartbeats 4000000 in
theorem between_y (V X : Nat) (F1 F2 F : Int) (hF : bits .or .i64 F1 F2 = F)
    (c8 : ∀ W, Calls Tryd.prog 9 #[.int .i64 m, A4 B] W fun r w' => r = .returned (.bool true) ∧ Below W.heap.size W w')
    (c9 : ∀ W, Calls Tryd.prog 10 #[.int .i64 m, .int .i64 n] W fun r w' => r = .returned (.bool true) ∧ Below W.heap.size W w')
    (c14 : ∀ W, Calls Tryd.prog 15 #[.int .i64 t] W fun r w' => r = .returned (.bool true) ∧ W = w')
    (c10 : ∀ W, Calls Tryd.prog 11 #[.int .i64 d] W fun r w' => r = .returned (.bool true) ∧ W = w')
    (c12 : ∀ W, Tab W → Calls Tryd.prog 13 #[.int .i64 m, .int .i64 n, .int .i64 d, A4 B] W fun r w' => r = .returned (.tuple #[A4 V, .int .i64 F1, .int .i64 0]) ∧ Below W.heap.size W w')
    (c12b : ∀ W, Tab W → Calls Tryd.prog 13 #[.int .i64 n, .int .i64 t, .int .i64 d, A4 V] W fun r w' => r = .returned (.tuple #[A4 X, .int .i64 F2, .int .i64 0]) ∧ Below W.heap.size W w')
    (c12c : ∀ W, Tab W → Calls Tryd.prog 13 #[.int .i64 m, .int .i64 t, .int .i64 d, A4 B] W fun r w' => r = .returned (.tuple #[A4 X, .int .i64 F, .int .i64 0]) ∧ Below W.heap.size W w') :
    Calls Tryd.prog 4 #[.int .i64 m, .int .i64 n, .int .i64 t, .int .i64 d, A4 B] w fun r w' => r = .returned (.bool true) ∧ Below w.heap.size w w' := by
  have hQ := A4_self X
  go_enter Tryd.func4, Tryd.ntmps4
  go_wp2_with (first
    | (go_at_call 8; refine (c7 _ bgo).mono ?_; rintro r w1 ⟨rfl, hb1⟩; obtain ⟨hc1, hf1⟩ := bcell hb1; have hz1_0 : w.heap.size < w1.heap.size := lt_below hb1 ltg; have hl1_0 := Nat.le_of_lt hz1_0; have hA1 := bnext (w0 := w) bgo hb1; have hs1 := hA1.size; clear hb1)
    | (go_at_call 9; refine (c8 _).mono ?_; rintro r w2 ⟨rfl, hb2⟩; obtain ⟨hc2, hf2⟩ := bcell hb2; have hz2_0 : w.heap.size < w2.heap.size := lt_below hb2 ltg; have hl2_0 := Nat.le_of_lt hz2_0; have hA2 := bnext (w0 := w) bgo hb2; have hs2 := hA2.size; clear hb2)
    | (go_at_call 10; refine (c9 _).mono ?_; rintro r w3 ⟨rfl, hb3⟩; obtain ⟨hc3, hf3⟩ := bcell hb3; have hz3_0 : w.heap.size < w3.heap.size := lt_below hb3 ltg; have hl3_0 := Nat.le_of_lt hz3_0; have hA3 := bnext (w0 := w) bgo hb3; have hs3 := hA3.size; clear hb3)
    | (go_at_call 15; refine (c14 _).mono ?_; rintro r w4 ⟨rfl, rfl⟩)
    | (go_at_call 11; refine (c10 _).mono ?_; rintro r w4 ⟨rfl, rfl⟩)
    | (have := hA6; go_at_call 13; refine (c12c _ (hT.go bgo)).mono ?_; rintro r w7 ⟨rfl, hb7⟩; obtain ⟨hc7, hf7⟩ := bcell hb7; have hz7_0 : w.heap.size < w7.heap.size := lt_below hb7 ltg; have hl7_0 := Nat.le_of_lt hz7_0; have hz7_1 : w5.heap.size < w7.heap.size := lt_below hb7 ltg; have hl7_1 := Nat.le_of_lt hz7_1; have hz7_2 : w6.heap.size < w7.heap.size := lt_below hb7 ltg; have hl7_2 := Nat.le_of_lt hz7_2; have hA7 := bnext (w0 := w) bgo hb7; have hs7 := hA7.size; clear hb7)
    | (have := hA5; go_at_call 13; refine (c12b _ (hT.go bgo)).mono ?_; rintro r w6 ⟨rfl, hb6⟩; obtain ⟨hc6, hf6⟩ := bcell hb6; have hz6_0 : w.heap.size < w6.heap.size := lt_below hb6 ltg; have hl6_0 := Nat.le_of_lt hz6_0; have hz6_1 : w5.heap.size < w6.heap.size := lt_below hb6 ltg; have hl6_1 := Nat.le_of_lt hz6_1; have hA6 := bnext (w0 := w) bgo hb6; have hs6 := hA6.size; clear hb6)
    | (go_at_call 13; refine (c12 _ (hT.go bgo)).mono ?_; rintro r w5 ⟨rfl, hb5⟩; obtain ⟨hc5, hf5⟩ := bcell hb5; have hz5_0 : w.heap.size < w5.heap.size := lt_below hb5 ltg; have hl5_0 := Nat.le_of_lt hz5_0; have hA5 := bnext (w0 := w) bgo hb5; have hs5 := hA5.size; clear hb5))
  go_ret
  exact ⟨by first | rfl | simp, bgo⟩
end
theorem binconvBetween_any (m n t d : Int) (B : Nat) (w : World) (hT : Tab w) (hB : B < 2 ^ 256) : Calls Tryd.prog 4 #[.int .i64 m, .int .i64 n, .int .i64 t, .int .i64 d, A4 B] w fun r w' => r = .returned (.bool true) ∧ Below w.heap.size w w' := by
  have c7 := fun W (hW : Below w.heap.size w W) => awake12 W (hT.go hW)
  have c8 := fun W => rgood_any m B hB W
  have c9 := fun W => rholds_v m n W
  have c14 : ∀ W, Calls Tryd.prog 15 #[.int .i64 t] W fun r w' => r = .returned (.bool (decide (binN t))) ∧ W = w' := fun W => (rbinary_any t W).mono fun r w' h => ⟨h.1, h.2.symm⟩
  have c10 := fun W => rdir12 d W
  by_cases h : goodN m B ∧ holdsP m n ∧ binN t ∧ knB d
  · obtain ⟨h1, h2, h3, h4⟩ := h
    rw [decide_eq_true h1] at c8
    rw [decide_eq_true h2] at c9
    rw [decide_eq_true h3] at c14
    rw [decide_eq_true h4] at c10
    have hn := hold_bin h1.1 h2
    have hc : cnG m n d B := ⟨h1, hn, h4⟩
    have hcc : cnG m t d B := ⟨h1, h3, h4⟩
    obtain ⟨D', i1, i2, i3, i4⟩ := cv_widen h1.1 h2 (und_is h1) d
    obtain ⟨g1, g2⟩ := pk_good hn i1
    obtain ⟨j1, j2⟩ := i4 t d
    have hc' : cnG n t d (pkV n D') := ⟨g1, h3, h4⟩
    have c12 := fun W h => conv_v m n d B W h hB
    have c12b := fun W h => conv_v n t d (pkV n D') W h (good_256 g1)
    have c12c := fun W h => conv_v m t d B W h hB
    rw [show cnV m n d B = pkV n D' by unfold cnV; rw [if_pos hc, i2], show cnF m n d B = if (unD m B).g then 1 else 0 by unfold cnF; rw [if_pos hc, i3], show cnE m n d B = 0 from if_pos hc] at c12
    rw [show cnV n t d (pkV n D') = cvV t d (unD m B) by unfold cnV; rw [if_pos hc', g2, j1], show cnF n t d (pkV n D') = if (unD m B).g then 0 else cvF t d (unD m B) by unfold cnF; rw [if_pos hc', g2, j2], show cnE n t d (pkV n D') = 0 from if_pos hc'] at c12b
    rw [show cnV m t d B = cvV t d (unD m B) from if_pos hcc, show cnF m t d B = cvF t d (unD m B) from if_pos hcc, show cnE m t d B = 0 from if_pos hcc] at c12c
    refine between_y m n t d B w hT c7 _ _ _ _ _ ?_ c8 c9 c14 c10 c12 c12b c12c
    have hi := und_is h1
    cases hg : (unD m B).g
    · exact cvF_or t d (unD m B)
    · have e1 : cvF t d (unD m B) = 1 := by
        rcases hi with ⟨_, q, _⟩ | ⟨_, q, _⟩ | ⟨q, _⟩
        · rw [hg] at q; exact absurd q (by decide)
        · rw [hg] at q; exact absurd q (by decide)
        · unfold cvF
          rw [if_neg (by omega), if_pos q, hg]
          rfl
      show bits .or .i64 1 0 = _
      rw [e1]
      decide
  · refine between_n m n t d B w hT c7 _ _ _ _ ?_ c8 c9 c14 c10
    by_cases a1 : goodN m B
    · by_cases a2 : holdsP m n
      · by_cases a3 : binN t
        · rw [decide_eq_false (p := knB d) (fun a4 => h ⟨a1, a2, a3, a4⟩), Bool.and_false]
        · rw [decide_eq_false (p := binN t) a3, Bool.and_false, Bool.false_and]
      · rw [decide_eq_false (p := holdsP m n) a2, Bool.and_false, Bool.false_and, Bool.false_and]
    · rw [decide_eq_false (p := goodN m B) a1, Bool.false_and, Bool.false_and, Bool.false_and]
end Go.Proofs.YtkefmapcaggefaaDoor
