/-
  Texts that the proof leans on, joined: Xu.
-/
import Derived.Test.YtecoajeejombbaaGreatDoorT9
import Derived.Test.YtecoajeejombbaaGreatDoorJ1
import Derived.Test.YtecoajeejombbaaGreatDoorTE
set_option linter.unusedVariables false
set_option linter.unusedSectionVars false
set_option linter.unusedSimpArgs false
set_option maxRecDepth 20000
namespace Go.Proofs.YtecoajeejombbaaGreatDoor
open Go.RowKit

attribute [local irreducible] W4
section
variable (n d : Int) (w : World) (hT : Tab w) (hT10 : Tb10 w)
  (c22 : ∀ W, Calls Tryz.prog 22 #[.int .i64 n] W fun r w' => r = .returned (.bool true) ∧ W = w')
  (c15 : ∀ W, Calls Tryz.prog 15 #[.int .i64 d] W fun r w' => r = .returned (.bool true) ∧ W = w')
  (c : UInt8) (r : List UInt8) (h : (r.length : Int) + 1 ≤ 3000) (h45 : (c.toNat : Int) ≠ 45) (h43 : (c.toNat : Int) ≠ 43)
  (d' : Int) (hd' : d' = othD d) (V V' : Nat) (F : Int)
include hT hT10 c22 c15 h h45 h43 hd'
set_option maxHeartbeats 4000000 in
theorem trn_e (E : Int) (hE : (E != 0) = true)
    (c10 : ∀ W, Below w.heap.size w W → Calls Tryz.prog 10 #[.int .i64 n, .int .i64 d, .string (B (c :: r))] W fun r w' => r = .returned (.tuple #[A4 V, .int .i64 F, .int .i64 E]) ∧ Below W.heap.size W w')
    (c10t : ∀ W, Below w.heap.size w W → Calls Tryz.prog 10 #[.int .i64 n, .int .i64 d', .string (B (45 :: c :: r))] W fun r w' => r = .returned (.tuple #[A4 V', .int .i64 F, .int .i64 E]) ∧ Below W.heap.size W w') :
    Calls Tryz.prog 8 #[.int .i64 n, .int .i64 d, .string (B (c :: r))] w fun r w' => r = .returned (.bool true) ∧ Below w.heap.size w w' := by
  have c9 := awake8
  have htl := B_toList
  have hsz := B_size (c :: r)
  have hln : (c :: r).length = r.length + 1 := rfl
  have hsb := by_lt (l := c :: r) (i := 0) (by rw [hsz, hln]; omega)
  rw [by_zero] at hsb
  have hbd := c.toNat_lt
  have hap : (⟨#[45]⟩ : ByteArray) ++ B (c :: r) = B (45 :: c :: r) := B_app [45] (c :: r)
  have h1s : (⟨#[45]⟩ : ByteArray).size = 1 := rfl
  have hsm := cell_set_map
  have key : ∀ (hd : d = 3 ∨ d = 4 ∨ (d ≠ 3 ∧ d ≠ 4)), Calls Tryz.prog 8 #[.int .i64 n, .int .i64 d, .string (B (c :: r))] w fun r w' => r = .returned (.bool true) ∧ Below w.heap.size w w' := by
    intro hd
    unfold othD at hd'
    rcases hd with rfl | rfl | ⟨h3, h4⟩
    · rw [if_pos (Or.inl rfl)] at hd'
      have e : d' = 4 := hd'
      clear hd'
      subst e
      go_enter Tryz.func8, Tryz.ntmps8
      go_wp2_with (first | (go_at_call 9; refine (c9 _ (hT.go bgo) (hT10.next bgo)).mono ?_; rintro x w1 ⟨rfl, hb1⟩; obtain ⟨hc1, hf1⟩ := bcell hb1; have hA1 := bnext (w0 := w) bgo hb1; have hs1 := hA1.size; clear hb1) | (go_at_call 22; refine (c22 _).mono ?_; rintro r w1 ⟨rfl, rfl⟩) | (go_at_call 15; refine (c15 _).mono ?_; rintro r w1 ⟨rfl, rfl⟩) | (go_at_call 10; refine (c10 _ bgo).mono ?_; rintro r w2 ⟨rfl, hb2⟩; clear c10; obtain ⟨hc2, hf2⟩ := bcell hb2; have hA2 := bnext (w0 := w) bgo hb2; have hs2 := hA2.size; clear hb2))
      go_wp2_with (first | (go_at_call 10; refine (c10t _ bgo).mono ?_; rintro x w3 ⟨rfl, hb3⟩; obtain ⟨hc3, hf3⟩ := bcell hb3; have hz3_0 : w2.heap.size < w3.heap.size := lt_below hb3 ltg; have hl3_0 := Nat.le_of_lt hz3_0; have hA3 := bnext (w0 := w) bgo hb3; have hs3 := hA3.size; clear hb3))
      all_goals (go_ret; exact ⟨rfl, bgo⟩)
    · rw [if_pos (Or.inr rfl)] at hd'
      have e : d' = 3 := hd'
      clear hd'
      subst e
      go_enter Tryz.func8, Tryz.ntmps8
      go_wp2_with (first | (go_at_call 9; refine (c9 _ (hT.go bgo) (hT10.next bgo)).mono ?_; rintro x w1 ⟨rfl, hb1⟩; obtain ⟨hc1, hf1⟩ := bcell hb1; have hA1 := bnext (w0 := w) bgo hb1; have hs1 := hA1.size; clear hb1) | (go_at_call 22; refine (c22 _).mono ?_; rintro r w1 ⟨rfl, rfl⟩) | (go_at_call 15; refine (c15 _).mono ?_; rintro r w1 ⟨rfl, rfl⟩) | (go_at_call 10; refine (c10 _ bgo).mono ?_; rintro r w2 ⟨rfl, hb2⟩; clear c10; obtain ⟨hc2, hf2⟩ := bcell hb2; have hA2 := bnext (w0 := w) bgo hb2; have hs2 := hA2.size; clear hb2))
      go_wp2_with (first | (go_at_call 10; refine (c10t _ bgo).mono ?_; rintro x w3 ⟨rfl, hb3⟩; obtain ⟨hc3, hf3⟩ := bcell hb3; have hz3_0 : w2.heap.size < w3.heap.size := lt_below hb3 ltg; have hl3_0 := Nat.le_of_lt hz3_0; have hA3 := bnext (w0 := w) bgo hb3; have hs3 := hA3.size; clear hb3))
      all_goals (go_ret; exact ⟨rfl, bgo⟩)
    · rw [if_neg (by omega)] at hd'
      subst hd'
      have g3 : (d' == 3) = false := beq_eq_false_iff_ne.2 h3
      have g4 : (d' == 4) = false := beq_eq_false_iff_ne.2 h4
      go_enter Tryz.func8, Tryz.ntmps8
      go_wp2_with (first | (go_at_call 9; refine (c9 _ (hT.go bgo) (hT10.next bgo)).mono ?_; rintro x w1 ⟨rfl, hb1⟩; obtain ⟨hc1, hf1⟩ := bcell hb1; have hA1 := bnext (w0 := w) bgo hb1; have hs1 := hA1.size; clear hb1) | (go_at_call 22; refine (c22 _).mono ?_; rintro r w1 ⟨rfl, rfl⟩) | (go_at_call 15; refine (c15 _).mono ?_; rintro r w1 ⟨rfl, rfl⟩) | (go_at_call 10; refine (c10 _ bgo).mono ?_; rintro r w2 ⟨rfl, hb2⟩; clear c10; obtain ⟨hc2, hf2⟩ := bcell hb2; have hA2 := bnext (w0 := w) bgo hb2; have hs2 := hA2.size; clear hb2))
      go_wp2_with (first | (go_at_call 10; refine (c10t _ bgo).mono ?_; rintro x w3 ⟨rfl, hb3⟩; obtain ⟨hc3, hf3⟩ := bcell hb3; have hz3_0 : w2.heap.size < w3.heap.size := lt_below hb3 ltg; have hl3_0 := Nat.le_of_lt hz3_0; have hA3 := bnext (w0 := w) bgo hb3; have hs3 := hA3.size; clear hb3))
      all_goals (go_ret; exact ⟨rfl, bgo⟩)
  exact key (by omega)
set_option maxHeartbeats 4000000 in
theorem trn_k (Dc Dx : Int) (Dg : Bool) (Dk : Nat)
    (c10 : ∀ W, Below w.heap.size w W → Calls Tryz.prog 10 #[.int .i64 n, .int .i64 d, .string (B (c :: r))] W fun r w' => r = .returned (.tuple #[A4 V, .int .i64 F, .int .i64 0]) ∧ Below W.heap.size W w')
    (c10t : ∀ W, Below w.heap.size w W → Calls Tryz.prog 10 #[.int .i64 n, .int .i64 d', .string (B (45 :: c :: r))] W fun r w' => r = .returned (.tuple #[A4 V', .int .i64 F, .int .i64 0]) ∧ Below W.heap.size W w')
    (c24 : ∀ W, Calls Tryz.prog 24 #[.int .i64 n, A4 V] W fun r w' => r = .returned (.tuple #[DV Dc false Dg Dx Dk, .int .i64 0]) ∧ Below W.heap.size W w')
    (c24t : ∀ W, Calls Tryz.prog 24 #[.int .i64 n, A4 V'] W fun r w' => r = .returned (.tuple #[DV Dc true Dg Dx Dk, .int .i64 0]) ∧ Below W.heap.size W w') :
    Calls Tryz.prog 8 #[.int .i64 n, .int .i64 d, .string (B (c :: r))] w fun r w' => r = .returned (.bool true) ∧ Below w.heap.size w w' := by
  have c9 := awake8
  have htl := B_toList
  have hsz := B_size (c :: r)
  have hln : (c :: r).length = r.length + 1 := rfl
  have hsb := by_lt (l := c :: r) (i := 0) (by rw [hsz, hln]; omega)
  rw [by_zero] at hsb
  have hbd := c.toNat_lt
  have hap : (⟨#[45]⟩ : ByteArray) ++ B (c :: r) = B (45 :: c :: r) := B_app [45] (c :: r)
  have h1s : (⟨#[45]⟩ : ByteArray).size = 1 := rfl
  have h35 := DV_self Dc false Dg Dx Dk
  have hsm := cell_set_map
  have key : ∀ (hd : d = 3 ∨ d = 4 ∨ (d ≠ 3 ∧ d ≠ 4)), Calls Tryz.prog 8 #[.int .i64 n, .int .i64 d, .string (B (c :: r))] w fun r w' => r = .returned (.bool true) ∧ Below w.heap.size w w' := by
    intro hd
    unfold othD at hd'
    rcases hd with rfl | rfl | ⟨h3, h4⟩
    · rw [if_pos (Or.inl rfl)] at hd'
      have e : d' = 4 := hd'
      clear hd'
      subst e
      go_enter Tryz.func8, Tryz.ntmps8
      go_wp2_with (first | (go_at_call 9; refine (c9 _ (hT.go bgo) (hT10.next bgo)).mono ?_; rintro x w1 ⟨rfl, hb1⟩; obtain ⟨hc1, hf1⟩ := bcell hb1; have hA1 := bnext (w0 := w) bgo hb1; have hs1 := hA1.size; clear hb1) | (go_at_call 22; refine (c22 _).mono ?_; rintro r w1 ⟨rfl, rfl⟩) | (go_at_call 15; refine (c15 _).mono ?_; rintro r w1 ⟨rfl, rfl⟩) | (go_at_call 10; refine (c10 _ bgo).mono ?_; rintro r w2 ⟨rfl, hb2⟩; clear c10; obtain ⟨hc2, hf2⟩ := bcell hb2; have hA2 := bnext (w0 := w) bgo hb2; have hs2 := hA2.size; clear hb2))
      go_wp2_with (first | (go_at_call 10; refine (c10t _ bgo).mono ?_; rintro x w3 ⟨rfl, hb3⟩; obtain ⟨hc3, hf3⟩ := bcell hb3; have hz3_0 : w2.heap.size < w3.heap.size := lt_below hb3 ltg; have hl3_0 := Nat.le_of_lt hz3_0; have hA3 := bnext (w0 := w) bgo hb3; have hs3 := hA3.size; clear hb3) | (go_at_call 24; refine (c24 _).mono ?_; rintro r w4 ⟨rfl, hb4⟩; clear c24; obtain ⟨hc4, hf4⟩ := bcell hb4; have hz4_0 : w2.heap.size < w4.heap.size := lt_below hb4 ltg; have hl4_0 := Nat.le_of_lt hz4_0; have hz4_1 : w3.heap.size < w4.heap.size := lt_below hb4 ltg; have hl4_1 := Nat.le_of_lt hz4_1; have hA4 := bnext (w0 := w) bgo hb4; have hs4 := hA4.size; clear hb4))
      go_wp2_with (first | (go_at_call 24; refine (c24t _).mono ?_; rintro x w5 ⟨rfl, hb5⟩; obtain ⟨hc5, hf5⟩ := bcell hb5; have hz5_0 : w2.heap.size < w5.heap.size := lt_below hb5 ltg; have hl5_0 := Nat.le_of_lt hz5_0; have hz5_1 : w3.heap.size < w5.heap.size := lt_below hb5 ltg; have hl5_1 := Nat.le_of_lt hz5_1; have hz5_2 : w4.heap.size < w5.heap.size := lt_below hb5 ltg; have hl5_2 := Nat.le_of_lt hz5_2; have hA5 := bnext (w0 := w) bgo hb5; have hs5 := hA5.size; clear hb5))
      all_goals (go_ret; exact ⟨rfl, bgo⟩)
    · rw [if_pos (Or.inr rfl)] at hd'
      have e : d' = 3 := hd'
      clear hd'
      subst e
      go_enter Tryz.func8, Tryz.ntmps8
      go_wp2_with (first | (go_at_call 9; refine (c9 _ (hT.go bgo) (hT10.next bgo)).mono ?_; rintro x w1 ⟨rfl, hb1⟩; obtain ⟨hc1, hf1⟩ := bcell hb1; have hA1 := bnext (w0 := w) bgo hb1; have hs1 := hA1.size; clear hb1) | (go_at_call 22; refine (c22 _).mono ?_; rintro r w1 ⟨rfl, rfl⟩) | (go_at_call 15; refine (c15 _).mono ?_; rintro r w1 ⟨rfl, rfl⟩) | (go_at_call 10; refine (c10 _ bgo).mono ?_; rintro r w2 ⟨rfl, hb2⟩; clear c10; obtain ⟨hc2, hf2⟩ := bcell hb2; have hA2 := bnext (w0 := w) bgo hb2; have hs2 := hA2.size; clear hb2))
      go_wp2_with (first | (go_at_call 10; refine (c10t _ bgo).mono ?_; rintro x w3 ⟨rfl, hb3⟩; obtain ⟨hc3, hf3⟩ := bcell hb3; have hz3_0 : w2.heap.size < w3.heap.size := lt_below hb3 ltg; have hl3_0 := Nat.le_of_lt hz3_0; have hA3 := bnext (w0 := w) bgo hb3; have hs3 := hA3.size; clear hb3) | (go_at_call 24; refine (c24 _).mono ?_; rintro r w4 ⟨rfl, hb4⟩; clear c24; obtain ⟨hc4, hf4⟩ := bcell hb4; have hz4_0 : w2.heap.size < w4.heap.size := lt_below hb4 ltg; have hl4_0 := Nat.le_of_lt hz4_0; have hz4_1 : w3.heap.size < w4.heap.size := lt_below hb4 ltg; have hl4_1 := Nat.le_of_lt hz4_1; have hA4 := bnext (w0 := w) bgo hb4; have hs4 := hA4.size; clear hb4))
      go_wp2_with (first | (go_at_call 24; refine (c24t _).mono ?_; rintro x w5 ⟨rfl, hb5⟩; obtain ⟨hc5, hf5⟩ := bcell hb5; have hz5_0 : w2.heap.size < w5.heap.size := lt_below hb5 ltg; have hl5_0 := Nat.le_of_lt hz5_0; have hz5_1 : w3.heap.size < w5.heap.size := lt_below hb5 ltg; have hl5_1 := Nat.le_of_lt hz5_1; have hz5_2 : w4.heap.size < w5.heap.size := lt_below hb5 ltg; have hl5_2 := Nat.le_of_lt hz5_2; have hA5 := bnext (w0 := w) bgo hb5; have hs5 := hA5.size; clear hb5))
      all_goals (go_ret; exact ⟨rfl, bgo⟩)
    · rw [if_neg (by omega)] at hd'
      subst hd'
      have g3 : (d' == 3) = false := beq_eq_false_iff_ne.2 h3
      have g4 : (d' == 4) = false := beq_eq_false_iff_ne.2 h4
      go_enter Tryz.func8, Tryz.ntmps8
      go_wp2_with (first | (go_at_call 9; refine (c9 _ (hT.go bgo) (hT10.next bgo)).mono ?_; rintro x w1 ⟨rfl, hb1⟩; obtain ⟨hc1, hf1⟩ := bcell hb1; have hA1 := bnext (w0 := w) bgo hb1; have hs1 := hA1.size; clear hb1) | (go_at_call 22; refine (c22 _).mono ?_; rintro r w1 ⟨rfl, rfl⟩) | (go_at_call 15; refine (c15 _).mono ?_; rintro r w1 ⟨rfl, rfl⟩) | (go_at_call 10; refine (c10 _ bgo).mono ?_; rintro r w2 ⟨rfl, hb2⟩; clear c10; obtain ⟨hc2, hf2⟩ := bcell hb2; have hA2 := bnext (w0 := w) bgo hb2; have hs2 := hA2.size; clear hb2))
      go_wp2_with (first | (go_at_call 10; refine (c10t _ bgo).mono ?_; rintro x w3 ⟨rfl, hb3⟩; obtain ⟨hc3, hf3⟩ := bcell hb3; have hz3_0 : w2.heap.size < w3.heap.size := lt_below hb3 ltg; have hl3_0 := Nat.le_of_lt hz3_0; have hA3 := bnext (w0 := w) bgo hb3; have hs3 := hA3.size; clear hb3) | (go_at_call 24; refine (c24 _).mono ?_; rintro r w4 ⟨rfl, hb4⟩; clear c24; obtain ⟨hc4, hf4⟩ := bcell hb4; have hz4_0 : w2.heap.size < w4.heap.size := lt_below hb4 ltg; have hl4_0 := Nat.le_of_lt hz4_0; have hz4_1 : w3.heap.size < w4.heap.size := lt_below hb4 ltg; have hl4_1 := Nat.le_of_lt hz4_1; have hA4 := bnext (w0 := w) bgo hb4; have hs4 := hA4.size; clear hb4))
      go_wp2_with (first | (go_at_call 24; refine (c24t _).mono ?_; rintro x w5 ⟨rfl, hb5⟩; obtain ⟨hc5, hf5⟩ := bcell hb5; have hz5_0 : w2.heap.size < w5.heap.size := lt_below hb5 ltg; have hl5_0 := Nat.le_of_lt hz5_0; have hz5_1 : w3.heap.size < w5.heap.size := lt_below hb5 ltg; have hl5_1 := Nat.le_of_lt hz5_1; have hz5_2 : w4.heap.size < w5.heap.size := lt_below hb5 ltg; have hl5_2 := Nat.le_of_lt hz5_2; have hA5 := bnext (w0 := w) bgo hb5; have hs5 := hA5.size; clear hb5))
      all_goals (go_ret; exact ⟨rfl, bgo⟩)
  exact key (by omega)
end
end Go.Proofs.YtecoajeejombbaaGreatDoor
