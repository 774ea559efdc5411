/-
  Texts that the proof leans on.
-/
import Derived.Test.YtgknbdehlmlipabGreatDoorJ40
import Derived.Test.YtgknbdehlmlipabGreatDoorJ3
import Derived.Test.YtgknbdehlmlipabGreatDoorJ22
import Derived.Test.YtgknbdehlmlipabGreatDoorJ35
set_option linter.unusedVariables false
set_option linter.unusedSectionVars false
set_option linter.unusedSimpArgs false
set_option maxRecDepth 20000
namespace Go.Proofs.YtgknbdehlmlipabGreatDoor
open Go.RowKit
attribute [local irreducible] W4 Nt Nz NT
section
variable (c x b : Int) (s g : Bool) (k : Nat) (hk : k < 2 ^ 256) (c' x' b' : Int) (s' g' : Bool) (k' : Nat) (hk' : k' < 2 ^ 256) (w : World)
set_option maxHeartbeats 4000000 in
theorem sz_inf (h : (c == 2) = true ∨ ((c == 2) = false ∧ (c' == 2) = true)) :
    Calls Tryz.prog 26 #[OV c s g x k b, OV c' s' g' x' k' b'] w fun r w' => r = .returned (.int .i64 (sgn c c')) ∧ Below w.heap.size w w' := by
  have hsm := cell_set_map
  have c9 := fun W => compare_int c c' W
  rcases h with h | ⟨h, h'⟩
  all_goals
    go_enter Tryz.func26, Tryz.ntmps26
    go_wp2_with (go_at_call 27; refine (c9 _).mono ?_; rintro r w1 ⟨rfl, rfl⟩)
    go_ret
    exact ⟨by first | rfl | simp, bgo⟩
variable (hc : (c == 2) = false) (hc' : (c' == 2) = false)
include hk hk' hc hc'
set_option maxHeartbeats 4000000 in
theorem sz_nought (n1 n2 : Bool) (h : n1 = true ∨ (n1 = false ∧ n2 = true))
    (c1 : ∀ W, Calls Tryz.prog 22 #[OV c s g x k b] W fun r w' => r = .returned (.bool n1) ∧ Below W.heap.size W w')
    (c2 : ∀ W, Calls Tryz.prog 22 #[OV c' s' g' x' k' b'] W fun r w' => r = .returned (.bool n2) ∧ Below W.heap.size W w')
    (R : Int) (c3 : ∀ W v v', Nt 4 k v W → Nt 4 k' v' W → Calls Tryz.prog 29 #[v, v'] W fun r w' => r = .returned (.int .i64 R) ∧ Below W.heap.size W w') :
    Calls Tryz.prog 26 #[OV c s g x k b, OV c' s' g' x' k' b'] w fun r w' => r = .returned (.int .i64 R) ∧ Below w.heap.size w w' := by
  have hbx := fun W hW => op_new (w0 := w) (w := W) (c := c) (s := s) (g := g) (x := x) (b := b) (t := 50) hk hW
  have hby : ∀ W, Below ((w.alloc (.cells (OCs c s g x k b) 50)).alloc (.cells (OCs c' s' g' x' k' b') 50)).heap.size ((w.alloc (.cells (OCs c s g x k b) 50)).alloc (.cells (OCs c' s' g' x' k' b') 50)) W → Nt 4 k' (.slice (some ⟨w.heap.size + 1, 4, none⟩) 4 4) W := fun W hW => by
    have := op_new (w0 := w.alloc (.cells (OCs c s g x k b) 50)) (w := W) (c := c') (s := s') (g := g') (x := x') (b := b') (t := 50) hk' hW
    rwa [show (w.alloc (.cells (OCs c s g x k b) 50)).heap.size = w.heap.size + 1 by simp] at this
  clear hk hk'
  have hsm := cell_set_map
  rcases h with rfl | ⟨rfl, rfl⟩
  · go_enter Tryz.func26, Tryz.ntmps26
    go_wp2_with (go_at_call 22; refine (c1 _).mono ?_; rintro r w1 ⟨rfl, hb1⟩; have hq0 := hbx _ (bnx (below1 _ _) hb1); have hq1 := hby _ hb1; obtain ⟨hc1, hf1⟩ := bcell hb1; have hz1_0 : w.heap.size < w1.heap.size := lt_below hb1 ltg; have hl1_0 := Nat.le_of_lt hz1_0; have hz1_1 : w.heap.size + 1 < w1.heap.size := lt_below hb1 ltg; have hl1_1 := Nat.le_of_lt hz1_1; have hA1 := bnext (w0 := w) bgo hb1; have hs1 := hA1.size; clear hb1)
    refine wp_tail 6 (by kernel_rfl) (by kernel_rfl) (by kernel_rfl) (fun _ _ d _ _ h => by cases d <;> exact h) fun hne hcell => ?_
    simp only [List.take_succ_cons, List.take_zero, List.drop_succ_cons, List.drop_zero]
    repeat go_big_quiet_step (fail)
    refine wpQuiet_nil fun w2 hb2 => ?_
    have hv0 := hq0.next hb2
    have hv1 := hq1.next hb2
    obtain ⟨hc2, hf2⟩ := bcell hb2; have hz2_0 : w.heap.size < w2.heap.size := lt_below hb2 ltg; have hl2_0 := Nat.le_of_lt hz2_0; have hz2_1 : w.heap.size + 1 < w2.heap.size := lt_below hb2 ltg; have hl2_1 := Nat.le_of_lt hz2_1; have hA2 := bnext (w0 := w) bgo hb2; have hs2 := hA2.size; clear hb2
    go_wp2_with (go_at_call 29; refine (c3 _ _ _ hv0 hv1).mono ?_; rintro r w3 ⟨rfl, hb3⟩; obtain ⟨hc3, hf3⟩ := bcell hb3; have hz3_0 : w.heap.size < w3.heap.size := lt_below hb3 ltg; have hl3_0 := Nat.le_of_lt hz3_0; have hz3_1 : w.heap.size + 1 < w3.heap.size := lt_below hb3 ltg; have hl3_1 := Nat.le_of_lt hz3_1; have hA3 := bnext (w0 := w) bgo hb3; have hs3 := hA3.size; clear hb3)
    go_ret
    exact ⟨by first | rfl | simp, bgo⟩
  · go_enter Tryz.func26, Tryz.ntmps26
    go_wp2_with (first
      | (have := hA1; go_at_call 22; refine (c2 _).mono ?_; rintro r w4 ⟨rfl, hb4⟩; have hq0 := hp0.next hb4; have hq1 := hp1.next hb4; obtain ⟨hc4, hf4⟩ := bcell hb4; have hz4_0 : w.heap.size < w4.heap.size := lt_below hb4 ltg; have hl4_0 := Nat.le_of_lt hz4_0; have hz4_1 : w.heap.size + 1 < w4.heap.size := lt_below hb4 ltg; have hl4_1 := Nat.le_of_lt hz4_1; have hA4 := bnext (w0 := w) bgo hb4; have hs4 := hA4.size; clear hb4)
      | (go_at_call 22; refine (c1 _).mono ?_; rintro r w1 ⟨rfl, hb1⟩; have hp0 := hbx _ (bnx (below1 _ _) hb1); have hp1 := hby _ hb1; obtain ⟨hc1, hf1⟩ := bcell hb1; have hz1_0 : w.heap.size < w1.heap.size := lt_below hb1 ltg; have hl1_0 := Nat.le_of_lt hz1_0; have hz1_1 : w.heap.size + 1 < w1.heap.size := lt_below hb1 ltg; have hl1_1 := Nat.le_of_lt hz1_1; have hA1 := bnext (w0 := w) bgo hb1; have hs1 := hA1.size; clear hb1))
    refine wp_tail 6 (by kernel_rfl) (by kernel_rfl) (by kernel_rfl) (fun _ _ d _ _ h => by cases d <;> exact h) fun hne hcell => ?_
    simp only [List.take_succ_cons, List.take_zero, List.drop_succ_cons, List.drop_zero]
    repeat go_big_quiet_step (fail)
    refine wpQuiet_nil fun w2 hb2 => ?_
    have hv0 := hq0.next hb2
    have hv1 := hq1.next hb2
    obtain ⟨hc2, hf2⟩ := bcell hb2; have hz2_0 : w.heap.size < w2.heap.size := lt_below hb2 ltg; have hl2_0 := Nat.le_of_lt hz2_0; have hz2_1 : w.heap.size + 1 < w2.heap.size := lt_below hb2 ltg; have hl2_1 := Nat.le_of_lt hz2_1; have hA2 := bnext (w0 := w) bgo hb2; have hs2 := hA2.size; clear hb2
    go_wp2_with (go_at_call 29; refine (c3 _ _ _ hv0 hv1).mono ?_; rintro r w3 ⟨rfl, hb3⟩; obtain ⟨hc3, hf3⟩ := bcell hb3; have hz3_0 : w.heap.size < w3.heap.size := lt_below hb3 ltg; have hl3_0 := Nat.le_of_lt hz3_0; have hz3_1 : w.heap.size + 1 < w3.heap.size := lt_below hb3 ltg; have hl3_1 := Nat.le_of_lt hz3_1; have hA3 := bnext (w0 := w) bgo hb3; have hs3 := hA3.size; clear hb3)
    go_ret
    exact ⟨by first | rfl | simp, bgo⟩
set_option maxHeartbeats 4000000 in
theorem sz_far (L U L' U' R : Int) (h : (U ≤ L' ∧ R = -1) ∨ (¬ U ≤ L' ∧ U' ≤ L ∧ R = 1))
    (c1 : ∀ W, Calls Tryz.prog 22 #[OV c s g x k b] W fun r w' => r = .returned (.bool false) ∧ Below W.heap.size W w')
    (c2 : ∀ W, Calls Tryz.prog 22 #[OV c' s' g' x' k' b'] W fun r w' => r = .returned (.bool false) ∧ Below W.heap.size W w')
    (c3 : ∀ W, Calls Tryz.prog 41 #[OV c s g x k b] W fun r w' => r = .returned (.tuple #[.int .i64 L, .int .i64 U]) ∧ Below W.heap.size W w')
    (c4 : ∀ W, Calls Tryz.prog 41 #[OV c' s' g' x' k' b'] W fun r w' => r = .returned (.tuple #[.int .i64 L', .int .i64 U']) ∧ Below W.heap.size W w') :
    Calls Tryz.prog 26 #[OV c s g x k b, OV c' s' g' x' k' b'] w fun r w' => r = .returned (.int .i64 R) ∧ Below w.heap.size w w' := by
  have hsm := cell_set_map
  rcases h with ⟨h, rfl⟩ | ⟨h, h', rfl⟩
  all_goals
    go_enter Tryz.func26, Tryz.ntmps26
    go_wp2_with (first
      | (have := hA1; go_at_call 22; refine (c2 _).mono ?_; rintro r w2 ⟨rfl, hb2⟩; obtain ⟨hc2, hf2⟩ := bcell hb2; have hz2_0 : w.heap.size < w2.heap.size := lt_below hb2 ltg; have hl2_0 := Nat.le_of_lt hz2_0; have hz2_1 : w.heap.size + 1 < w2.heap.size := lt_below hb2 ltg; have hl2_1 := Nat.le_of_lt hz2_1; have hA2 := bnext (w0 := w) bgo hb2; have hs2 := hA2.size; clear hb2)
      | (go_at_call 22; refine (c1 _).mono ?_; rintro r w1 ⟨rfl, hb1⟩; obtain ⟨hc1, hf1⟩ := bcell hb1; have hz1_0 : w.heap.size < w1.heap.size := lt_below hb1 ltg; have hl1_0 := Nat.le_of_lt hz1_0; have hz1_1 : w.heap.size + 1 < w1.heap.size := lt_below hb1 ltg; have hl1_1 := Nat.le_of_lt hz1_1; have hA1 := bnext (w0 := w) bgo hb1; have hs1 := hA1.size; clear hb1)
      | (have := hA3; go_at_call 41; refine (c4 _).mono ?_; rintro r w4 ⟨rfl, hb4⟩; obtain ⟨hc4, hf4⟩ := bcell hb4; have hz4_0 : w.heap.size < w4.heap.size := lt_below hb4 ltg; have hl4_0 := Nat.le_of_lt hz4_0; have hz4_1 : w.heap.size + 1 < w4.heap.size := lt_below hb4 ltg; have hl4_1 := Nat.le_of_lt hz4_1; have hA4 := bnext (w0 := w) bgo hb4; have hs4 := hA4.size; clear hb4)
      | (go_at_call 41; refine (c3 _).mono ?_; rintro r w3 ⟨rfl, hb3⟩; obtain ⟨hc3, hf3⟩ := bcell hb3; have hz3_0 : w.heap.size < w3.heap.size := lt_below hb3 ltg; have hl3_0 := Nat.le_of_lt hz3_0; have hz3_1 : w.heap.size + 1 < w3.heap.size := lt_below hb3 ltg; have hl3_1 := Nat.le_of_lt hz3_1; have hA3 := bnext (w0 := w) bgo hb3; have hs3 := hA3.size; clear hb3))
    go_ret
    exact ⟨by first | rfl | simp, bgo⟩
set_option maxHeartbeats 4000000 in
theorem sz_meet (L U L' U' R : Int) (h : ¬ U ≤ L') (h' : ¬ U' ≤ L)
    (c1 : ∀ W, Calls Tryz.prog 22 #[OV c s g x k b] W fun r w' => r = .returned (.bool false) ∧ Below W.heap.size W w')
    (c2 : ∀ W, Calls Tryz.prog 22 #[OV c' s' g' x' k' b'] W fun r w' => r = .returned (.bool false) ∧ Below W.heap.size W w')
    (c3 : ∀ W, Calls Tryz.prog 41 #[OV c s g x k b] W fun r w' => r = .returned (.tuple #[.int .i64 L, .int .i64 U]) ∧ Below W.heap.size W w')
    (c4 : ∀ W, Calls Tryz.prog 41 #[OV c' s' g' x' k' b'] W fun r w' => r = .returned (.tuple #[.int .i64 L', .int .i64 U']) ∧ Below W.heap.size W w')
    (c5 : ∀ W, Calls Tryz.prog 42 #[OV c s g x k b, OV c' s' g' x' k' b'] W fun r w' => r = .returned (.int .i64 R) ∧ Below W.heap.size W w') :
    Calls Tryz.prog 26 #[OV c s g x k b, OV c' s' g' x' k' b'] w fun r w' => r = .returned (.int .i64 R) ∧ Below w.heap.size w w' := by
  have hsm := cell_set_map
  go_enter Tryz.func26, Tryz.ntmps26
  go_wp2_with (first
    | (have := hA1; go_at_call 22; refine (c2 _).mono ?_; rintro r w2 ⟨rfl, hb2⟩; obtain ⟨hc2, hf2⟩ := bcell hb2; have hz2_0 : w.heap.size < w2.heap.size := lt_below hb2 ltg; have hl2_0 := Nat.le_of_lt hz2_0; have hz2_1 : w.heap.size + 1 < w2.heap.size := lt_below hb2 ltg; have hl2_1 := Nat.le_of_lt hz2_1; have hA2 := bnext (w0 := w) bgo hb2; have hs2 := hA2.size; clear hb2)
    | (go_at_call 22; refine (c1 _).mono ?_; rintro r w1 ⟨rfl, hb1⟩; obtain ⟨hc1, hf1⟩ := bcell hb1; have hz1_0 : w.heap.size < w1.heap.size := lt_below hb1 ltg; have hl1_0 := Nat.le_of_lt hz1_0; have hz1_1 : w.heap.size + 1 < w1.heap.size := lt_below hb1 ltg; have hl1_1 := Nat.le_of_lt hz1_1; have hA1 := bnext (w0 := w) bgo hb1; have hs1 := hA1.size; clear hb1)
    | (have := hA3; go_at_call 41; refine (c4 _).mono ?_; rintro r w4 ⟨rfl, hb4⟩; obtain ⟨hc4, hf4⟩ := bcell hb4; have hz4_0 : w.heap.size < w4.heap.size := lt_below hb4 ltg; have hl4_0 := Nat.le_of_lt hz4_0; have hz4_1 : w.heap.size + 1 < w4.heap.size := lt_below hb4 ltg; have hl4_1 := Nat.le_of_lt hz4_1; have hA4 := bnext (w0 := w) bgo hb4; have hs4 := hA4.size; clear hb4)
    | (go_at_call 41; refine (c3 _).mono ?_; rintro r w3 ⟨rfl, hb3⟩; obtain ⟨hc3, hf3⟩ := bcell hb3; have hz3_0 : w.heap.size < w3.heap.size := lt_below hb3 ltg; have hl3_0 := Nat.le_of_lt hz3_0; have hz3_1 : w.heap.size + 1 < w3.heap.size := lt_below hb3 ltg; have hl3_1 := Nat.le_of_lt hz3_1; have hA3 := bnext (w0 := w) bgo hb3; have hs3 := hA3.size; clear hb3)
    | (go_at_call 42; refine (c5 _).mono ?_; rintro r w5 ⟨rfl, hb5⟩; obtain ⟨hc5, hf5⟩ := bcell hb5; have hz5_0 : w.heap.size < w5.heap.size := lt_below hb5 ltg; have hl5_0 := Nat.le_of_lt hz5_0; have hz5_1 : w.heap.size + 1 < w5.heap.size := lt_below hb5 ltg; have hl5_1 := Nat.le_of_lt hz5_1; have hA5 := bnext (w0 := w) bgo hb5; have hs5 := hA5.size; clear hb5))
  go_ret
  exact ⟨by first | rfl | simp, bgo⟩
end
theorem orc_v {b : Int} {X : Nat} (hX : X = 2 ∨ X = 10) (hb : b = (X : Int)) (c x : Int) (s g : Bool) (k : Nat) (hk : k < 2 ^ 256) (hx : -20000 ≤ x ∧ x ≤ 20000) (hx10 : X = 10 → -10000 ≤ x ∧ x ≤ 10000) (w : World) : Calls Tryz.prog 41 #[OV c s g x k b] w fun r w' => r = .returned (.tuple #[.int .i64 (rcL X x k), .int .i64 (rcU X x k)]) ∧ Below w.heap.size w w' := by
  subst hb
  rcases hX with rfl | rfl
  · exact reach_2 c x s g k hk w hx
  · exact reach_10 c x s g k hk w (hx10 rfl)
/-- sizes, by value -/
theorem osz_v {X Y : Nat} (hX : X = 2 ∨ X = 10) (hY : Y = 2 ∨ Y = 10) {c x b : Int} {s g : Bool} {k : Nat} {c' x' b' : Int} {s' g' : Bool} {k' : Nat} (hb : b = (X : Int)) (hb' : b' = (Y : Int)) (hc : c = 1 ∨ c = 2) (hc' : c' = 1 ∨ c' = 2) (hk : k < 2 ^ 256) (hk' : k' < 2 ^ 256)
    (hx : -20000 ≤ x ∧ x ≤ 20000) (hx' : -20000 ≤ x' ∧ x' ≤ 20000) (hx10 : X = 10 → -10000 ≤ x ∧ x ≤ 10000) (hy10 : Y = 10 → -10000 ≤ x' ∧ x' ≤ 10000) (w : World) :
    Calls Tryz.prog 26 #[OV c s g x k b, OV c' s' g' x' k' b'] w fun r w' => r = .returned (.int .i64 (szV c k X x c' k' Y x')) ∧ Below w.heap.size w w' := by
  unfold szV
  by_cases h2 : c = 2 ∨ c' = 2
  · rw [if_pos h2]
    refine sz_inf c x b s g k c' x' b' s' g' k' w ?_
    rcases hc with rfl | rfl
    · rcases h2 with h | rfl
      · omega
      · exact Or.inr ⟨rfl, rfl⟩
    · exact Or.inl rfl
  · rw [if_neg h2]
    obtain rfl : c = 1 := by omega
    obtain rfl : c' = 1 := by omega
    have c1 := fun W => ont_v 1 x b s g k hk W
    have c2 := fun W => ont_v 1 x' b' s' g' k' hk' W
    have e1 : decide ((1 : Int) = 1 ∧ k = 0) = decide (k = 0) := by simp
    have e2 : decide ((1 : Int) = 1 ∧ k' = 0) = decide (k' = 0) := by simp
    rw [e1] at c1
    rw [e2] at c2
    by_cases h0 : k = 0 ∨ k' = 0
    · rw [if_pos h0]
      refine sz_nought 1 x b s g k hk 1 x' b' s' g' k' hk' w rfl rfl _ _ ?_ c1 c2 _ (fun W v v' hv hv' => ncmp_v (by decide) (by decide) hv hv')
      by_cases hk0 : k = 0
      · exact Or.inl (decide_eq_true hk0)
      · exact Or.inr ⟨decide_eq_false hk0, decide_eq_true (by omega)⟩
    · rw [if_neg h0]
      have hk0 : k ≠ 0 := fun h => h0 (Or.inl h)
      have hk0' : k' ≠ 0 := fun h => h0 (Or.inr h)
      rw [decide_eq_false hk0] at c1
      rw [decide_eq_false hk0'] at c2
      have c3 := fun W => orc_v hX hb 1 x s g k hk hx hx10 W
      have c4 := fun W => orc_v hY hb' 1 x' s' g' k' hk' hx' hy10 W
      by_cases hf : rcU X x k ≤ rcL Y x' k'
      · have := rc_far hX hY hk0 hk0' hf
        rw [show sgn ((k * X ^ x.toNat * (1 * Y ^ (-x').toNat) : Nat) : Int) ((k' * Y ^ x'.toNat * (1 * X ^ (-x).toNat) : Nat) : Int) = -1 by unfold sgn; rw [if_pos (by omega)]]
        exact sz_far 1 x b s g k hk 1 x' b' s' g' k' hk' w rfl rfl _ _ _ _ _ (Or.inl ⟨hf, rfl⟩) c1 c2 c3 c4
      · by_cases hf' : rcU Y x' k' ≤ rcL X x k
        · have := rc_far hY hX hk0' hk0 hf'
          rw [show sgn ((k * X ^ x.toNat * (1 * Y ^ (-x').toNat) : Nat) : Int) ((k' * Y ^ x'.toNat * (1 * X ^ (-x).toNat) : Nat) : Int) = 1 by unfold sgn; rw [if_neg (by omega), if_pos (by omega)]]
          exact sz_far 1 x b s g k hk 1 x' b' s' g' k' hk' w rfl rfl _ _ _ _ _ (Or.inr ⟨hf, hf', rfl⟩) c1 c2 c3 c4
        · exact sz_meet 1 x b s g k hk 1 x' b' s' g' k' hk' w rfl rfl _ _ _ _ _ hf hf' c1 c2 c3 c4 (fun W => onr_v hX hY hb hb' hk hk' hx hx' (rc_meet hX hY hk hk' hx hx' hx10 hy10 hf hf') W)
end Go.Proofs.YtgknbdehlmlipabGreatDoor

namespace Go.Proofs.YtgknbdehlmlipabGreatDoor
open Go.RowKit
/-- signed, of what the sizes are -/
def sgV (s s' : Bool) (r q : Int) : Int := if s && s' then q else if s then -1 else if s' then 1 else r
def szD (a : Dat) (X : Nat) (b : Dat) (Y : Nat) : Int := szV a.c a.k X a.x b.c b.k Y b.x
def outD (a b : Dat) (X : Nat) : Int :=
  if a.c ≠ b.c then sgn a.c b.c
  else if a.c ≠ 3 then (if szD a X b X ≠ 0 then szD a X b X else sgn a.x b.x)
  else if a.g ≠ b.g then (if a.g then -1 else 1)
  else sgn (a.k : Int) (b.k : Int)
theorem szD_N {a b : Dat} {X Y : Nat} (h1 : ¬ (a.c = 2 ∨ b.c = 2)) (h2 : ¬ (a.k = 0 ∨ b.k = 0)) : szD a X b Y = sgn ((oN a X * oD b Y : Nat) : Int) ((oN b Y * oD a X : Nat) : Int) := by
  unfold szD szV
  rw [if_neg h1, if_neg h2]
  rfl
theorem szD_swap (a b : Dat) (X Y : Nat) : szD b Y a X = - szD a X b Y := by
  unfold szD szV
  by_cases h : a.c = 2 ∨ b.c = 2
  · rw [if_pos h, if_pos h.symm, sgn_neg a.c]
  · rw [if_neg h, if_neg (fun q => h q.symm)]
    by_cases h2 : a.k = 0 ∨ b.k = 0
    · rw [if_pos h2, if_pos h2.symm, sgn_neg (a.k : Int)]
    · rw [if_neg h2, if_neg (fun q => h2 q.symm), sgn_neg ((a.k * X ^ a.x.toNat * (1 * Y ^ (-b.x).toNat) : Nat) : Int)]
theorem sgV_ff (r q : Int) : sgV false false r q = r := rfl
theorem sgV_tf (r q : Int) : sgV true false r q = -1 := rfl
theorem sgV_ft (r q : Int) : sgV false true r q = 1 := rfl
theorem sgV_tt (r q : Int) : sgV true true r q = q := rfl
def nghtD (d : Dat) : Prop := d.c = 1 ∧ d.k = 0
instance (d : Dat) : Decidable (nghtD d) := inferInstanceAs (Decidable (_ ∧ _))
theorem oS_n {d : Dat} (h : nghtD d) : oS d = 0 := if_pos h
theorem oS_y {d : Dat} (h : ¬ nghtD d) : oS d = if d.s then -1 else 1 := if_neg h
theorem szD_n1 {a b : Dat} {X Y : Nat} (ha : nghtD a) (hb : ¬ nghtD b) (hbc : b.c = 1 ∨ b.c = 2) : szD a X b Y = -1 := by
  obtain ⟨a1, a2⟩ := ha
  unfold szD szV
  rcases hbc with h | h
  · have hk : b.k ≠ 0 := fun q => hb ⟨h, q⟩
    rw [if_neg (by omega), if_pos (Or.inl a2), a2]
    unfold sgn
    rw [if_pos (by omega)]
  · rw [if_pos (Or.inr h), a1, h]
    decide
/-- by value: signed sizes, but of two noughts -/
theorem oV_sg {a b : Dat} {X Y : Nat} (ha : a.c = 1 ∨ a.c = 2) (hb : b.c = 1 ∨ b.c = 2) (h0 : ¬ (nghtD a ∧ nghtD b)) : sgV a.s b.s (szD a X b Y) (szD b Y a X) = oV a X b Y := by
  by_cases hna : nghtD a
  · have hnb : ¬ nghtD b := fun h => h0 ⟨hna, h⟩
    have e1 := szD_n1 (X := X) (Y := Y) hna hnb hb
    rw [szD_swap a b X Y, e1, oV_a (Or.inr (oS_n hna)), oS_n hna, oS_y hnb]
    cases a.s <;> cases b.s <;> decide
  · by_cases hnb : nghtD b
    · have e1 := szD_n1 (X := Y) (Y := X) hnb hna ha
      rw [szD_swap b a Y X, e1, oV_swap b Y a X, oV_a (Or.inr (oS_n hnb)), oS_n hnb, oS_y hna]
      cases a.s <;> cases b.s <;> decide
    · have ea := oS_y hna
      have eb := oS_y hnb
      by_cases hs : a.s = b.s
      · have hS : oS a = oS b := by rw [ea, eb, hs]
        have hS0 : oS a ≠ 0 := by rw [ea]; cases a.s <;> decide
        have key : oV a X b Y = oS a * szD a X b Y := by
          by_cases h2 : a.c = 2 ∨ b.c = 2
          · rw [oV_b hS hS0 h2]
            unfold szD szV
            rw [if_pos h2]
          · have ka : ¬ (a.k = 0 ∨ b.k = 0) := by
              rintro (h | h)
              · exact hna ⟨by omega, h⟩
              · exact hnb ⟨by omega, h⟩
            rw [oV_c hS hS0 h2, szD_N h2 ka]
        rw [key, ea, szD_swap a b X Y, ← hs]
        cases a.s
        · rw [sgV_ff]; simp
        · rw [sgV_tt]; simp
      · rw [oV_a (Or.inl (by rw [ea, eb]; revert hs; cases a.s <;> cases b.s <;> decide)), ea, eb]
        revert hs
        cases a.s <;> cases b.s <;> intro hs <;> first | (exact absurd rfl hs) | simp [sgV, sgn]
theorem szD_nn {a b : Dat} {X Y : Nat} (ha : nghtD a) (hb : nghtD b) : szD a X b Y = 0 := by
  obtain ⟨a1, a2⟩ := ha
  obtain ⟨b1, b2⟩ := hb
  unfold szD szV
  rw [if_neg (by omega), if_pos (Or.inl a2), a2, b2]
  exact sgn_self _
theorem oV_nn {a b : Dat} {X Y : Nat} (ha : nghtD a) (hb : nghtD b) : oV a X b Y = 0 := by
  rw [oV_a (Or.inr (oS_n ha)), oS_n ha, oS_n hb]; decide
theorem oV_same {a b : Dat} {X Y : Nat} (ha : a.c = 1 ∨ a.c = 2) (hb : b.c = 1 ∨ b.c = 2) (hs : a.s = b.s) : oV a X b Y = if a.s then szD b Y a X else szD a X b Y := by
  by_cases h : nghtD a ∧ nghtD b
  · rw [oV_nn h.1 h.2, szD_nn h.1 h.2, szD_nn h.2 h.1, ite_self]
  · rw [← oV_sg ha hb h, ← hs]
    cases a.s
    · rw [sgV_ff]; rfl
    · rw [sgV_tt]; rfl
/-- the order of data: signed, from the noughts outward -/
theorem oT_sg {a b : Dat} {X : Nat} (ha : a.c = 1 ∨ a.c = 2 ∨ a.c = 3) (hb : b.c = 1 ∨ b.c = 2 ∨ b.c = 3) : sgV a.s b.s (outD a b X) (outD b a X) = oT a b X := by
  by_cases hs : a.s = b.s
  · by_cases h3 : a.c = 3
    · by_cases h3' : b.c = 3
      · have c0 : ¬ a.c ≠ b.c := fun h => h (h3.trans h3'.symm)
        have c0' : ¬ b.c ≠ a.c := fun h => h (h3'.trans h3.symm)
        unfold outD oT oR oG
        rw [if_neg c0, if_neg c0', if_neg (show ¬ a.c ≠ 3 from fun h => h h3), if_neg (show ¬ b.c ≠ 3 from fun h => h h3'), if_pos h3, if_pos h3', if_pos h3, ← hs]
        rw [sgn_neg (a.k : Int) (b.k : Int)]
        generalize sgn (a.k : Int) (b.k : Int) = z
        cases a.s <;> cases a.g <;> cases b.g <;> simp [sgV, sgn]
      · have c0 : a.c ≠ b.c := by omega
        unfold outD oT oR
        rw [if_pos c0, if_pos (Ne.symm c0), if_pos h3, if_neg h3', ← hs, h3]
        have hb2 : b.c = 1 ∨ b.c = 2 := by omega
        rcases hb2 with e | e <;> rw [e] <;> cases a.s <;> cases a.g <;> simp [sgV, sgn]
    · by_cases h3' : b.c = 3
      · have c0 : a.c ≠ b.c := by omega
        unfold outD oT oR
        rw [if_pos c0, if_pos (Ne.symm c0), if_neg h3, if_pos h3', ← hs, h3']
        have ha2 : a.c = 1 ∨ a.c = 2 := by omega
        rcases ha2 with e | e <;> rw [e] <;> cases a.s <;> cases b.g <;> simp [sgV, sgn]
      · have ha2 : a.c = 1 ∨ a.c = 2 := by omega
        have hb2 : b.c = 1 ∨ b.c = 2 := by omega
        have eR : oR a = oR b := by unfold oR; rw [if_neg h3, if_neg h3', hs]
        have eV := oV_same (X := X) (Y := X) ha2 hb2 hs
        unfold oT
        rw [if_neg (fun h => h eR), if_neg h3, eV, ← hs]
        unfold outD oG
        by_cases hc : a.c = b.c
        · rw [if_neg (show ¬ a.c ≠ b.c from fun h => h hc), if_neg (show ¬ b.c ≠ a.c from fun h => h hc.symm), if_pos h3, if_pos h3']
          rw [sgn_neg a.x b.x]
          generalize szD a X b X = z
          generalize szD b X a X = y
          cases a.s
          · rw [sgV_ff]
            by_cases hz : z = 0 <;> simp [hz]
          · rw [sgV_tt]
            by_cases hz : y = 0 <;> simp [hz]
        · rw [if_pos hc, if_pos (Ne.symm hc)]
          have h2 : a.c = 2 ∨ b.c = 2 := by omega
          have e1 : szD a X b X = sgn a.c b.c := by unfold szD szV; rw [if_pos h2]
          have e2 : szD b X a X = sgn b.c a.c := by unfold szD szV; rw [if_pos h2.symm]
          rw [e1, e2]
          have hor : (a.c = 1 ∧ b.c = 2) ∨ (a.c = 2 ∧ b.c = 1) := by omega
          rcases hor with ⟨q1, q2⟩ | ⟨q1, q2⟩ <;> rw [q1, q2] <;> cases a.s <;> simp [sgV, sgn]
  · have hR : ∀ d : Dat, (d.s = true → oR d ≤ -1) ∧ (d.s = false → 1 ≤ oR d) := by
      intro d
      unfold oR
      constructor <;> intro h <;> rw [h] <;> simp only [if_true, Bool.false_eq_true, if_false] <;> split <;> (try split) <;> omega
    have h1 := hR a
    have h2 := hR b
    unfold oT
    revert hs h1 h2
    cases a.s <;> cases b.s <;> intro hs h1 h2
    · exact absurd rfl hs
    · have p := h1.2 rfl
      have q := h2.1 rfl
      rw [if_pos (by omega), sgV_ft]
      unfold sgn
      rw [if_neg (by omega), if_pos (by omega)]
    · have p := h1.1 rfl
      have q := h2.2 rfl
      rw [if_pos (by omega), sgV_tf]
      unfold sgn
      rw [if_pos (by omega)]
    · exact absurd rfl hs
end Go.Proofs.YtgknbdehlmlipabGreatDoor
