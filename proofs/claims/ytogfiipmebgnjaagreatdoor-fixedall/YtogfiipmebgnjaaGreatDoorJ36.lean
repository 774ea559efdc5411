/-
  Texts that the proof leans on, joined: Yc.
-/
import Derived.Test.YtogfiipmebgnjaaGreatDoorJ28
import Derived.Test.YtogfiipmebgnjaaGreatDoorJ11
import Derived.Test.YtogfiipmebgnjaaGreatDoorJ29
import Derived.Test.YtogfiipmebgnjaaGreatDoorJ33
import Derived.Test.YtogfiipmebgnjaaGreatDoorJ1
set_option linter.unusedVariables false
set_option linter.unusedSectionVars false
set_option linter.unusedSimpArgs false
set_option maxRecDepth 20000
namespace Go.Proofs.YtogfiipmebgnjaaGreatDoor
open Go.RowKit

section
variable (n : Int) (Bp : Nat) (c : Int) (s g : Bool) (x : Int) (k : Nat) (w : World)
set_option maxHeartbeats 2000000 in
theorem fin9_y (hb : binN n) (c18 : ∀ W, Calls Tryz.prog 27 #[.int .i64 n, A4 Bp] W fun r w' => r = .returned (.tuple #[DV 1 s g x k, .int .i64 0]) ∧ Below W.heap.size W w') (hk : k < 2 ^ 256) (h0 : k ≠ 0) :
    Calls Tryz.prog 13 #[.int .i64 n, A4 Bp] w fun r w' => r = .returned (.tuple #[DV 1 s g x k, .bool true]) ∧ Below w.heap.size w w' := by
  have h24 := eq24 (W4 k 0) (W4 k 1) (W4 k 2) (W4 k 3) 0 0 0 0
  rw [W4_none hk, decide_eq_false h0] at h24
  have c15 := fun W => bin_true hb W
  have hsm := cell_set_map
  unfold DV A4 at *
  go_enter Tryz.func13, Tryz.ntmps13
  go_wp2_with (go_at_call 27; refine (c18 _).mono ?_; rintro r w1 ⟨rfl, hb1⟩; obtain ⟨hc1, hf1⟩ := bcell hb1; have hz1_0 : w.heap.size < w1.heap.size := lt_below hb1 ltg; have hl1_0 := Nat.le_of_lt hz1_0; have hz1_1 : w.heap.size + 1 < w1.heap.size := lt_below hb1 ltg; have hl1_1 := Nat.le_of_lt hz1_1; have hA1 := bnext (w0 := w) bgo hb1; have hs1 := hA1.size; clear hb1)
  go_region_with (go_at_call 39; refine (c15 _).mono ?_; rintro r w2 ⟨rfl, rfl⟩)
  all_goals (go_wp2; exact bodyPost_ret (v := .tuple #[DV 1 s g x k, .bool true]) (by simp only [results, Tryz.results13]; go_simp) rfl ⟨rfl, bgo⟩)
set_option maxHeartbeats 2000000 in
theorem fin9_e (E : Int) (hE : (E == 0) = false) (c18 : ∀ W, Calls Tryz.prog 27 #[.int .i64 n, A4 Bp] W fun r w' => r = .returned (.tuple #[DV c s g x k, .int .i64 E]) ∧ Below W.heap.size W w') :
    Calls Tryz.prog 13 #[.int .i64 n, A4 Bp] w fun r w' => r = .returned (.tuple #[DV c s g x k, .bool false]) ∧ Below w.heap.size w w' := by
  have hsm := cell_set_map
  unfold DV A4 at *
  go_enter Tryz.func13, Tryz.ntmps13
  go_wp2_with (go_at_call 27; refine (c18 _).mono ?_; rintro r w1 ⟨rfl, hb1⟩; obtain ⟨hc1, hf1⟩ := bcell hb1; have hz1_0 : w.heap.size < w1.heap.size := lt_below hb1 ltg; have hl1_0 := Nat.le_of_lt hz1_0; have hz1_1 : w.heap.size + 1 < w1.heap.size := lt_below hb1 ltg; have hl1_1 := Nat.le_of_lt hz1_1; have hA1 := bnext (w0 := w) bgo hb1; have hs1 := hA1.size; clear hb1)
  go_region
  all_goals (go_wp2; exact bodyPost_ret (v := .tuple #[DV c s g x k, .bool false]) (by simp only [results, Tryz.results13]; go_simp) rfl ⟨rfl, bgo⟩)
set_option maxHeartbeats 2000000 in
theorem fin9_c (hc : (c == 1) = false) (c18 : ∀ W, Calls Tryz.prog 27 #[.int .i64 n, A4 Bp] W fun r w' => r = .returned (.tuple #[DV c s g x k, .int .i64 0]) ∧ Below W.heap.size W w') :
    Calls Tryz.prog 13 #[.int .i64 n, A4 Bp] w fun r w' => r = .returned (.tuple #[DV c s g x k, .bool false]) ∧ Below w.heap.size w w' := by
  have hsm := cell_set_map
  unfold DV A4 at *
  go_enter Tryz.func13, Tryz.ntmps13
  go_wp2_with (go_at_call 27; refine (c18 _).mono ?_; rintro r w1 ⟨rfl, hb1⟩; obtain ⟨hc1, hf1⟩ := bcell hb1; have hz1_0 : w.heap.size < w1.heap.size := lt_below hb1 ltg; have hl1_0 := Nat.le_of_lt hz1_0; have hz1_1 : w.heap.size + 1 < w1.heap.size := lt_below hb1 ltg; have hl1_1 := Nat.le_of_lt hz1_1; have hA1 := bnext (w0 := w) bgo hb1; have hs1 := hA1.size; clear hb1)
  go_region
  all_goals (go_wp2; exact bodyPost_ret (v := .tuple #[DV c s g x k, .bool false]) (by simp only [results, Tryz.results13]; go_simp) rfl ⟨rfl, bgo⟩)
set_option maxHeartbeats 2000000 in
theorem fin9_0 (c18 : ∀ W, Calls Tryz.prog 27 #[.int .i64 n, A4 Bp] W fun r w' => r = .returned (.tuple #[DV 1 s g x k, .int .i64 0]) ∧ Below W.heap.size W w') (h0 : k = 0) :
    Calls Tryz.prog 13 #[.int .i64 n, A4 Bp] w fun r w' => r = .returned (.tuple #[DV 1 s g x k, .bool false]) ∧ Below w.heap.size w w' := by
  have h24 := eq24 (W4 k 0) (W4 k 1) (W4 k 2) (W4 k 3) 0 0 0 0
  rw [W4_none (by rw [h0]; decide), decide_eq_true h0] at h24
  clear h0
  have hsm := cell_set_map
  unfold DV A4 at *
  go_enter Tryz.func13, Tryz.ntmps13
  go_wp2_with (go_at_call 27; refine (c18 _).mono ?_; rintro r w1 ⟨rfl, hb1⟩; obtain ⟨hc1, hf1⟩ := bcell hb1; have hz1_0 : w.heap.size < w1.heap.size := lt_below hb1 ltg; have hl1_0 := Nat.le_of_lt hz1_0; have hz1_1 : w.heap.size + 1 < w1.heap.size := lt_below hb1 ltg; have hl1_1 := Nat.le_of_lt hz1_1; have hA1 := bnext (w0 := w) bgo hb1; have hs1 := hA1.size; clear hb1)
  go_region
  all_goals (go_wp2; exact bodyPost_ret (v := .tuple #[DV 1 s g x k, .bool false]) (by simp only [results, Tryz.results13]; go_simp) rfl ⟨rfl, bgo⟩)
end
theorem fin9_n (n : Int) (V : Nat) (hV : V < 2 ^ 256) (h : ¬ (goodN n V ∧ (unD n V).c = 1 ∧ (unD n V).k ≠ 0)) :
    ∃ c s g x k, ∀ W, Calls Tryz.prog 13 #[.int .i64 n, A4 V] W fun r w' => r = .returned (.tuple #[DV c s g x k, .bool false]) ∧ Below W.heap.size W w' := by
  have c18 := fun W => runpack_any n V W hV
  by_cases hg : goodN n V
  · rw [show unE n V = 0 from if_pos hg] at c18
    by_cases hc : (unD n V).c = 1
    · have hk : (unD n V).k = 0 := by
        by_cases hk : (unD n V).k = 0
        · exact hk
        · exact absurd ⟨hg, hc, hk⟩ h
      have eD : (unD n V).v = DV 1 (unD n V).s (unD n V).g (unD n V).x (unD n V).k := by rw [← hc]
      rw [eD] at c18
      exact ⟨_, _, _, _, _, fun W => fin9_0 n V _ _ _ _ W c18 hk⟩
    · exact ⟨_, _, _, _, _, fun W => fin9_c n V _ _ _ _ _ W (beq_eq_false_iff_ne.2 hc) c18⟩
  · rw [show unE n V = 1 from if_neg hg] at c18
    exact ⟨_, _, _, _, _, fun W => fin9_e n V _ _ _ _ _ W 1 (by decide) c18⟩
end Go.Proofs.YtogfiipmebgnjaaGreatDoor
