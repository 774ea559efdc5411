/-
  Texts that the proof leans on.
-/
import Derived.Test.YtehgnckgmdkfmaaDoorJ35
import Derived.Test.YtehgnckgmdkfmaaDoorJ5
set_option linter.unusedVariables false
set_option linter.unusedSectionVars false
set_option linter.unusedSimpArgs false
set_option maxRecDepth 20000
namespace Go.Proofs.YtehgnckgmdkfmaaDoor
open Go.RowKit
section
attribute [local irreducible] W4
attribute [local go_sem ↓] ld18_eq
attribute [local go_sem] ld18_got
section
variable (n : Int) (w : World) (hT : Tab w)
include hT
variable (dn : Bool) (g t bl : Int) (wo co pa : Nat) (le mo : Int)
variable (B : Nat) (c1 : ∀ W, Tab W → Calls Tryd.prog 19 #[.int .i64 n, A4 B] W fun r w' => r = .returned (.tuple #[LD dn g t bl wo co pa le mo, .int .i64 0]) ∧ Below W.heap.size W w')
  (c x E : Int) (s q : Bool) (k P : Nat)
  (c2 : ∀ W, Calls Tryd.prog 20 #[LD dn g t bl wo co pa le mo, A4 B] W fun r w' => r = .returned (DV c s q x k) ∧ Below W.heap.size W w')
  (c3 : ∀ W, Calls Tryd.prog 21 #[LD dn g t bl wo co pa le mo, DV c s q x k] W fun r w' => r = .returned (.tuple #[A4 P, .int .i64 E]) ∧ Below W.heap.size W w')
include c1 c2 c3
set_option maxHeartbeats 4000000 in
theorem dunp_y (R : Bool) (hR : decide (W4 P 0 = W4 B 0 ∧ W4 P 1 = W4 B 1 ∧ W4 P 2 = W4 B 2 ∧ W4 P 3 = W4 B 3) = R) : Calls Tryd.prog 14 #[.int .i64 n, A4 B] w fun r w' => r = .returned (.tuple #[DV c s q x k, .bool R, .int .i64 0]) ∧ Below w.heap.size w w' := by
  have hsm := cell_set_map
  have hq := eq24 (W4 P 0) (W4 P 1) (W4 P 2) (W4 P 3) (W4 B 0) (W4 B 1) (W4 B 2) (W4 B 3)
  rw [hR] at hq
  go_enter Tryd.func14, Tryd.ntmps14
  go_wp2_with (first
    | (go_at_call 19; refine (c1 _ ((hT.alloc _).alloc _)).mono ?_; rintro r w1 ⟨rfl, hb1⟩; obtain ⟨hc1, hf1⟩ := bcell hb1; have hz1_0 : w.heap.size < w1.heap.size := lt_below hb1 ltg; have hl1_0 := Nat.le_of_lt hz1_0; have hz1_1 : w.heap.size + 1 < w1.heap.size := lt_below hb1 ltg; have hl1_1 := Nat.le_of_lt hz1_1; have hA1 := bnext (w0 := w) bgo hb1; have hs1 := hA1.size; clear hb1)
    | (go_at_call 20; refine (c2 _).mono ?_; rintro r w2 ⟨rfl, hb2⟩; obtain ⟨hc2, hf2⟩ := bcell hb2; have hz2_0 : w.heap.size < w2.heap.size := lt_below hb2 ltg; have hl2_0 := Nat.le_of_lt hz2_0; have hz2_1 : w.heap.size + 1 < w2.heap.size := lt_below hb2 ltg; have hl2_1 := Nat.le_of_lt hz2_1; have hz2_2 : w1.heap.size < w2.heap.size := lt_below hb2 ltg; have hl2_2 := Nat.le_of_lt hz2_2; have hA2 := bnext (w0 := w) bgo hb2; have hs2 := hA2.size; clear hb2)
    | (go_at_call 21; refine (c3 _).mono ?_; rintro r w3 ⟨rfl, hb3⟩; obtain ⟨hc3, hf3⟩ := bcell hb3; have hz3_0 : w.heap.size < w3.heap.size := lt_below hb3 ltg; have hl3_0 := Nat.le_of_lt hz3_0; have hz3_1 : w.heap.size + 1 < w3.heap.size := lt_below hb3 ltg; have hl3_1 := Nat.le_of_lt hz3_1; have hz3_2 : w1.heap.size < w3.heap.size := lt_below hb3 ltg; have hl3_2 := Nat.le_of_lt hz3_2; have hz3_3 : w2.heap.size < w3.heap.size := lt_below hb3 ltg; have hl3_3 := Nat.le_of_lt hz3_3; have hA3 := bnext (w0 := w) bgo hb3; have hs3 := hA3.size; clear hb3))
  go_region_with (fail)
  all_goals
    go_wp2
    exact bodyPost_ret (v := .tuple #[DV c s q x k, .bool R, .int .i64 0]) (by simp only [results, Tryd.results14]; go_simp) rfl ⟨rfl, bgo⟩
end
end
end Go.Proofs.YtehgnckgmdkfmaaDoor
