/-
  Texts that the proof leans on.
-/
import Derived.Test.YtehgnckgmdkfmaaDoorJ35
import Derived.Test.YtehgnckgmdkfmaaDoorJ5
set_option linter.unusedVariables false
set_option linter.unusedSectionVars false
set_option linter.unusedSimpArgs false
set_option maxRecDepth 20000
namespace Go.Proofs.YtehgnckgmdkfmaaDoor
open Go.RowKit
section
attribute [local irreducible] W4
attribute [local go_sem ↓] ld18_eq
attribute [local go_sem] ld18_got
section
variable (n : Int) (B : Nat) (w : World) (hT : Tab w)
include hT
set_option maxHeartbeats 2000000 in
theorem dfor_n (c1 : ∀ W, Tab W → Calls Tryd.prog 37 #[.int .i64 n, A4 B] W fun r w' => r = .returned (.bool false) ∧ Below W.heap.size W w') :
    Calls Tryd.prog 19 #[.int .i64 n, A4 B] w fun r w' => r = .returned (.tuple #[ZL, .int .i64 1]) ∧ Below w.heap.size w w' := by
  have hsm := cell_set_map
  go_enter Tryd.func19, Tryd.ntmps19
  go_wp2_with (go_at_call 37; refine (c1 _ ((hT.alloc _).alloc _)).mono ?_; rintro r w1 ⟨rfl, hb1⟩; obtain ⟨hc1, hf1⟩ := bcell hb1; have hz1_0 : w.heap.size < w1.heap.size := lt_below hb1 ltg; have hl1_0 := Nat.le_of_lt hz1_0; have hz1_1 : w.heap.size + 1 < w1.heap.size := lt_below hb1 ltg; have hl1_1 := Nat.le_of_lt hz1_1; have hA1 := bnext (w0 := w) bgo hb1; have hs1 := hA1.size; clear hb1)
  exact bodyPost_ret (by simp only [results, Tryd.results19]; go_simp) rfl ⟨rfl, bgo⟩
variable (c1 : ∀ W, Tab W → Calls Tryd.prog 37 #[.int .i64 n, A4 B] W fun r w' => r = .returned (.bool true) ∧ Below W.heap.size W w')
include c1
set_option maxHeartbeats 2000000 in
theorem dfor_b (c2 : ∀ W, Tab W → Calls Tryd.prog 22 #[.int .i64 n] W fun r w' => r = .returned (.tuple #[ZL, .int .i64 1]) ∧ Below W.heap.size W w') :
    Calls Tryd.prog 19 #[.int .i64 n, A4 B] w fun r w' => r = .returned (.tuple #[ZL, .int .i64 1]) ∧ Below w.heap.size w w' := by
  have hsm := cell_set_map
  go_enter Tryd.func19, Tryd.ntmps19
  go_wp2_with (first
    | (go_at_call 37; refine (c1 _ ((hT.alloc _).alloc _)).mono ?_; rintro r w1 ⟨rfl, hb1⟩; have hT1 := ((hT.alloc _).alloc _).go hb1; obtain ⟨hc1, hf1⟩ := bcell hb1; have hz1_0 : w.heap.size < w1.heap.size := lt_below hb1 ltg; have hl1_0 := Nat.le_of_lt hz1_0; have hz1_1 : w.heap.size + 1 < w1.heap.size := lt_below hb1 ltg; have hl1_1 := Nat.le_of_lt hz1_1; have hA1 := bnext (w0 := w) bgo hb1; have hs1 := hA1.size; clear hb1)
    | (go_at_call 22; refine (c2 _ hT1).mono ?_; rintro r w2 ⟨rfl, hb2⟩; obtain ⟨hc2, hf2⟩ := bcell hb2; have hz2_0 : w.heap.size < w2.heap.size := lt_below hb2 ltg; have hl2_0 := Nat.le_of_lt hz2_0; have hz2_1 : w.heap.size + 1 < w2.heap.size := lt_below hb2 ltg; have hl2_1 := Nat.le_of_lt hz2_1; have hA2 := bnext (w0 := w) bgo hb2; have hs2 := hA2.size; clear hb2))
  exact bodyPost_ret (by simp only [results, Tryd.results19]; go_simp) rfl ⟨rfl, bgo⟩
set_option maxHeartbeats 2000000 in
theorem dfor_y (dn : Bool) (g t bl : Int) (wo co pa : Nat) (le mo : Int)
    (c2 : ∀ W, Tab W → Calls Tryd.prog 22 #[.int .i64 n] W fun r w' => r = .returned (.tuple #[LD dn g t bl wo co pa le mo, .int .i64 0]) ∧ Below W.heap.size W w') :
    Calls Tryd.prog 19 #[.int .i64 n, A4 B] w fun r w' => r = .returned (.tuple #[LD dn g t bl wo co pa le mo, .int .i64 0]) ∧ Below w.heap.size w w' := by
  have hsm := cell_set_map
  go_enter Tryd.func19, Tryd.ntmps19
  go_wp2_with (first
    | (go_at_call 37; refine (c1 _ ((hT.alloc _).alloc _)).mono ?_; rintro r w1 ⟨rfl, hb1⟩; have hT1 := ((hT.alloc _).alloc _).go hb1; obtain ⟨hc1, hf1⟩ := bcell hb1; have hz1_0 : w.heap.size < w1.heap.size := lt_below hb1 ltg; have hl1_0 := Nat.le_of_lt hz1_0; have hz1_1 : w.heap.size + 1 < w1.heap.size := lt_below hb1 ltg; have hl1_1 := Nat.le_of_lt hz1_1; have hA1 := bnext (w0 := w) bgo hb1; have hs1 := hA1.size; clear hb1)
    | (go_at_call 22; refine (c2 _ hT1).mono ?_; rintro r w2 ⟨rfl, hb2⟩; obtain ⟨hc2, hf2⟩ := bcell hb2; have hz2_0 : w.heap.size < w2.heap.size := lt_below hb2 ltg; have hl2_0 := Nat.le_of_lt hz2_0; have hz2_1 : w.heap.size + 1 < w2.heap.size := lt_below hb2 ltg; have hl2_1 := Nat.le_of_lt hz2_1; have hA2 := bnext (w0 := w) bgo hb2; have hs2 := hA2.size; clear hb2))
  exact bodyPost_ret (v := .tuple #[LD dn g t bl wo co pa le mo, .int .i64 0]) (by simp only [results, Tryd.results19]; go_simp) rfl ⟨rfl, bgo⟩
end
end
end Go.Proofs.YtehgnckgmdkfmaaDoor
