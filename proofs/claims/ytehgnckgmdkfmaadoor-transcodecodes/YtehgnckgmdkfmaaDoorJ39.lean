/-
  Texts that the proof leans on.
-/
import Derived.Test.YtehgnckgmdkfmaaDoorJ35
import Derived.Test.YtehgnckgmdkfmaaDoorJ5
set_option linter.unusedVariables false
set_option linter.unusedSectionVars false
set_option linter.unusedSimpArgs false
set_option maxRecDepth 20000
namespace Go.Proofs.YtehgnckgmdkfmaaDoor
open Go.RowKit
section
attribute [local irreducible] W4
attribute [local go_sem ↓] ld18_eq
attribute [local go_sem] ld18_got
section
variable (n : Int) (w : World) (hT : Tab w)
include hT
set_option maxHeartbeats 2000000 in
theorem dunp_n (B : Nat) (c1 : ∀ W, Tab W → Calls Tryd.prog 19 #[.int .i64 n, A4 B] W fun r w' => r = .returned (.tuple #[ZL, .int .i64 1]) ∧ Below W.heap.size W w') :
    Calls Tryd.prog 14 #[.int .i64 n, A4 B] w fun r w' => r = .returned (.tuple #[.agg #[.int .i64 0, .bool false, .bool false, .int .i64 0, .int .u64 0, .int .u64 0, .int .u64 0, .int .u64 0], .bool false, .int .i64 1]) ∧ Below w.heap.size w w' := by
  have hsm := cell_set_map
  go_enter Tryd.func14, Tryd.ntmps14
  go_wp2_with (go_at_call 19; refine (c1 _ ((hT.alloc _).alloc _)).mono ?_; rintro r w1 ⟨rfl, hb1⟩; obtain ⟨hc1, hf1⟩ := bcell hb1; have hz1_0 : w.heap.size < w1.heap.size := lt_below hb1 ltg; have hl1_0 := Nat.le_of_lt hz1_0; have hz1_1 : w.heap.size + 1 < w1.heap.size := lt_below hb1 ltg; have hl1_1 := Nat.le_of_lt hz1_1; have hA1 := bnext (w0 := w) bgo hb1; have hs1 := hA1.size; clear hb1)
  exact bodyPost_ret (by simp only [results, Tryd.results14]; go_simp) rfl ⟨rfl, bgo⟩
end
end
end Go.Proofs.YtehgnckgmdkfmaaDoor
