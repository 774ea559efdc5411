/-
  What same and Same do at two equal data: contracts.
-/
import Derived.Test.YtcjbdmgaooojlaaDoorHld
set_option linter.unusedVariables false
set_option linter.unusedSimpArgs false
namespace Go.Proofs.YtcjbdmgaooojlaaDoor
open Go.RowKit

set_option maxHeartbeats 400000 in
theorem irsame_any (a0 a2 a3 a4 a5 a6 a7 a8 : Int) (s : ByteArray) (d : Bool) (w : World) :
    Calls Tryd.prog 28 #[.agg #[.int .i64 a0, .string s, .int .i64 a2, .int .i64 a3, .int .i64 a4, .int .i64 a5, .int .i64 a6, .int .i64 a7, .int .i64 a8, .bool d], .agg #[.int .i64 a0, .string s, .int .i64 a2, .int .i64 a3, .int .i64 a4, .int .i64 a5, .int .i64 a6, .int .i64 a7, .int .i64 a8, .bool d]] w fun e w' => e = .returned (.bool true) ∧ Below w.heap.size w w' := by
  go_enter Tryd.func28, Tryd.ntmps28
  go_wp2
  go_ret
  exact ⟨rfl, below2' _ _ _⟩
set_option maxHeartbeats 400000 in
theorem isame_any (a0 a2 a3 a4 a5 a6 a7 a8 : Int) (s : ByteArray) (d : Bool) (w : World) :
    Calls Tryd.prog 13 #[.agg #[.int .i64 a0, .string s, .int .i64 a2, .int .i64 a3, .int .i64 a4, .int .i64 a5, .int .i64 a6, .int .i64 a7, .int .i64 a8, .bool d], .agg #[.int .i64 a0, .string s, .int .i64 a2, .int .i64 a3, .int .i64 a4, .int .i64 a5, .int .i64 a6, .int .i64 a7, .int .i64 a8, .bool d]] w fun e w' => e = .returned (.bool true) ∧ Below w.heap.size w w' := by
  go_enter Tryd.func13, Tryd.ntmps13
  go_wp2_with (go_at_call 28; refine (irsame_any _ _ _ _ _ _ _ _ _ _ _).mono ?_; rintro e w1 ⟨rfl, hb⟩)
  go_ret
  exact ⟨rfl, (below2' w _ _).trans (hb.mono (below2' w _ _).size)⟩
theorem same_info (n : Int) (w : World) : Calls Tryd.prog 13 #[.agg (infoV n), .agg (infoV n)] w fun e w' => e = .returned (.bool true) ∧ Below w.heap.size w w' := by
  rw [infoV_eq]; exact isame_any _ _ _ _ _ _ _ _ _ _ w
end Go.Proofs.YtcjbdmgaooojlaaDoor
