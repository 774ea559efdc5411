/-
  What the law GrammarCases does, of every text: it returns true.
-/
import Derived.Test.YtgjdhfmpemionaaDoorGq
set_option linter.unusedVariables false
set_option linter.unusedSimpArgs false
set_option maxRecDepth 20000
namespace Go.Proofs.YtgjdhfmpemionaaDoor
open Go.RowKit

set_option maxHeartbeats 1000000 in
theorem grammarCases_any (l : List UInt8) (u : Int) (w : World) (hu : 0 ≤ u ∧ u ≤ 18446744073709551615) : Calls Tryd.prog 6 #[.string (B l), .int .u64 u] w fun x w' => x = .returned (.bool true) ∧ Below w.heap.size w w' := by
  by_cases h : l.length ≤ 3000
  · exact cases_loop l u w h hu
  · have hsz := B_size l
    have c8 := awake7
    have hi : (3000 : Int) < l.length := by omega
    have hB : Below w.heap.size w w := Below.refl _ _
    go_enter Tryd.func6, Tryd.ntmps6
    go_wp2_with (first | (go_at_call 8; refine (c8 _).mono ?_; rintro x w1 ⟨rfl, hb1⟩; replace hB := bnext hB hb1; clear hb1))
    go_ret
    exact ⟨rfl, hB⟩
end Go.Proofs.YtgjdhfmpemionaaDoor
