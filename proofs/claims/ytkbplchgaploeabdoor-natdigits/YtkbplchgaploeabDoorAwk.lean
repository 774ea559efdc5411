/-
  What the statements' awake, few and same do: contracts.
-/
import Derived.Test.YtkbplchgaploeabDoorDig
set_option linter.unusedVariables false
set_option linter.unusedSimpArgs false
namespace Go.Proofs.YtkbplchgaploeabDoor
open Go.RowKit

/-- the words of 2^64 -/
def twoW (i : Nat) : Int := if i = 1 then 1 else 0
theorem dec64 : decL 18446744073709551616 38 = [49, 56, 52, 52, 54, 55, 52, 52, 48, 55, 51, 55, 48, 57, 53, 53, 49, 54, 49, 54] := by decide +kernel

set_option maxRecDepth 20000 in
set_option maxHeartbeats 400000 in
theorem awake_any (w : World) : Calls Tryd.prog 5 #[] w fun e w' => e = .returned (.bool true) ∧ Below w.heap.size w w' := by
  have hW : Words twoW := fun i => by unfold twoW; split <;> decide
  have hN : Num (w.alloc (.cells #[.int .u64 0, .int .u64 1] 34)) (some ⟨w.heap.size, 0, none⟩) 2 2 twoW := num_of_block (by omega) hW (fun i hi => by unfold twoW; rw [if_neg (by omega)]) rfl (fun j hj => match j, hj with | 0, _ => rfl | 1, _ => rfl)
  have hD := digits_any _ 2 2 twoW _ (by omega) hN (Nat.le_trans (sizeL_le _ _) (by omega))
  have hv : val twoW 2 = 18446744073709551616 := by decide +kernel
  rw [hv] at hD
  have hD' : Calls Tryd.prog 6 #[.slice (some ⟨w.heap.size, 0, none⟩) 2 2] (w.alloc (.cells #[.int .u64 0, .int .u64 1] 34)) fun e w' => e = .returned (.tuple #[.string ⟨#[49, 56, 52, 52, 54, 55, 52, 52, 48, 55, 51, 55, 48, 57, 53, 53, 49, 54, 49, 54]⟩, .int .i64 0]) ∧ Below w.heap.size w w' :=
    hD.mono fun e w' ⟨L, h1, h2, h3⟩ => ⟨by rw [h2, decL_more (L' := 38) (by decide) h1 (by decide), dec64]; rfl, (below1 w _).trans (h3.mono (by simp))⟩
  clear hD hN hW hv
  go_enter Tryd.func5, Tryd.ntmps5
  go_wp2_with (go_at_call 6; refine hD'.mono ?_; rintro e w' ⟨rfl, hB⟩)
  go_ret
  exact ⟨rfl, hB⟩
end Go.Proofs.YtkbplchgaploeabDoor
