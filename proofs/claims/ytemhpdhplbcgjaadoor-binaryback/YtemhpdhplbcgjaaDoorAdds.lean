/-
  What the law NatAdds does: it returns true.
-/
import Derived.Test.YtemhpdhplbcgjaaDoorNln
set_option linter.unusedVariables false
set_option linter.unusedSimpArgs false
set_option maxRecDepth 20000
set_option maxRecDepth 20000
namespace Go.Proofs.YtemhpdhplbcgjaaDoor
open Go.RowKit

def subE (V W : Int) : Int := if V < W then 3 else 0
def subV (V W : Int) : Int := if V < W then 0 else V - W
theorem num_none (w : World) : Num w none 0 0 (fun _ => 0) := ⟨Nat.le_refl _, by unfold maxLen; omega, fun _ => (by decide : (0 : Int) ≤ 0 ∧ (0 : Int) ≤ 18446744073709551615), fun _ _ => rfl, Or.inl ⟨rfl, rfl⟩⟩
end Go.Proofs.YtemhpdhplbcgjaaDoor
