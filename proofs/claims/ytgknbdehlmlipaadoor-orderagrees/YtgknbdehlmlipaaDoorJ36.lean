/-
  Texts that the proof leans on.
-/
import Derived.Test.YtgknbdehlmlipaaDoorJ19
import Derived.Test.YtgknbdehlmlipaaDoorJ18
import Derived.Test.YtgknbdehlmlipaaDoorJ17
import Derived.Test.YtgknbdehlmlipaaDoorJ11
import Derived.Test.YtgknbdehlmlipaaDoorJ21
import Derived.Test.YtgknbdehlmlipaaDoorJ27
import Derived.Test.YtgknbdehlmlipaaDoorJ32
import Derived.Deep.Cut
import Derived.Deep.CutRange
import Derived.Test.YtgknbdehlmlipaaDoorJ23
import Derived.Deep.RegionWith
import Derived.Test.YtgknbdehlmlipaaDoorJ28
import Derived.Test.YtgknbdehlmlipaaDoorJ29
import Derived.Test.YtgknbdehlmlipaaDoorJ7
import Derived.Test.YtgknbdehlmlipaaDoorJ6
set_option linter.unusedVariables false
set_option linter.unusedSectionVars false
set_option linter.unusedSimpArgs false
set_option maxRecDepth 20000
namespace Go.Proofs.YtgknbdehlmlipaaDoor
open Go.RowKit

theorem val_odd {z : Nat → Int} {k V : Nat} (hk : 0 < k) (hv : val z k = (V : Int)) : (V : Int) % 2 = z 0 % 2 := by
  have key : ∀ j, val z (j + 1) % 2 = z 0 % 2 := by
    intro j
    induction j with
    | zero => simp [val]
    | succ j ih =>
      have : val z (j + 1 + 1) = val z (j + 1) + z (j + 1) * 18446744073709551616 ^ (j + 1) := rfl
      rw [this, Int.pow_succ, show z (j + 1) * (18446744073709551616 ^ j * 18446744073709551616) = 2 * (z (j + 1) * 18446744073709551616 ^ j * 9223372036854775808) by grind, Int.add_mul_emod_self_left]
      exact ih
  obtain ⟨j, rfl⟩ : ∃ j, k = j + 1 := ⟨k - 1, by omega⟩
  rw [← hv]; exact key j
attribute [local irreducible] NV NT
end Go.Proofs.YtgknbdehlmlipaaDoor

namespace Go.Proofs.YtgknbdehlmlipaaDoor
open Go.RowKit

/-- the parts with this sign -/
def Prt.at (p : Prt) (s : Bool) : Prt := ⟨p.cls, s, p.sn, p.dig, p.ex⟩
/-! Make by value -/
/-! Read by value -/
end Go.Proofs.YtgknbdehlmlipaaDoor
