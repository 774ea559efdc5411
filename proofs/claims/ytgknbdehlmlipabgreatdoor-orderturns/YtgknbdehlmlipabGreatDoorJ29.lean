/-
  Texts that the proof leans on.
-/
import Derived.Test.YtgknbdehlmlipabGreatDoorJ26
import Derived.Test.YtgknbdehlmlipabGreatDoorJ22
import Derived.Test.YtgknbdehlmlipabGreatDoorJ19
import Derived.Test.YtgknbdehlmlipabGreatDoorJ20
import Derived.Deep.Cut
import Derived.Deep.CutRange
import Derived.Laws.IdiomCopy
import Derived.Test.YtgknbdehlmlipabGreatDoorJ24
import Derived.Test.YtgknbdehlmlipabGreatDoorJ23
import Derived.Test.YtgknbdehlmlipabGreatDoorJ17
import Derived.Test.YtgknbdehlmlipabGreatDoorJ9
import Derived.Test.YtgknbdehlmlipabGreatDoorJ16
import Derived.Test.YtgknbdehlmlipabGreatDoorJ11
import Derived.Deep.RegionWith
set_option linter.unusedVariables false
set_option linter.unusedSectionVars false
set_option linter.unusedSimpArgs false
set_option maxRecDepth 20000
namespace Go.Proofs.YtgknbdehlmlipabGreatDoor
open Go.RowKit

def whC (d : Int) (s : Bool) (A B : Nat) : Nat := if faB d s (decide (A / B % 2 = 1)) (A % B) B then A / B + 1 else A / B
end Go.Proofs.YtgknbdehlmlipabGreatDoor

namespace Go.Proofs.YtgknbdehlmlipabGreatDoor
open Go.RowKit

theorem five_bl (k : Nat) : bl (5 ^ k) ≤ 3 * k + 1 := by
  refine bl_le.2 ?_
  have h1 : 5 ^ k ≤ 8 ^ k := Nat.pow_le_pow_left (by decide) k
  have h2 : (8 : Nat) ^ k = 2 ^ (3 * k) := by rw [Nat.pow_mul]
  have h3 : (2 : Nat) ^ (3 * k) < 2 ^ (3 * k + 1) := Nat.pow_lt_pow_right (by decide) (by omega)
  omega
theorem bl_mul (a b : Nat) : bl (a * b) ≤ bl a + bl b := by
  refine bl_le.2 ?_
  rw [Nat.pow_add]
  have h1 := bl_le.1 (Nat.le_refl (bl a))
  have h2 := bl_le.1 (Nat.le_refl (bl b))
  exact Nat.mul_lt_mul'' h1 h2
attribute [local irreducible] W4 Nz Nt
end Go.Proofs.YtgknbdehlmlipabGreatDoor

namespace Go.Proofs.YtgknbdehlmlipabGreatDoor
open Go.RowKit

/-- a number or nothing -/
def NN (K X : Nat) (v : Value) (w : World) : Prop := (v = .slice none 0 0 ∧ X = 0) ∨ NT K X v w
theorem NN.next {K X : Nat} {v : Value} {w w' : World} (h : NN K X v w) (hb : Below w.heap.size w w') : NN K X v w' := by
  rcases h with h | h
  · exact Or.inl h
  · exact Or.inr (h.next hb)
attribute [local irreducible] W4 NT NV NN
end Go.Proofs.YtgknbdehlmlipabGreatDoor
