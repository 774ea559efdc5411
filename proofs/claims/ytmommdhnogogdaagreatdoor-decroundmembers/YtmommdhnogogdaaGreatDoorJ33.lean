/-
  Texts that the proof leans on, joined: Rdc.
-/
import Derived.Test.YtmommdhnogogdaaGreatDoorJ19
import Derived.Test.YtmommdhnogogdaaGreatDoorJ20
import Derived.Test.YtmommdhnogogdaaGreatDoorJ31
set_option linter.unusedVariables false
set_option linter.unusedSimpArgs false
set_option maxRecDepth 20000
set_option linter.unusedSectionVars false
namespace Go.Proofs.YtmommdhnogogdaaGreatDoor
open Go.RowKit

theorem lt_sizeL {V : Int} (h0 : 0 ≤ V) : ∀ L, V < 10 ^ L → V < 10 ^ (sizeL (dgt V) L)
  | 0, h => h
  | L + 1, h => by
    by_cases e : dgt V L = 0
    · have e1 : sizeL (dgt V) (L + 1) = sizeL (dgt V) L := by simp [sizeL, e]
      rw [e1]
      refine lt_sizeL h0 L ?_
      unfold dgt at e
      have hp := p10_pos L
      rw [Int.pow_succ] at h
      have h1 : V / 10 ^ L < 10 := Int.ediv_lt_of_lt_mul hp (by omega)
      have h2 : 0 ≤ V / 10 ^ L := Int.ediv_nonneg h0 (by omega)
      have h3 : V / 10 ^ L = 0 := by omega
      have := Int.lt_mul_ediv_self_add (x := V) (k := 10 ^ L) hp
      rw [h3] at this; omega
    · have e1 : sizeL (dgt V) (L + 1) = L + 1 := by simp [sizeL, e]
      rw [e1]; exact h
def revL (V : Int) (K : Nat) : List Int := (List.range K).map fun i => 48 + dgt V (K - 1 - i)
end Go.Proofs.YtmommdhnogogdaaGreatDoor
