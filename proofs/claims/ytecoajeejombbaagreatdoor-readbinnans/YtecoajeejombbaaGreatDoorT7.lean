/-
  Texts that the proof leans on, joined: Xf.
-/
import Derived.Test.YtecoajeejombbaaGreatDoorT3
import Derived.Test.YtecoajeejombbaaGreatDoorT5
import Derived.Deep.Cut
import Derived.Deep.CutRange
import Derived.Test.YtecoajeejombbaaGreatDoorT4
import Derived.Test.YtecoajeejombbaaGreatDoorT6
import Derived.Test.YtecoajeejombbaaGreatDoorTE
set_option linter.unusedVariables false
set_option linter.unusedSectionVars false
set_option linter.unusedSimpArgs false
set_option maxRecDepth 20000
namespace Go.Proofs.YtecoajeejombbaaGreatDoor
open Go.RowKit

theorem bin_true {n : Int} (hb : binN n) (W : World) : Calls Tryz.prog 22 #[.int .i64 n] W fun r w' => r = .returned (.bool true) ∧ W = w' := by
  have := rbinary_any n W
  rw [decide_eq_true hb] at this
  exact this.mono fun _ _ ⟨h1, h2⟩ => ⟨h1, h2.symm⟩
theorem dir_true {d : Int} (hk : knB d) (W : World) : Calls Tryz.prog 15 #[.int .i64 d] W fun r w' => r = .returned (.bool true) ∧ W = w' := by
  have := rdir_any d W
  rw [decide_eq_true hk] at this
  exact this
theorem pl_isD {f : Nat} {l m : Int} (s g : Bool) (A : Nat) (hf : 2 ≤ f) : isD f l m ⟨3, s, g, 0, plV f g A⟩ := by
  refine Or.inr (Or.inr ⟨rfl, rfl, ?_, ?_⟩)
  · show plV f g A < 2 ^ (f - 1)
    have h : plA f A < 2 ^ (f - 1) := by
      unfold plA
      split
      · exact Nat.two_pow_pos _
      · rename_i h
        exact bl_le.1 (by omega)
    unfold plV
    split
    · exact Nat.one_lt_two_pow (by omega)
    · exact h
  · show plV f g A ≠ 0 ∨ g = false
    cases g
    · exact Or.inr rfl
    · left
      unfold plV
      split
      · decide
      · rename_i h
        intro h2
        exact h ⟨rfl, h2⟩
theorem fN_ge {n : Int} (hb : binN n) : 2 ≤ fN n := by
  rcases bin_cases hb with rfl | rfl | rfl | rfl | rfl | rfl <;> decide
end Go.Proofs.YtecoajeejombbaaGreatDoor
