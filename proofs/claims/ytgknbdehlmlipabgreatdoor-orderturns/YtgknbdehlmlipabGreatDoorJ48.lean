/-
  Texts that the proof leans on.
-/
import Derived.Test.YtgknbdehlmlipabGreatDoorJ40
import Derived.Test.YtgknbdehlmlipabGreatDoorJ35
import Derived.Test.YtgknbdehlmlipabGreatDoorJ26
import Derived.Test.YtgknbdehlmlipabGreatDoorJ29
import Derived.Test.YtgknbdehlmlipabGreatDoorJ43
import Derived.Test.YtgknbdehlmlipabGreatDoorJ23
import Derived.Test.YtgknbdehlmlipabGreatDoorJ11
import Derived.Shelf.SlicesE.Reverse
import Derived.Test.YtgknbdehlmlipabGreatDoorJ19
import Derived.Laws.BytesArg
import Derived.RegionTactic
import Derived.ChangeAlike
import Derived.BigRegion
import Derived.Laws.Strings2
import Derived.Lib.AppendStr
import Derived.Lib.Builder
import Derived.Deep.AppendLies
import Derived.Test.YtgknbdehlmlipabGreatDoorJ32
import Derived.Test.YtgknbdehlmlipabGreatDoorJ45
import Derived.Deep.Cut
import Derived.Deep.CutRange
import Derived.Deep.RegionWith
import Derived.Test.YtgknbdehlmlipabGreatDoorJ22
import Derived.Test.YtgknbdehlmlipabGreatDoorJ20
import Derived.Laws.IdiomCopy
import Derived.Test.YtgknbdehlmlipabGreatDoorJ24
import Derived.Test.YtgknbdehlmlipabGreatDoorJ30
import Derived.Test.YtgknbdehlmlipabGreatDoorJ31
import Derived.Test.YtgknbdehlmlipabGreatDoorJ34
import Derived.Test.YtgknbdehlmlipabGreatDoorJ36
set_option linter.unusedVariables false
set_option linter.unusedSectionVars false
set_option linter.unusedSimpArgs false
set_option maxRecDepth 20000
namespace Go.Proofs.YtgknbdehlmlipabGreatDoor
open Go.RowKit
attribute [local irreducible] W4 Nt NT
section
variable {a : Act} {w : World} {K : Act → World → Prop} {Q : Exit → Act → World → Prop} {d p q : Nat} {ty : TypeId} {pos : String} {after : Array Edge} {gd : Option (Nat × Bool)}
end
/-- what stands while the statement is under way -/
def K10 (ws : World) (gd N : Nat) (c0 cv : Array Value) (L : Nat → Prop) (f : Nat → Value) (w : World) : Prop :=
  (L 6 → L 12 ∨ NT 1001 N (f 52) w) ∧ (L 7 → L 12 ∨ NT 1 1 (f 53) w) ∧ (¬ L 16 → Below ws.heap.size ws w ∧ D8 gd c0 w) ∧ (L 16 → ∃ w0, Below ws.heap.size ws w0 ∧ w = w0.setCells gd 0 cv.toList)
theorem K10.step {ws w : World} {gd N : Nat} {c0 cv : Array Value} {k t : Nat} {L : Nat → Prop} {f : Nat → Value} {v : Value} (h : K10 ws gd N c0 cv L f w) (n16 : ¬ L 16) (h1 : t ≠ 52) (h2 : t ≠ 53) (h3 : k ≠ 6) (h4 : k ≠ 7) (h5 : k ≠ 16) (h6 : k ≠ 12) : K10 ws gd N c0 cv (fun j => L j ∨ j = k) (fun u => if some t = some u then v else f u) w := by
  obtain ⟨a1, a2, a3, a4⟩ := h
  have e52 : (if some t = some 52 then v else f 52) = f 52 := if_neg (fun e => h1 (Option.some.inj e))
  have e53 : (if some t = some 53 then v else f 53) = f 53 := if_neg (fun e => h2 (Option.some.inj e))
  refine ⟨fun h => ?_, fun h => ?_, fun _ => a3 n16, fun h => absurd (h.resolve_right (fun e => h5 e.symm)) n16⟩
  · rcases a1 (h.resolve_right (fun e => h3 e.symm)) with q | q
    · exact Or.inl (Or.inl q)
    · right; show NT 1001 N (if some t = some 52 then v else f 52) w; rw [e52]; exact q
  · rcases a2 (h.resolve_right (fun e => h4 e.symm)) with q | q
    · exact Or.inl (Or.inl q)
    · right; show NT 1 1 (if some t = some 53 then v else f 53) w; rw [e53]; exact q
end Go.Proofs.YtgknbdehlmlipabGreatDoor

namespace Go.Proofs.YtgknbdehlmlipabGreatDoor
open Go.RowKit
attribute [local irreducible] W4 NT NV
/-- what Convert answers -/
def xiG (m t d : Int) (B : Nat) : Prop := goodD m B ∧ binN t ∧ knB d
instance (m t d : Int) (B : Nat) : Decidable (xiG m t d B) := inferInstanceAs (Decidable (_ ∧ _))
end Go.Proofs.YtgknbdehlmlipabGreatDoor
