/-
  Texts that the proof leans on.
-/
import Derived.Test.YtgknbdehlmlipaaDoorJ23
import Derived.Test.YtgknbdehlmlipaaDoorJ17
set_option linter.unusedSectionVars false
set_option linter.unusedVariables false
set_option linter.unusedSimpArgs false
set_option maxRecDepth 100000
namespace Go.Proofs.YtgknbdehlmlipaaDoor
open Go.ChangeShapes Go.WideShapes Go.ChangeAt Go.RowKit

section
variable {H : Type} {enc : TypeId × Value → H} {W : World} {r : Reach} {base b : Nat} {sp : Nat → Bool} {held : Bool} {t : TypeId} {n : Nat} {v : Value} {d : DataW H} {p : List MemPlace}
theorem open_bits (hok : Value.okWide Tryd.prog W r base 24 v) (h : DataW.Trod enc Tryd.prog W b sp held 24 v d p) : ∃ A, A < 2 ^ 256 ∧ v = A4 A ∧ p = [] := by
  obtain ⟨x, hx, rfl, hp⟩ := open_words Tryd.underlying24 (by kernel_rfl) hok h
  obtain ⟨A, hA, he, _⟩ := words_A4 hx
  exact ⟨A, hA, he, hp⟩
theorem bits_stay {W' : World} {sp' : Nat → Bool} (h : DataW.Trod enc Tryd.prog W 0 (fun _ => true) true 24 v d []) : DataW.Trod enc Tryd.prog W' 0 sp' true 24 v d [] :=
  WideElems.Trod_stays Tryd.laidOut (by kernel_rfl) (of_decide_eq_true (by kernel_rfl)) h (by simp) (by simp)
end
end Go.Proofs.YtgknbdehlmlipaaDoor
