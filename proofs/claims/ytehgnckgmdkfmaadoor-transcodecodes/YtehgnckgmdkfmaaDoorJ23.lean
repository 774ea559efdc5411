/-
  Texts that the proof leans on.
-/
import Derived.Test.YtehgnckgmdkfmaaDoorJ15
import Derived.Test.YtehgnckgmdkfmaaDoorJ17
import Derived.Test.YtehgnckgmdkfmaaDoorJ11
import Derived.Laws.IdiomCopy
import Derived.Deep.Cut
import Derived.Deep.CutRange
import Derived.Test.YtehgnckgmdkfmaaDoorJ9
import Derived.Lib.RabinKarpLaws
import Derived.Test.YtehgnckgmdkfmaaDoorJ10
import Derived.Deep.RegionWith
import Derived.Test.YtehgnckgmdkfmaaDoorJ19
import Derived.Test.YtehgnckgmdkfmaaDoorJ14
import Derived.Test.YtehgnckgmdkfmaaDoorJ20
set_option linter.unusedVariables false
set_option linter.unusedSectionVars false
set_option linter.unusedSimpArgs false
set_option maxRecDepth 20000
namespace Go.Proofs.YtehgnckgmdkfmaaDoor
open Go.RowKit
theorem tnE_find {N D : Nat} (lo : Int) (h : tnG N D lo) : ∀ k : Nat, ¬ tnG N D (lo + k) → ∃ E, TnE N D E
  | 0, h' => absurd (by simpa using h) h'
  | k + 1, h' => by
    by_cases hk : tnG N D (lo + k)
    · exact ⟨lo + k, hk, by rw [show lo + (k : Int) + 1 = lo + ((k + 1 : Nat) : Int) by omega]; exact h'⟩
    · exact tnE_find lo h k hk
theorem tnE_ex {N D : Nat} (hN : 0 < N) (hD : 0 < D) : ∃ E, TnE N D E := by
  refine tnE_find (-(D : Int)) ?_ (N + D) ?_
  · unfold tnG
    rw [show (-(D : Int)).toNat = 0 by omega, Int.neg_neg, Int.toNat_natCast, Nat.pow_zero, Nat.mul_one]
    have h1 : D < 10 ^ D := Nat.lt_pow_self (by decide)
    exact Nat.le_trans (Nat.le_of_lt h1) (Nat.le_mul_of_pos_left _ hN)
  · rw [show -(D : Int) + ((N + D : Nat) : Int) = (N : Int) by omega]
    unfold tnG
    rw [show (-(N : Int)).toNat = 0 by omega, Int.toNat_natCast, Nat.pow_zero, Nat.mul_one]
    have h1 : N < 10 ^ N := Nat.lt_pow_self (by decide)
    have h2 : 10 ^ N ≤ D * 10 ^ N := Nat.le_mul_of_pos_left _ hD
    omega
/-- the exponent as the document takes it -/
def clT (x : Int) : Int := min (max x (-20000)) 20000
end Go.Proofs.YtehgnckgmdkfmaaDoor
