/-
  Texts that the proof leans on.
-/
import Derived.Test.YtgknbdehlmlipabGreatDoorJ31
import Derived.Test.YtgknbdehlmlipabGreatDoorJ29
import Derived.Test.YtgknbdehlmlipabGreatDoorJ32
import Derived.Test.YtgknbdehlmlipabGreatDoorJ26
import Derived.Deep.Cut
import Derived.Deep.CutRange
import Derived.Deep.RegionWith
import Derived.Test.YtgknbdehlmlipabGreatDoorJ22
import Derived.Test.YtgknbdehlmlipabGreatDoorJ19
import Derived.Test.YtgknbdehlmlipabGreatDoorJ20
import Derived.Laws.IdiomCopy
import Derived.Test.YtgknbdehlmlipabGreatDoorJ24
import Derived.Test.YtgknbdehlmlipabGreatDoorJ23
import Derived.Test.YtgknbdehlmlipabGreatDoorJ30
import Derived.Test.YtgknbdehlmlipabGreatDoorJ34
import Derived.Test.YtgknbdehlmlipabGreatDoorJ17
import Derived.Test.YtgknbdehlmlipabGreatDoorJ9
import Derived.Test.YtgknbdehlmlipabGreatDoorJ21
set_option linter.unusedVariables false
set_option linter.unusedSectionVars false
set_option linter.unusedSimpArgs false
set_option maxRecDepth 20000
namespace Go.Proofs.YtgknbdehlmlipabGreatDoor
open Go.RowKit
theorem tnE_find {N D : Nat} (lo : Int) (h : tnG N D lo) : ∀ k : Nat, ¬ tnG N D (lo + k) → ∃ E, TnE N D E
  | 0, h' => absurd (by simpa using h) h'
  | k + 1, h' => by
    by_cases hk : tnG N D (lo + k)
    · exact ⟨lo + k, hk, by rw [show lo + (k : Int) + 1 = lo + ((k + 1 : Nat) : Int) by omega]; exact h'⟩
    · exact tnE_find lo h k hk
theorem tnE_ex {N D : Nat} (hN : 0 < N) (hD : 0 < D) : ∃ E, TnE N D E := by
  refine tnE_find (-(D : Int)) ?_ (N + D) ?_
  · unfold tnG
    rw [show (-(D : Int)).toNat = 0 by omega, Int.neg_neg, Int.toNat_natCast, Nat.pow_zero, Nat.mul_one]
    have h1 : D < 10 ^ D := Nat.lt_pow_self (by decide)
    exact Nat.le_trans (Nat.le_of_lt h1) (Nat.le_mul_of_pos_left _ hN)
  · rw [show -(D : Int) + ((N + D : Nat) : Int) = (N : Int) by omega]
    unfold tnG
    rw [show (-(N : Int)).toNat = 0 by omega, Int.toNat_natCast, Nat.pow_zero, Nat.mul_one]
    have h1 : N < 10 ^ N := Nat.lt_pow_self (by decide)
    have h2 : 10 ^ N ≤ D * 10 ^ N := Nat.le_mul_of_pos_left _ hD
    omega
/-- the exponent as the document takes it -/
def clT (x : Int) : Int := min (max x (-20000)) 20000
theorem ok_m {f : DF} (h : f.ok) : -10000 ≤ f.m ∧ f.m ≤ 10000 ∧ -10000 ≤ f.l ∧ f.l ≤ 10000 ∧ f.l ≤ f.m ∧ 2 ≤ f.j ∧ f.j ≤ 11 := by
  unfold DF.m
  rcases h with ⟨h1, h2, h3, h4⟩ | ⟨h1, h2, h3, h4⟩ | ⟨h1, h2, h3, h4⟩ <;> rw [h2, h3, h4] <;> decide
end Go.Proofs.YtgknbdehlmlipabGreatDoor

namespace Go.Proofs.YtgknbdehlmlipabGreatDoor
open Go.RowKit
/-- the exponent of a fraction's first digit -/
noncomputable def tnX (N D : Nat) : Int := open Classical in if h : ∃ E, TnE N D E then Classical.choose h else 0
theorem tnX_is {N D : Nat} (hN : 0 < N) (hD : 0 < D) : TnE N D (tnX N D) := by
  have h := tnE_ex hN hD
  unfold tnX
  rw [dif_pos h]
  exact Classical.choose_spec h
/-- what decround answers -/
def rqE (n d : Int) (N D : Nat) : Int := if decN n ∧ knB d ∧ D ≠ 0 then (if 25600 < bl N ∨ 25600 < bl D then 4 else 0) else 1
noncomputable def rqD (n d : Int) (s : Bool) (N D : Nat) (x y : Int) : Dat :=
  if rqE n d N D = 0 then (if N = 0 then ⟨1, s, false, min (max y (fD n).l) (fD n).m, 0⟩ else dkD (fD n) d s (N * 10 ^ (clT x).toNat) (D * 10 ^ (-(clT x)).toNat) (tnX (N * 10 ^ (clT x).toNat) (D * 10 ^ (-(clT x)).toNat)) y) else ⟨0, false, false, 0, 0⟩
noncomputable def rqF (n d : Int) (s : Bool) (N D : Nat) (x : Int) : Int :=
  if rqE n d N D = 0 then (if N = 0 then 0 else dkF (fD n) d s (N * 10 ^ (clT x).toNat) (D * 10 ^ (-(clT x)).toNat) (tnX (N * 10 ^ (clT x).toNat) (D * 10 ^ (-(clT x)).toNat))) else 0
end Go.Proofs.YtgknbdehlmlipabGreatDoor
