/-
  Texts that the proof leans on.
-/
import Derived.Test.YtpemdcnneabbfaaGreatDoorJ31
import Derived.Test.YtpemdcnneabbfaaGreatDoorJ41
set_option linter.unusedVariables false
set_option linter.unusedSectionVars false
set_option linter.unusedSimpArgs false
set_option maxRecDepth 20000
namespace Go.Proofs.YtpemdcnneabbfaaGreatDoor
open Go.RowKit
/-- ten to the power of e isn't above N / D -/
def tnG (N D : Nat) (e : Int) : Prop := D * 10 ^ e.toNat ≤ N * 10 ^ (-e).toNat
instance (N D : Nat) (e : Int) : Decidable (tnG N D e) := inferInstanceAs (Decidable (_ ≤ _))
theorem ten_pos (n : Nat) : 0 < (10 : Nat) ^ n := Nat.pow_pos (by decide)
/-- a step of p, from q on -/
theorem tnG_add (N D p : Nat) (q : Int) : tnG N D (q + p) ↔ D * 10 ^ q.toNat * 10 ^ p ≤ N * 10 ^ (-q).toNat := by
  unfold tnG
  by_cases h0 : 0 ≤ q
  · rw [show (-(q + (p : Int))).toNat = 0 by omega, show (-q).toNat = 0 by omega, show (q + (p : Int)).toNat = q.toNat + p by omega, Nat.pow_add, Nat.mul_assoc]
  · by_cases h1 : 0 ≤ q + (p : Int)
    · obtain ⟨a, ha⟩ : ∃ a : Nat, q = -(a : Int) := ⟨(-q).toNat, by omega⟩
      obtain ⟨b, hb⟩ : ∃ b : Nat, p = a + b := ⟨p - a, by omega⟩
      subst hb
      rw [show (-(q + ((a + b : Nat) : Int))).toNat = 0 by omega, show (-q).toNat = a by omega, show (q + ((a + b : Nat) : Int)).toNat = b by omega, show q.toNat = 0 by omega, Nat.pow_zero, Nat.mul_one, Nat.mul_one, Nat.pow_add, Nat.mul_comm (10 ^ a), ← Nat.mul_assoc]
      exact (Nat.mul_le_mul_right_iff (ten_pos a)).symm
    · obtain ⟨a, ha⟩ : ∃ a : Nat, q + (p : Int) = -(a : Int) := ⟨(-(q + p)).toNat, by omega⟩
      rw [show (-(q + (p : Int))).toNat = a by omega, show (q + (p : Int)).toNat = 0 by omega, show q.toNat = 0 by omega, show (-q).toNat = a + p by omega, Nat.pow_zero, Nat.mul_one, Nat.pow_add, ← Nat.mul_assoc]
      exact (Nat.mul_le_mul_right_iff (ten_pos p)).symm
theorem tnG_le {N D : Nat} {e e' : Int} (h : tnG N D e) (he : e' ≤ e) : tnG N D e' := by
  obtain ⟨p, rfl⟩ : ∃ p : Nat, e = e' + p := ⟨(e - e').toNat, by omega⟩
  have := (tnG_add N D p e').1 h
  unfold tnG
  exact Nat.le_trans (Nat.le_mul_of_pos_right _ (ten_pos p)) this
/-- the first digit's place of N / D -/
def TnE (N D : Nat) (E : Int) : Prop := tnG N D E ∧ ¬ tnG N D (E + 1)
theorem TnE.only {N D : Nat} {E E' : Int} (h : TnE N D E) (h' : TnE N D E') : E = E' := by
  rcases Int.lt_trichotomy E E' with q | q | q
  · exact absurd (tnG_le h'.1 (by omega)) h.2
  · exact q
  · exact absurd (tnG_le h.1 (by omega)) h'.2
/-- the exponent that rounding starts from -/
def dkQ (f : DF) (E : Int) : Int := max f.l (E - 3 * f.j)
def dkA (N : Nat) (q : Int) : Nat := N * 10 ^ (-q).toNat
def dkZ (D : Nat) (q : Int) : Nat := D * 10 ^ q.toNat
/-- the whole number that a direction takes -/
def dkC0 (f : DF) (d : Int) (s : Bool) (N D : Nat) (E : Int) : Nat := whC d s (dkA N (dkQ f E)) (dkZ D (dkQ f E))
/-- exactly -/
def dkX (f : DF) (N D : Nat) (E : Int) : Bool := decide (dkA N (dkQ f E) % dkZ D (dkQ f E) = 0)
/-- behind a carry -/
def dkC (f : DF) (d : Int) (s : Bool) (N D : Nat) (E : Int) : Nat := if 10 ^ (3 * f.j + 1) ≤ dkC0 f d s N D E then 10 ^ (3 * f.j) else dkC0 f d s N D E
def dkE (f : DF) (d : Int) (s : Bool) (N D : Nat) (E : Int) : Int := if 10 ^ (3 * f.j + 1) ≤ dkC0 f d s N D E then dkQ f E + 1 else dkQ f E
/-- the greatest exponent -/
def DF.m (f : DF) : Int := f.l + 3 * 2 ^ f.w - 1
/-- of a cohort the member nearest to an exponent -/
def mbr (m want : Int) : Nat → Nat → Int → Nat × Int
  | 0, c, q => (c, q)
  | k + 1, c, q => if q < want ∧ q < m ∧ c % 10 = 0 then mbr m want k (c / 10) (q + 1) else (c, q)
def dkM (f : DF) (d : Int) (s : Bool) (N D : Nat) (E want : Int) : Nat × Int := mbr f.m want (f.m - dkE f d s N D E).toNat (dkC f d s N D E) (dkE f d s N D E)
/-- what a fraction that isn't 0 is rounded to, and the flags -/
def dkD (f : DF) (d : Int) (s : Bool) (N D : Nat) (E want : Int) : Dat :=
  if f.m < dkE f d s N D E then (if inB d s then ⟨2, s, false, 0, 0⟩ else ⟨1, s, false, f.m, 10 ^ (3 * f.j + 1) - 1⟩)
  else if dkX f N D E then ⟨1, s, false, (dkM f d s N D E want).2, (dkM f d s N D E want).1⟩ else ⟨1, s, false, dkE f d s N D E, dkC f d s N D E⟩
def dkF (f : DF) (d : Int) (s : Bool) (N D : Nat) (E : Int) : Int :=
  if f.m < dkE f d s N D E then 10 else if dkX f N D E then 0 else if E < f.l + 3 * f.j then 12 else 8
end Go.Proofs.YtpemdcnneabbfaaGreatDoor
