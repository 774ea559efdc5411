/-
  Texts that the proof leans on.
-/
import Derived.Test.YtehgnckgmdkfmaaDoorJ11
import Derived.Laws.IdiomCopy
import Derived.Test.YtehgnckgmdkfmaaDoorJ9
import Derived.Test.YtehgnckgmdkfmaaDoorJ6
import Derived.Deep.Cut
import Derived.Deep.CutRange
import Derived.Test.YtehgnckgmdkfmaaDoorJ8
import Derived.Lib.RabinKarpLaws
import Derived.Test.YtehgnckgmdkfmaaDoorJ10
import Derived.Deep.RegionWith
set_option linter.unusedVariables false
set_option linter.unusedSectionVars false
set_option linter.unusedSimpArgs false
set_option maxRecDepth 20000
namespace Go.Proofs.YtehgnckgmdkfmaaDoor
open Go.RowKit
/-- the exponent as the document takes it -/
def clZ (x : Int) : Int := min (max x (-200000)) 200000
def sN (N : Nat) (x : Int) : Nat := N * 2 ^ (clZ x).toNat
def whC (d : Int) (s : Bool) (A B : Nat) : Nat := if faB d s (decide (A / B % 2 = 1)) (A % B) B then A / B + 1 else A / B
/-- ten to the power of e isn't above N / D -/
def tnG (N D : Nat) (e : Int) : Prop := D * 10 ^ e.toNat ≤ N * 10 ^ (-e).toNat
instance (N D : Nat) (e : Int) : Decidable (tnG N D e) := inferInstanceAs (Decidable (_ ≤ _))
theorem ten_pos (n : Nat) : 0 < (10 : Nat) ^ n := Nat.pow_pos (by decide)
/-- a step of p, from q on -/
theorem tnG_add (N D p : Nat) (q : Int) : tnG N D (q + p) ↔ D * 10 ^ q.toNat * 10 ^ p ≤ N * 10 ^ (-q).toNat := by
  unfold tnG
  by_cases h0 : 0 ≤ q
  · rw [show (-(q + (p : Int))).toNat = 0 by omega, show (-q).toNat = 0 by omega, show (q + (p : Int)).toNat = q.toNat + p by omega, Nat.pow_add, Nat.mul_assoc]
  · by_cases h1 : 0 ≤ q + (p : Int)
    · obtain ⟨a, ha⟩ : ∃ a : Nat, q = -(a : Int) := ⟨(-q).toNat, by omega⟩
      obtain ⟨b, hb⟩ : ∃ b : Nat, p = a + b := ⟨p - a, by omega⟩
      subst hb
      rw [show (-(q + ((a + b : Nat) : Int))).toNat = 0 by omega, show (-q).toNat = a by omega, show (q + ((a + b : Nat) : Int)).toNat = b by omega, show q.toNat = 0 by omega, Nat.pow_zero, Nat.mul_one, Nat.mul_one, Nat.pow_add, Nat.mul_comm (10 ^ a), ← Nat.mul_assoc]
      exact (Nat.mul_le_mul_right_iff (ten_pos a)).symm
    · obtain ⟨a, ha⟩ : ∃ a : Nat, q + (p : Int) = -(a : Int) := ⟨(-(q + p)).toNat, by omega⟩
      rw [show (-(q + (p : Int))).toNat = a by omega, show (q + (p : Int)).toNat = 0 by omega, show q.toNat = 0 by omega, show (-q).toNat = a + p by omega, Nat.pow_zero, Nat.mul_one, Nat.pow_add, ← Nat.mul_assoc]
      exact (Nat.mul_le_mul_right_iff (ten_pos p)).symm
theorem tnG_le {N D : Nat} {e e' : Int} (h : tnG N D e) (he : e' ≤ e) : tnG N D e' := by
  obtain ⟨p, rfl⟩ : ∃ p : Nat, e = e' + p := ⟨(e - e').toNat, by omega⟩
  have := (tnG_add N D p e').1 h
  unfold tnG
  exact Nat.le_trans (Nat.le_mul_of_pos_right _ (ten_pos p)) this
/-- the first digit's place of N / D -/
def TnE (N D : Nat) (E : Int) : Prop := tnG N D E ∧ ¬ tnG N D (E + 1)
theorem TnE.only {N D : Nat} {E E' : Int} (h : TnE N D E) (h' : TnE N D E') : E = E' := by
  rcases Int.lt_trichotomy E E' with q | q | q
  · exact absurd (tnG_le h'.1 (by omega)) h.2
  · exact q
  · exact absurd (tnG_le h.1 (by omega)) h'.2
/-- the exponent that rounding starts from -/
def dkQ (f : DF) (E : Int) : Int := max f.l (E - 3 * f.j)
def dkA (N : Nat) (q : Int) : Nat := N * 10 ^ (-q).toNat
def dkZ (D : Nat) (q : Int) : Nat := D * 10 ^ q.toNat
/-- the whole number that a direction takes -/
def dkC0 (f : DF) (d : Int) (s : Bool) (N D : Nat) (E : Int) : Nat := whC d s (dkA N (dkQ f E)) (dkZ D (dkQ f E))
/-- exactly -/
def dkX (f : DF) (N D : Nat) (E : Int) : Bool := decide (dkA N (dkQ f E) % dkZ D (dkQ f E) = 0)
/-- behind a carry -/
def dkC (f : DF) (d : Int) (s : Bool) (N D : Nat) (E : Int) : Nat := if 10 ^ (3 * f.j + 1) ≤ dkC0 f d s N D E then 10 ^ (3 * f.j) else dkC0 f d s N D E
def dkE (f : DF) (d : Int) (s : Bool) (N D : Nat) (E : Int) : Int := if 10 ^ (3 * f.j + 1) ≤ dkC0 f d s N D E then dkQ f E + 1 else dkQ f E
/-- the greatest exponent -/
def DF.m (f : DF) : Int := f.l + 3 * 2 ^ f.w - 1
/-- of a cohort the member nearest to an exponent -/
def mbr (m want : Int) : Nat → Nat → Int → Nat × Int
  | 0, c, q => (c, q)
  | k + 1, c, q => if q < want ∧ q < m ∧ c % 10 = 0 then mbr m want k (c / 10) (q + 1) else (c, q)
def dkM (f : DF) (d : Int) (s : Bool) (N D : Nat) (E want : Int) : Nat × Int := mbr f.m want (f.m - dkE f d s N D E).toNat (dkC f d s N D E) (dkE f d s N D E)
/-- what a fraction that isn't 0 is rounded to, and the flags -/
def dkD (f : DF) (d : Int) (s : Bool) (N D : Nat) (E want : Int) : Dat :=
  if f.m < dkE f d s N D E then (if inB d s then ⟨2, s, false, 0, 0⟩ else ⟨1, s, false, f.m, 10 ^ (3 * f.j + 1) - 1⟩)
  else if dkX f N D E then ⟨1, s, false, (dkM f d s N D E want).2, (dkM f d s N D E want).1⟩ else ⟨1, s, false, dkE f d s N D E, dkC f d s N D E⟩
def dkF (f : DF) (d : Int) (s : Bool) (N D : Nat) (E : Int) : Int :=
  if f.m < dkE f d s N D E then 10 else if dkX f N D E then 0 else if E < f.l + 3 * f.j then 12 else 8
theorem NT.more {K K' V : Nat} {v : Value} {w : World} (h : NT K V v w) (hk : K ≤ K') : NT K' V v w := by
  obtain ⟨g, k, cap, z, h1, h2, h3, h4, h5⟩ := h
  exact ⟨g, k, cap, z, h1, by omega, h3, h4, h5⟩
theorem rtimes_nt {K K' A B : Nat} {v v' : Value} {w : World} (hK : K < 1000000) (hK' : K' < 1000000) (h : NV K A v w) (h' : NV K' B v' w) :
    Calls Tryd.prog 56 #[v, v'] w fun e w' => ∃ r, e = .returned r ∧ NT (K + K' + 1) (A * B) r w' ∧ Below w.heap.size w w' := by
  obtain ⟨g, k, c, z, rfl, hk, hN, hz⟩ := h
  obtain ⟨g2, k2, c2, z2, rfl, hk2, hN2, hz2⟩ := h'
  refine (times_tr g 0 k c g2 0 k2 c2 z z2 w (by omega) (by omega) hN hN2).mono fun e w' ⟨g3, k3, cap3, z3, e1, hk3, hN3, hv3, hB, ht⟩ => ⟨_, e1, ⟨g3, k3, cap3, z3, rfl, by omega, hN3, ?_, ht⟩, hB⟩
  rw [← val_more hN3.2.2.2.1 _ hk3, hv3, hz, hz2]; simp
theorem rleft_nt {K A : Nat} {v : Value} {w : World} (s : Nat) (hK : K < 1000000) (hs : s ≤ 6300000) (h : NV K A v w) :
    Calls Tryd.prog 57 #[v, .int .i64 s] w fun e w' => ∃ r, e = .returned r ∧ NT (K + s / 64 + 1) (A * 2 ^ s) r w' ∧ Below w.heap.size w w' := by
  obtain ⟨g, k, c, z, rfl, hk, hN, hz⟩ := h
  refine (fleft_val g 0 k c s z w (by omega) (by omega) (by omega) hN).mono fun e w' ⟨g3, k3, cap3, z3, e1, hk3, hN3, hv3, hB, hf, ht⟩ => ⟨_, e1, ⟨g3, k3, cap3, z3, rfl, by rw [Int.toNat_natCast] at hk3; omega, hN3, ?_, ht⟩, hB⟩
  rw [hv3, hz, Int.toNat_natCast]; simp
theorem rcmp_nv {K K' A B : Nat} {v v' : Value} {w : World} (hK : K < 1000000) (hK' : K' < 1000000) (h : NV K A v w) (h' : NV K' B v' w) :
    Calls Tryd.prog 58 #[v, v'] w fun e w' => e = .returned (.int .i64 (sgn (A : Int) B)) ∧ w = w' := by
  obtain ⟨g, k, c, z, rfl, hk, hN, hz⟩ := h
  obtain ⟨g2, k2, c2, z2, rfl, hk2, hN2, hz2⟩ := h'
  have := rcmp_any _ _ k c k2 c2 z z2 w (by omega) (by omega) hN hN2
  rw [hz, hz2] at this
  exact this
section
theorem val_odd {z : Nat → Int} {k V : Nat} (hk : 0 < k) (hv : val z k = (V : Int)) : (V : Int) % 2 = z 0 % 2 := by
  have key : ∀ j, val z (j + 1) % 2 = z 0 % 2 := by
    intro j
    induction j with
    | zero => simp [val]
    | succ j ih =>
      have : val z (j + 1 + 1) = val z (j + 1) + z (j + 1) * 18446744073709551616 ^ (j + 1) := rfl
      rw [this, Int.pow_succ, show z (j + 1) * (18446744073709551616 ^ j * 18446744073709551616) = 2 * (z (j + 1) * 18446744073709551616 ^ j * 9223372036854775808) by grind, Int.add_mul_emod_self_left]
      exact ih
  obtain ⟨j, rfl⟩ : ∃ j, k = j + 1 := ⟨k - 1, by omega⟩
  rw [← hv]; exact key j
attribute [local irreducible] NV NT
end
section
attribute [local irreducible] W4 Nz Nt NT
/-- the guessed place of the first digit -/
def gsP (k : Nat) (x : Int) : Int := (((bl k : Int) - 1 + x) * 30103).tdiv 100000 - 1
end
section
attribute [local irreducible] W4 Nz Nt NT
/-- is the next number below nearer than the next one above -/
def nbB (n x : Int) (k : Nat) : Bool := decide (leastN n < x) && decide (k = 2 ^ fN n)
end
end Go.Proofs.YtehgnckgmdkfmaaDoor
