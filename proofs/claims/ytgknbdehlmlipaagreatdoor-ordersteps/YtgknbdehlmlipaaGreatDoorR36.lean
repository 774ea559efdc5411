/-
  Texts that the proof leans on.
-/
import Derived.Test.YtgknbdehlmlipaaGreatDoorR27
import Derived.Test.YtgknbdehlmlipaaGreatDoorR26
import Derived.Test.YtgknbdehlmlipaaGreatDoorR19
import Derived.Test.YtgknbdehlmlipaaGreatDoorR6
import Derived.Test.YtgknbdehlmlipaaGreatDoorR20
set_option linter.unusedVariables false
set_option linter.unusedSectionVars false
set_option linter.unusedSimpArgs false
set_option maxRecDepth 20000
namespace Go.Proofs.YtgknbdehlmlipaaGreatDoor
open Go.RowKit
section
attribute [local irreducible] W4 NT
/-- a pattern lies in a block of its own -/
structure B4 (g X : Nat) (w : World) : Prop where
  lt : g < w.heap.size
  c0 : w.cell? ⟨g, 0, none⟩ = some (.int .u64 (W4 X 0))
  c1 : w.cell? ⟨g, 1, none⟩ = some (.int .u64 (W4 X 1))
  c2 : w.cell? ⟨g, 2, none⟩ = some (.int .u64 (W4 X 2))
  c3 : w.cell? ⟨g, 3, none⟩ = some (.int .u64 (W4 X 3))
  f0 : w.frozen? ⟨g, 0, none⟩ = false
  f1 : w.frozen? ⟨g, 1, none⟩ = false
  f2 : w.frozen? ⟨g, 2, none⟩ = false
  f3 : w.frozen? ⟨g, 3, none⟩ = false
theorem B4.next {g X : Nat} {w w' : World} (h : B4 g X w) (hb : Below w.heap.size w w') : B4 g X w' :=
  ⟨Nat.lt_of_lt_of_le h.lt hb.size, (hb.cell (p := ⟨g, 0, none⟩) h.lt).trans h.c0, (hb.cell (p := ⟨g, 1, none⟩) h.lt).trans h.c1, (hb.cell (p := ⟨g, 2, none⟩) h.lt).trans h.c2, (hb.cell (p := ⟨g, 3, none⟩) h.lt).trans h.c3,
    (hb.frozen (p := ⟨g, 0, none⟩) h.lt).trans h.f0, (hb.frozen (p := ⟨g, 1, none⟩) h.lt).trans h.f1, (hb.frozen (p := ⟨g, 2, none⟩) h.lt).trans h.f2, (hb.frozen (p := ⟨g, 3, none⟩) h.lt).trans h.f3⟩
theorem B4.new (w : World) (t : TypeId) : B4 w.heap.size 0 (w.alloc (.cells #[.int .u64 0, .int .u64 0, .int .u64 0, .int .u64 0] t)) := by
  refine ⟨by simp, ?_, ?_, ?_, ?_, ?_, ?_, ?_, ?_⟩ <;> first | (rw [W4_zero]; go_simp) | go_simp
/-- a pattern written over another one -/
abbrev put4B (w : World) (g X : Nat) : World := (((w.setCell ⟨g, 0, none⟩ (.int .u64 (W4 X 0))).setCell ⟨g, 1, none⟩ (.int .u64 (W4 X 1))).setCell ⟨g, 2, none⟩ (.int .u64 (W4 X 2))).setCell ⟨g, 3, none⟩ (.int .u64 (W4 X 3))
theorem B4.put {g X Y : Nat} {w : World} (h : B4 g X w) : B4 g Y (put4B w g Y) := by
  have hsm := cell_set_map
  obtain ⟨h0, h1, h2, h3, h4, h5, h6, h7, h8⟩ := h
  refine ⟨by simp; exact h0, ?_, ?_, ?_, ?_, ?_, ?_, ?_, ?_⟩ <;> go_simp
theorem B4.other {g h X Y : Nat} {w : World} (hB : B4 g X w) (hne : g ≠ h) : B4 g X (put4B w h Y) := by
  obtain ⟨h0, h1, h2, h3, h4, h5, h6, h7, h8⟩ := hB
  refine ⟨by simp; exact h0, ?_, ?_, ?_, ?_, ?_, ?_, ?_, ?_⟩ <;> go_simp
theorem put4B_below {B0 g X : Nat} {w0 w : World} (hb : Below B0 w0 w) (hg : B0 ≤ g) : Below B0 w0 (put4B w g X) := bgo
section
variable {P : Program} {a : Act} {w : World} {K : Act → World → Prop} {Q : Exit → Act → World → Prop} {d p q : Nat} {ty : TypeId} {pos : String} {after : Array Edge} {gd : Option (Nat × Bool)}
end
/-- what stands while the region is under way -/
def M18 (ws : World) (X4 : Nat) (L : Nat → Prop) (f : Nat → Value) (w : World) : Prop :=
  Below ws.heap.size ws w ∧ (L 4 → ∃ g X, f 17 = .pointer (some ⟨g, 0, none⟩) ∧ ws.heap.size ≤ g ∧ B4 g X w ∧ (L 6 → X = X4)) ∧ (L 5 → ∃ h, f 18 = .pointer (some ⟨h, 0, none⟩) ∧ ws.heap.size ≤ h ∧ B4 h 0 w) ∧ (L 4 → L 5 → f 17 ≠ f 18)
theorem M18.step {ws w : World} {X4 k t : Nat} {L : Nat → Prop} {f : Nat → Value} {v : Value} (h : M18 ws X4 L f w) (h1 : t ≠ 17) (h2 : t ≠ 18) (h3 : k ≠ 4) (h4 : k ≠ 5) (h5 : k ≠ 6) : M18 ws X4 (fun j => L j ∨ j = k) (fun u => if some t = some u then v else f u) w := by
  obtain ⟨a1, a2, a3, a4⟩ := h
  have e17 : (if some t = some 17 then v else f 17) = f 17 := if_neg (fun e => h1 (Option.some.inj e))
  have e18 : (if some t = some 18 then v else f 18) = f 18 := if_neg (fun e => h2 (Option.some.inj e))
  have l4 : ∀ {p : Prop}, (p ∨ 4 = k) → p := fun h => h.resolve_right (fun e => h3 e.symm)
  have l5 : ∀ {p : Prop}, (p ∨ 5 = k) → p := fun h => h.resolve_right (fun e => h4 e.symm)
  have l6 : ∀ {p : Prop}, (p ∨ 6 = k) → p := fun h => h.resolve_right (fun e => h5 e.symm)
  refine ⟨a1, fun h => ?_, fun h => ?_, fun h h' => ?_⟩
  · obtain ⟨g, X, b1, b2, b3, b4⟩ := a2 (l4 h)
    exact ⟨g, X, e17.trans b1, b2, b3, fun h => b4 (l6 h)⟩
  · obtain ⟨g, b1, b2, b3⟩ := a3 (l5 h)
    exact ⟨g, e18.trans b1, b2, b3⟩
  · show (if some t = some 17 then v else f 17) ≠ (if some t = some 18 then v else f 18)
    rw [e17, e18]
    exact a4 (l4 h) (l5 h')
theorem ptr_ne {g h : Nat} (hne : g ≠ h) : Value.pointer (some ⟨g, 0, none⟩) ≠ Value.pointer (some ⟨h, 0, none⟩) := by
  intro e
  injection e with e
  injection e with e
  injection e with e
  exact hne e
end
/-- ten to the power of e isn't above N / D -/
def tnG (N D : Nat) (e : Int) : Prop := D * 10 ^ e.toNat ≤ N * 10 ^ (-e).toNat
instance (N D : Nat) (e : Int) : Decidable (tnG N D e) := inferInstanceAs (Decidable (_ ≤ _))
theorem ten_pos (n : Nat) : 0 < (10 : Nat) ^ n := Nat.pow_pos (by decide)
/-- a step of p, from q on -/
theorem tnG_add (N D p : Nat) (q : Int) : tnG N D (q + p) ↔ D * 10 ^ q.toNat * 10 ^ p ≤ N * 10 ^ (-q).toNat := by
  unfold tnG
  by_cases h0 : 0 ≤ q
  · rw [show (-(q + (p : Int))).toNat = 0 by omega, show (-q).toNat = 0 by omega, show (q + (p : Int)).toNat = q.toNat + p by omega, Nat.pow_add, Nat.mul_assoc]
  · by_cases h1 : 0 ≤ q + (p : Int)
    · obtain ⟨a, ha⟩ : ∃ a : Nat, q = -(a : Int) := ⟨(-q).toNat, by omega⟩
      obtain ⟨b, hb⟩ : ∃ b : Nat, p = a + b := ⟨p - a, by omega⟩
      subst hb
      rw [show (-(q + ((a + b : Nat) : Int))).toNat = 0 by omega, show (-q).toNat = a by omega, show (q + ((a + b : Nat) : Int)).toNat = b by omega, show q.toNat = 0 by omega, Nat.pow_zero, Nat.mul_one, Nat.mul_one, Nat.pow_add, Nat.mul_comm (10 ^ a), ← Nat.mul_assoc]
      exact (Nat.mul_le_mul_right_iff (ten_pos a)).symm
    · obtain ⟨a, ha⟩ : ∃ a : Nat, q + (p : Int) = -(a : Int) := ⟨(-(q + p)).toNat, by omega⟩
      rw [show (-(q + (p : Int))).toNat = a by omega, show (q + (p : Int)).toNat = 0 by omega, show q.toNat = 0 by omega, show (-q).toNat = a + p by omega, Nat.pow_zero, Nat.mul_one, Nat.pow_add, ← Nat.mul_assoc]
      exact (Nat.mul_le_mul_right_iff (ten_pos p)).symm
theorem tnG_le {N D : Nat} {e e' : Int} (h : tnG N D e) (he : e' ≤ e) : tnG N D e' := by
  obtain ⟨p, rfl⟩ : ∃ p : Nat, e = e' + p := ⟨(e - e').toNat, by omega⟩
  have := (tnG_add N D p e').1 h
  unfold tnG
  exact Nat.le_trans (Nat.le_mul_of_pos_right _ (ten_pos p)) this
/-- the first digit's place of N / D -/
def TnE (N D : Nat) (E : Int) : Prop := tnG N D E ∧ ¬ tnG N D (E + 1)
theorem TnE.only {N D : Nat} {E E' : Int} (h : TnE N D E) (h' : TnE N D E') : E = E' := by
  rcases Int.lt_trichotomy E E' with q | q | q
  · exact absurd (tnG_le h'.1 (by omega)) h.2
  · exact q
  · exact absurd (tnG_le h.1 (by omega)) h'.2
/-- the exponent that rounding starts from -/
def dkQ (f : DF) (E : Int) : Int := max f.l (E - 3 * f.j)
def dkA (N : Nat) (q : Int) : Nat := N * 10 ^ (-q).toNat
def dkZ (D : Nat) (q : Int) : Nat := D * 10 ^ q.toNat
/-- the whole number that a direction takes -/
def dkC0 (f : DF) (d : Int) (s : Bool) (N D : Nat) (E : Int) : Nat := whC d s (dkA N (dkQ f E)) (dkZ D (dkQ f E))
/-- exactly -/
def dkX (f : DF) (N D : Nat) (E : Int) : Bool := decide (dkA N (dkQ f E) % dkZ D (dkQ f E) = 0)
/-- behind a carry -/
def dkC (f : DF) (d : Int) (s : Bool) (N D : Nat) (E : Int) : Nat := if 10 ^ (3 * f.j + 1) ≤ dkC0 f d s N D E then 10 ^ (3 * f.j) else dkC0 f d s N D E
def dkE (f : DF) (d : Int) (s : Bool) (N D : Nat) (E : Int) : Int := if 10 ^ (3 * f.j + 1) ≤ dkC0 f d s N D E then dkQ f E + 1 else dkQ f E
/-- the greatest exponent -/
def DF.m (f : DF) : Int := f.l + 3 * 2 ^ f.w - 1
/-- of a cohort the member nearest to an exponent -/
def mbr (m want : Int) : Nat → Nat → Int → Nat × Int
  | 0, c, q => (c, q)
  | k + 1, c, q => if q < want ∧ q < m ∧ c % 10 = 0 then mbr m want k (c / 10) (q + 1) else (c, q)
def dkM (f : DF) (d : Int) (s : Bool) (N D : Nat) (E want : Int) : Nat × Int := mbr f.m want (f.m - dkE f d s N D E).toNat (dkC f d s N D E) (dkE f d s N D E)
/-- what a fraction that isn't 0 is rounded to, and the flags -/
def dkD (f : DF) (d : Int) (s : Bool) (N D : Nat) (E want : Int) : Dat :=
  if f.m < dkE f d s N D E then (if inB d s then ⟨2, s, false, 0, 0⟩ else ⟨1, s, false, f.m, 10 ^ (3 * f.j + 1) - 1⟩)
  else if dkX f N D E then ⟨1, s, false, (dkM f d s N D E want).2, (dkM f d s N D E want).1⟩ else ⟨1, s, false, dkE f d s N D E, dkC f d s N D E⟩
def dkF (f : DF) (d : Int) (s : Bool) (N D : Nat) (E : Int) : Int :=
  if f.m < dkE f d s N D E then 10 else if dkX f N D E then 0 else if E < f.l + 3 * f.j then 12 else 8
end Go.Proofs.YtgknbdehlmlipaaGreatDoor
