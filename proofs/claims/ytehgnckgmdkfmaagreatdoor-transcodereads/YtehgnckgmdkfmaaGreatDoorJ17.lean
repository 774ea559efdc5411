/-
  Texts that the proof leans on.
-/
import Derived.Test.YtehgnckgmdkfmaaGreatDoorJ15
import Derived.Test.YtehgnckgmdkfmaaGreatDoorJ9
import Derived.Deep.Cut
import Derived.Deep.CutRange
import Derived.Test.YtehgnckgmdkfmaaGreatDoorJ14
import Derived.Laws.IdiomCopy
import Derived.Deep.RegionWith
import Derived.Test.YtehgnckgmdkfmaaGreatDoorJ11
import Derived.Test.YtehgnckgmdkfmaaGreatDoorJ4
import Derived.Test.YtehgnckgmdkfmaaGreatDoorJ1
import Derived.Test.YtehgnckgmdkfmaaGreatDoorJ3
import Derived.Test.YtehgnckgmdkfmaaGreatDoorJ12
import Derived.Test.YtehgnckgmdkfmaaGreatDoorJ10
import Derived.Test.YtehgnckgmdkfmaaGreatDoorJ2
import Derived.Test.YtehgnckgmdkfmaaGreatDoorJ6
set_option linter.unusedVariables false
set_option linter.unusedSectionVars false
set_option linter.unusedSimpArgs false
set_option maxRecDepth 20000
namespace Go.Proofs.YtehgnckgmdkfmaaGreatDoor
open Go.RowKit
section
theorem copy0 (W : World) (d a : Option Addr) (cap : Nat) : Sem.run Tryz.prog (Builtin.copy_ #[45, 45] 3 #[.slice d 4 4, .slice a 0 cap]) W = .ok (.int .i64 0) W :=
  run_copy_none (P := Tryz.prog) W 45 45 3 22 d a 4 4 0 cap Tryz.underlying45 (by kernel_rfl) rfl
theorem copy1 (W : World) (g b off cap : Nat) (v0 : Int) (h0 : W.cell? ⟨b, off, none⟩ = some (.int .u64 v0)) (c0 : (W.cell? ⟨g, 4, none⟩).isSome = true) (f0 : W.frozen? ⟨g, 4, none⟩ = false) :
    Sem.run Tryz.prog (Builtin.copy_ #[45, 45] 3 #[.slice (some ⟨g, 4, none⟩) 4 4, .slice (some ⟨b, off, none⟩) 1 cap]) W = .ok (.int .i64 1) (W.setCell ⟨g, 4, none⟩ (.int .u64 v0)) := by
  have := run_copy_cells (P := Tryz.prog) W 45 45 3 22 g 4 4 4 ⟨b, off, none⟩ 1 cap [.int .u64 v0] Tryz.underlying45 (by kernel_rfl) rfl ?_ ?_ ?_ ?_
  · exact this
  · intro j v
    match j, v with
    | 0, _ => intro h; cases h; simpa [Addr.add] using h0
    | (j + 1), _ => intro h; simp at h
  · intro j hj
    match j, hj with
    | 0, _ => simpa using c0
    | (j + 1), h => exact absurd h (by simp only [List.length_cons, List.length_nil]; omega)
  · intro j hj
    match j, hj with
    | 0, _ => simpa using f0
    | (j + 1), h => exact absurd h (by simp only [List.length_cons, List.length_nil]; omega)
  · intro v hv
    simp at hv
    first | (subst hv; rfl) | (rcases hv with rfl | rfl <;> rfl) | (rcases hv with rfl | rfl | rfl <;> rfl) | (rcases hv with rfl | rfl | rfl | rfl <;> rfl)
theorem copy2 (W : World) (g b off cap : Nat) (v0 v1 : Int) (h0 : W.cell? ⟨b, off, none⟩ = some (.int .u64 v0)) (h1 : W.cell? ⟨b, off + 1, none⟩ = some (.int .u64 v1)) (c0 : (W.cell? ⟨g, 4, none⟩).isSome = true) (f0 : W.frozen? ⟨g, 4, none⟩ = false) (c1 : (W.cell? ⟨g, 5, none⟩).isSome = true) (f1 : W.frozen? ⟨g, 5, none⟩ = false) :
    Sem.run Tryz.prog (Builtin.copy_ #[45, 45] 3 #[.slice (some ⟨g, 4, none⟩) 4 4, .slice (some ⟨b, off, none⟩) 2 cap]) W = .ok (.int .i64 2) ((W.setCell ⟨g, 4, none⟩ (.int .u64 v0)).setCell ⟨g, 5, none⟩ (.int .u64 v1)) := by
  have := run_copy_cells (P := Tryz.prog) W 45 45 3 22 g 4 4 4 ⟨b, off, none⟩ 2 cap [.int .u64 v0, .int .u64 v1] Tryz.underlying45 (by kernel_rfl) rfl ?_ ?_ ?_ ?_
  · exact this
  · intro j v
    match j, v with
    | 0, _ => intro h; cases h; simpa [Addr.add] using h0
    | 1, _ => intro h; cases h; simpa [Addr.add] using h1
    | (j + 2), _ => intro h; simp at h
  · intro j hj
    match j, hj with
    | 0, _ => simpa using c0
    | 1, _ => simpa using c1
    | (j + 2), h => exact absurd h (by simp only [List.length_cons, List.length_nil]; omega)
  · intro j hj
    match j, hj with
    | 0, _ => simpa using f0
    | 1, _ => simpa using f1
    | (j + 2), h => exact absurd h (by simp only [List.length_cons, List.length_nil]; omega)
  · intro v hv
    simp at hv
    first | (subst hv; rfl) | (rcases hv with rfl | rfl <;> rfl) | (rcases hv with rfl | rfl | rfl <;> rfl) | (rcases hv with rfl | rfl | rfl | rfl <;> rfl)
theorem copy3 (W : World) (g b off cap : Nat) (v0 v1 v2 : Int) (h0 : W.cell? ⟨b, off, none⟩ = some (.int .u64 v0)) (h1 : W.cell? ⟨b, off + 1, none⟩ = some (.int .u64 v1)) (h2 : W.cell? ⟨b, off + 2, none⟩ = some (.int .u64 v2)) (c0 : (W.cell? ⟨g, 4, none⟩).isSome = true) (f0 : W.frozen? ⟨g, 4, none⟩ = false) (c1 : (W.cell? ⟨g, 5, none⟩).isSome = true) (f1 : W.frozen? ⟨g, 5, none⟩ = false) (c2 : (W.cell? ⟨g, 6, none⟩).isSome = true) (f2 : W.frozen? ⟨g, 6, none⟩ = false) :
    Sem.run Tryz.prog (Builtin.copy_ #[45, 45] 3 #[.slice (some ⟨g, 4, none⟩) 4 4, .slice (some ⟨b, off, none⟩) 3 cap]) W = .ok (.int .i64 3) (((W.setCell ⟨g, 4, none⟩ (.int .u64 v0)).setCell ⟨g, 5, none⟩ (.int .u64 v1)).setCell ⟨g, 6, none⟩ (.int .u64 v2)) := by
  have := run_copy_cells (P := Tryz.prog) W 45 45 3 22 g 4 4 4 ⟨b, off, none⟩ 3 cap [.int .u64 v0, .int .u64 v1, .int .u64 v2] Tryz.underlying45 (by kernel_rfl) rfl ?_ ?_ ?_ ?_
  · exact this
  · intro j v
    match j, v with
    | 0, _ => intro h; cases h; simpa [Addr.add] using h0
    | 1, _ => intro h; cases h; simpa [Addr.add] using h1
    | 2, _ => intro h; cases h; simpa [Addr.add] using h2
    | (j + 3), _ => intro h; simp at h
  · intro j hj
    match j, hj with
    | 0, _ => simpa using c0
    | 1, _ => simpa using c1
    | 2, _ => simpa using c2
    | (j + 3), h => exact absurd h (by simp only [List.length_cons, List.length_nil]; omega)
  · intro j hj
    match j, hj with
    | 0, _ => simpa using f0
    | 1, _ => simpa using f1
    | 2, _ => simpa using f2
    | (j + 3), h => exact absurd h (by simp only [List.length_cons, List.length_nil]; omega)
  · intro v hv
    simp at hv
    first | (subst hv; rfl) | (rcases hv with rfl | rfl <;> rfl) | (rcases hv with rfl | rfl | rfl <;> rfl) | (rcases hv with rfl | rfl | rfl | rfl <;> rfl)
theorem copy4 (W : World) (g b off cap : Nat) (v0 v1 v2 v3 : Int) (h0 : W.cell? ⟨b, off, none⟩ = some (.int .u64 v0)) (h1 : W.cell? ⟨b, off + 1, none⟩ = some (.int .u64 v1)) (h2 : W.cell? ⟨b, off + 2, none⟩ = some (.int .u64 v2)) (h3 : W.cell? ⟨b, off + 3, none⟩ = some (.int .u64 v3)) (c0 : (W.cell? ⟨g, 4, none⟩).isSome = true) (f0 : W.frozen? ⟨g, 4, none⟩ = false) (c1 : (W.cell? ⟨g, 5, none⟩).isSome = true) (f1 : W.frozen? ⟨g, 5, none⟩ = false) (c2 : (W.cell? ⟨g, 6, none⟩).isSome = true) (f2 : W.frozen? ⟨g, 6, none⟩ = false) (c3 : (W.cell? ⟨g, 7, none⟩).isSome = true) (f3 : W.frozen? ⟨g, 7, none⟩ = false) :
    Sem.run Tryz.prog (Builtin.copy_ #[45, 45] 3 #[.slice (some ⟨g, 4, none⟩) 4 4, .slice (some ⟨b, off, none⟩) 4 cap]) W = .ok (.int .i64 4) ((((W.setCell ⟨g, 4, none⟩ (.int .u64 v0)).setCell ⟨g, 5, none⟩ (.int .u64 v1)).setCell ⟨g, 6, none⟩ (.int .u64 v2)).setCell ⟨g, 7, none⟩ (.int .u64 v3)) := by
  have := run_copy_cells (P := Tryz.prog) W 45 45 3 22 g 4 4 4 ⟨b, off, none⟩ 4 cap [.int .u64 v0, .int .u64 v1, .int .u64 v2, .int .u64 v3] Tryz.underlying45 (by kernel_rfl) rfl ?_ ?_ ?_ ?_
  · exact this
  · intro j v
    match j, v with
    | 0, _ => intro h; cases h; simpa [Addr.add] using h0
    | 1, _ => intro h; cases h; simpa [Addr.add] using h1
    | 2, _ => intro h; cases h; simpa [Addr.add] using h2
    | 3, _ => intro h; cases h; simpa [Addr.add] using h3
    | (j + 4), _ => intro h; simp at h
  · intro j hj
    match j, hj with
    | 0, _ => simpa using c0
    | 1, _ => simpa using c1
    | 2, _ => simpa using c2
    | 3, _ => simpa using c3
    | (j + 4), h => exact absurd h (by simp only [List.length_cons, List.length_nil]; omega)
  · intro j hj
    match j, hj with
    | 0, _ => simpa using f0
    | 1, _ => simpa using f1
    | 2, _ => simpa using f2
    | 3, _ => simpa using f3
    | (j + 4), h => exact absurd h (by simp only [List.length_cons, List.length_nil]; omega)
  · intro v hv
    simp at hv
    first | (subst hv; rfl) | (rcases hv with rfl | rfl <;> rfl) | (rcases hv with rfl | rfl | rfl <;> rfl) | (rcases hv with rfl | rfl | rfl | rfl <;> rfl)
attribute [local irreducible] W4
end
section
attribute [local irreducible] W4
/-- no format at all -/
abbrev IZ : Value := .agg #[.int .i64 0, .string ⟨#[]⟩, .int .i64 0, .int .i64 0, .int .i64 0, .int .i64 0, .int .i64 0, .int .i64 0, .int .i64 0, .bool false]
end
section
/-- a block holds a format -/
structure Ib (w : World) (g : Nat) (n : Int) (nm : ByteArray) (wd : Int) (f e : Nat) (l m : Int) : Prop where
  c0 : w.cell? ⟨g, 0, none⟩ = some (.int .i64 n)
  c1 : w.cell? ⟨g, 1, none⟩ = some (.string nm)
  c2 : w.cell? ⟨g, 2, none⟩ = some (.int .i64 2)
  c3 : w.cell? ⟨g, 3, none⟩ = some (.int .i64 wd)
  c4 : w.cell? ⟨g, 4, none⟩ = some (.int .i64 ((f : Int) + 1))
  c5 : w.cell? ⟨g, 5, none⟩ = some (.int .i64 e)
  c6 : w.cell? ⟨g, 6, none⟩ = some (.int .i64 l)
  c7 : w.cell? ⟨g, 7, none⟩ = some (.int .i64 m)
  c8 : w.cell? ⟨g, 8, none⟩ = some (.int .i64 ((f : Int) - 1))
  c9 : w.cell? ⟨g, 9, none⟩ = some (.bool false)
theorem Ib.next {w w' : World} {g : Nat} {n : Int} {nm : ByteArray} {wd : Int} {f e : Nat} {l m : Int} (h : Ib w g n nm wd f e l m) (hg : g < w.heap.size) (hb : Below w.heap.size w w') : Ib w' g n nm wd f e l m :=
  ⟨by rw [hb.cell (p := ⟨g, 0, none⟩) hg, h.c0], by rw [hb.cell (p := ⟨g, 1, none⟩) hg, h.c1], by rw [hb.cell (p := ⟨g, 2, none⟩) hg, h.c2], by rw [hb.cell (p := ⟨g, 3, none⟩) hg, h.c3], by rw [hb.cell (p := ⟨g, 4, none⟩) hg, h.c4], by rw [hb.cell (p := ⟨g, 5, none⟩) hg, h.c5], by rw [hb.cell (p := ⟨g, 6, none⟩) hg, h.c6], by rw [hb.cell (p := ⟨g, 7, none⟩) hg, h.c7], by rw [hb.cell (p := ⟨g, 8, none⟩) hg, h.c8], by rw [hb.cell (p := ⟨g, 9, none⟩) hg, h.c9]⟩
attribute [local irreducible] W4 Nz Nt
end
end Go.Proofs.YtehgnckgmdkfmaaGreatDoor

namespace Go.Proofs.YtehgnckgmdkfmaaGreatDoor

theorem bl_bd {V : Nat} (h : V ≠ 0) : 2 ^ (bl V - 1) ≤ V ∧ V < 2 ^ bl V ∧ 1 ≤ bl V := by
  have h0 : bl V ≠ 0 := fun e => h (bl_zero.1 e)
  exact ⟨bl_ge.1 (by omega), bl_le.1 (Nat.le_refl _), by omega⟩
end Go.Proofs.YtehgnckgmdkfmaaGreatDoor

namespace Go.Proofs.YtehgnckgmdkfmaaGreatDoor
open Go.RowKit
def whC (d : Int) (s : Bool) (A B : Nat) : Nat := if faB d s (decide (A / B % 2 = 1)) (A % B) B then A / B + 1 else A / B
theorem fa_sc (d : Int) (s o : Bool) (R D k : Nat) (hk : 0 < k) : faB d s o (R * k) (D * k) = faB d s o R D := by
  have e1 : R * k = 0 ↔ R = 0 := by rw [Nat.mul_eq_zero]; omega
  have e2 : D * k < R * k + R * k ↔ D < R + R := by rw [← Nat.add_mul]; exact Nat.mul_lt_mul_right hk
  have e3 : R * k + R * k = D * k ↔ R + R = D := by rw [← Nat.add_mul]; exact Nat.mul_right_cancel_iff hk
  have e4 : D * k ≤ R * k + R * k ↔ D ≤ R + R := by rw [← Nat.add_mul]; exact Nat.mul_le_mul_right_iff hk
  unfold faB
  simp only [e1, e2, e3, e4]
/-- ten to the power of e isn't above N / D -/
def tnG (N D : Nat) (e : Int) : Prop := D * 10 ^ e.toNat ≤ N * 10 ^ (-e).toNat
instance (N D : Nat) (e : Int) : Decidable (tnG N D e) := inferInstanceAs (Decidable (_ ≤ _))
theorem ten_pos (n : Nat) : 0 < (10 : Nat) ^ n := Nat.pow_pos (by decide)
/-- a step of p, from q on -/
theorem tnG_add (N D p : Nat) (q : Int) : tnG N D (q + p) ↔ D * 10 ^ q.toNat * 10 ^ p ≤ N * 10 ^ (-q).toNat := by
  unfold tnG
  by_cases h0 : 0 ≤ q
  · rw [show (-(q + (p : Int))).toNat = 0 by omega, show (-q).toNat = 0 by omega, show (q + (p : Int)).toNat = q.toNat + p by omega, Nat.pow_add, Nat.mul_assoc]
  · by_cases h1 : 0 ≤ q + (p : Int)
    · obtain ⟨a, ha⟩ : ∃ a : Nat, q = -(a : Int) := ⟨(-q).toNat, by omega⟩
      obtain ⟨b, hb⟩ : ∃ b : Nat, p = a + b := ⟨p - a, by omega⟩
      subst hb
      rw [show (-(q + ((a + b : Nat) : Int))).toNat = 0 by omega, show (-q).toNat = a by omega, show (q + ((a + b : Nat) : Int)).toNat = b by omega, show q.toNat = 0 by omega, Nat.pow_zero, Nat.mul_one, Nat.mul_one, Nat.pow_add, Nat.mul_comm (10 ^ a), ← Nat.mul_assoc]
      exact (Nat.mul_le_mul_right_iff (ten_pos a)).symm
    · obtain ⟨a, ha⟩ : ∃ a : Nat, q + (p : Int) = -(a : Int) := ⟨(-(q + p)).toNat, by omega⟩
      rw [show (-(q + (p : Int))).toNat = a by omega, show (q + (p : Int)).toNat = 0 by omega, show q.toNat = 0 by omega, show (-q).toNat = a + p by omega, Nat.pow_zero, Nat.mul_one, Nat.pow_add, ← Nat.mul_assoc]
      exact (Nat.mul_le_mul_right_iff (ten_pos p)).symm
theorem tnG_le {N D : Nat} {e e' : Int} (h : tnG N D e) (he : e' ≤ e) : tnG N D e' := by
  obtain ⟨p, rfl⟩ : ∃ p : Nat, e = e' + p := ⟨(e - e').toNat, by omega⟩
  have := (tnG_add N D p e').1 h
  unfold tnG
  exact Nat.le_trans (Nat.le_mul_of_pos_right _ (ten_pos p)) this
/-- the first digit's place of N / D -/
def TnE (N D : Nat) (E : Int) : Prop := tnG N D E ∧ ¬ tnG N D (E + 1)
theorem TnE.only {N D : Nat} {E E' : Int} (h : TnE N D E) (h' : TnE N D E') : E = E' := by
  rcases Int.lt_trichotomy E E' with q | q | q
  · exact absurd (tnG_le h'.1 (by omega)) h.2
  · exact q
  · exact absurd (tnG_le h.1 (by omega)) h'.2
/-- the exponent that rounding starts from -/
def dkQ (f : DF) (E : Int) : Int := max f.l (E - 3 * f.j)
def dkA (N : Nat) (q : Int) : Nat := N * 10 ^ (-q).toNat
def dkZ (D : Nat) (q : Int) : Nat := D * 10 ^ q.toNat
theorem dkZ_pos {D : Nat} (h : 0 < D) (q : Int) : 0 < dkZ D q := Nat.mul_pos h (ten_pos _)
/-- the fraction has at most so many digits ahead of the point -/
theorem dk_lt {f : DF} {N D : Nat} {E : Int} (h : TnE N D E) : dkA N (dkQ f E) < dkZ D (dkQ f E) * 10 ^ (3 * f.j + 1) := by
  have hq : E + 1 ≤ dkQ f E + ((3 * f.j + 1 : Nat) : Int) := by unfold dkQ; omega
  have h1 : ¬ tnG N D (dkQ f E + ((3 * f.j + 1 : Nat) : Int)) := fun q => h.2 (tnG_le q hq)
  rw [tnG_add] at h1
  unfold dkA dkZ
  omega
/-- the whole number that a direction takes -/
def dkC0 (f : DF) (d : Int) (s : Bool) (N D : Nat) (E : Int) : Nat := whC d s (dkA N (dkQ f E)) (dkZ D (dkQ f E))
theorem whC_le {d : Int} {s : Bool} {A B : Nat} : A / B ≤ whC d s A B ∧ whC d s A B ≤ A / B + 1 := by
  unfold whC
  split <;> omega
theorem dkC0_le {f : DF} {d : Int} {s : Bool} {N D : Nat} {E : Int} (hD : 0 < D) (h : TnE N D E) : dkC0 f d s N D E ≤ 10 ^ (3 * f.j + 1) := by
  have h1 := dk_lt (f := f) h
  have h2 := (whC_le (d := d) (s := s) (A := dkA N (dkQ f E)) (B := dkZ D (dkQ f E))).2
  have h3 : dkA N (dkQ f E) / dkZ D (dkQ f E) < 10 ^ (3 * f.j + 1) := by
    rw [Nat.div_lt_iff_lt_mul (dkZ_pos hD _), Nat.mul_comm]; exact h1
  unfold dkC0
  omega
/-- exactly -/
def dkX (f : DF) (N D : Nat) (E : Int) : Bool := decide (dkA N (dkQ f E) % dkZ D (dkQ f E) = 0)
/-- behind a carry -/
def dkC (f : DF) (d : Int) (s : Bool) (N D : Nat) (E : Int) : Nat := if 10 ^ (3 * f.j + 1) ≤ dkC0 f d s N D E then 10 ^ (3 * f.j) else dkC0 f d s N D E
def dkE (f : DF) (d : Int) (s : Bool) (N D : Nat) (E : Int) : Int := if 10 ^ (3 * f.j + 1) ≤ dkC0 f d s N D E then dkQ f E + 1 else dkQ f E
/-- the greatest exponent -/
def DF.m (f : DF) : Int := f.l + 3 * 2 ^ f.w - 1
/-- of a cohort the member nearest to an exponent -/
def mbr (m want : Int) : Nat → Nat → Int → Nat × Int
  | 0, c, q => (c, q)
  | k + 1, c, q => if q < want ∧ q < m ∧ c % 10 = 0 then mbr m want k (c / 10) (q + 1) else (c, q)
def dkM (f : DF) (d : Int) (s : Bool) (N D : Nat) (E want : Int) : Nat × Int := mbr f.m want (f.m - dkE f d s N D E).toNat (dkC f d s N D E) (dkE f d s N D E)
/-- what a fraction that isn't 0 is rounded to, and the flags -/
def dkD (f : DF) (d : Int) (s : Bool) (N D : Nat) (E want : Int) : Dat :=
  if f.m < dkE f d s N D E then (if inB d s then ⟨2, s, false, 0, 0⟩ else ⟨1, s, false, f.m, 10 ^ (3 * f.j + 1) - 1⟩)
  else if dkX f N D E then ⟨1, s, false, (dkM f d s N D E want).2, (dkM f d s N D E want).1⟩ else ⟨1, s, false, dkE f d s N D E, dkC f d s N D E⟩
def dkF (f : DF) (d : Int) (s : Bool) (N D : Nat) (E : Int) : Int :=
  if f.m < dkE f d s N D E then 10 else if dkX f N D E then 0 else if E < f.l + 3 * f.j then 12 else 8
theorem dkC_lt {f : DF} {d : Int} {s : Bool} {N D : Nat} {E : Int} (hD : 0 < D) (h : TnE N D E) : dkC f d s N D E < 10 ^ (3 * f.j + 1) := by
  have h1 := dkC0_le (f := f) (d := d) (s := s) hD h
  have h2 : (10 : Nat) ^ (3 * f.j) < 10 ^ (3 * f.j + 1) := Nat.pow_lt_pow_right (by decide) (by omega)
  unfold dkC
  split <;> omega
theorem dkE_ge (f : DF) (d : Int) (s : Bool) (N D : Nat) (E : Int) : f.l ≤ dkE f d s N D E := by
  unfold dkE dkQ
  split <;> omega
/-- members: the value stays, the coefficient is no greater, the exponent within the bounds -/
theorem mbr_all {m want : Int} : ∀ (k c : Nat) (q : Int), q ≤ m → (mbr m want k c q).1 ≤ c ∧ q ≤ (mbr m want k c q).2 ∧ (mbr m want k c q).2 ≤ m ∧ (mbr m want k c q).1 * 10 ^ ((mbr m want k c q).2 - q).toNat = c
  | 0, c, q, hq => by
    unfold mbr
    refine ⟨Nat.le_refl _, Int.le_refl _, hq, ?_⟩
    simp
  | k + 1, c, q, hq => by
    unfold mbr
    split
    · rename_i h
      obtain ⟨h1, h2, h3, h4⟩ := mbr_all (m := m) (want := want) k (c / 10) (q + 1) (by omega)
      refine ⟨by omega, by omega, h3, ?_⟩
      rw [show ((mbr m want k (c / 10) (q + 1)).2 - q).toNat = ((mbr m want k (c / 10) (q + 1)).2 - (q + 1)).toNat + 1 by omega, Nat.pow_succ, ← Nat.mul_assoc, h4]
      omega
    · refine ⟨Nat.le_refl _, Int.le_refl _, hq, ?_⟩
      simp
/-- what is rounded is the format's -/
theorem dkD_is {f : DF} (hf : f.ok) {d : Int} {s : Bool} {N D : Nat} {E want : Int} (hD : 0 < D) (h : TnE N D E) : vI f (dkD f d s N D E want) := by
  have hc := dkC_lt (f := f) (d := d) (s := s) hD h
  have he := dkE_ge f d s N D E
  have hp := ten_pos (3 * f.j + 1)
  have hw : (0 : Int) < 2 ^ f.w := Int.pow_pos (by decide)
  unfold dkD
  split
  · split
    · exact Or.inr (Or.inl ⟨rfl, rfl, rfl, rfl⟩)
    · refine Or.inl ⟨rfl, rfl, ?_, ?_, ?_⟩
      · show 10 ^ (3 * f.j + 1) - 1 < 10 ^ (3 * f.j + 1)
        omega
      · show f.l ≤ f.m
        unfold DF.m; omega
      · show f.m ≤ f.l + 3 * 2 ^ f.w - 1
        exact Int.le_refl _
  · rename_i hm
    split
    · obtain ⟨h1, h2, h3, h4⟩ := mbr_all (m := f.m) (want := want) (f.m - dkE f d s N D E).toNat (dkC f d s N D E) (dkE f d s N D E) (by omega)
      refine Or.inl ⟨rfl, rfl, ?_, ?_, ?_⟩
      · show (dkM f d s N D E want).1 < 10 ^ (3 * f.j + 1)
        unfold dkM; omega
      · show f.l ≤ (dkM f d s N D E want).2
        unfold dkM; omega
      · show (dkM f d s N D E want).2 ≤ f.l + 3 * 2 ^ f.w - 1
        unfold dkM; exact h3
    · exact Or.inl ⟨rfl, rfl, hc, he, by show dkE f d s N D E ≤ f.m; omega⟩
theorem whC_mul (d : Int) (s : Bool) (A B : Nat) {k : Nat} (hk : 0 < k) : whC d s (A * k) (B * k) = whC d s A B := by
  unfold whC
  rw [Nat.mul_div_mul_right _ _ hk, Nat.mul_mod_mul_right, fa_sc _ _ _ _ _ _ hk]
theorem NT.more {K K' V : Nat} {v : Value} {w : World} (h : NT K V v w) (hk : K ≤ K') : NT K' V v w := by
  obtain ⟨g, k, cap, z, h1, h2, h3, h4, h5⟩ := h
  exact ⟨g, k, cap, z, h1, by omega, h3, h4, h5⟩
section
def decN (n : Int) : Prop := 7 ≤ n ∧ n ≤ 12
instance (n : Int) : Decidable (decN n) := inferInstanceAs (Decidable (_ ∧ _))
/-- a decimal format's numbers -/
def fD (n : Int) : DF := if n = 7 ∨ n = 10 then ⟨20, 6, 2, -101, denseN n⟩ else if n = 8 ∨ n = 11 then ⟨50, 8, 5, -398, denseN n⟩ else ⟨110, 12, 11, -6176, denseN n⟩
theorem dec_cases {n : Int} (h : decN n) : n = 7 ∨ n = 8 ∨ n = 9 ∨ n = 10 ∨ n = 11 ∨ n = 12 := by unfold decN at h; omega
theorem fD_ok (n : Int) : (fD n).ok := by
  unfold fD
  split
  · exact Or.inl ⟨rfl, rfl, rfl, rfl⟩
  · split
    · exact Or.inr (Or.inl ⟨rfl, rfl, rfl, rfl⟩)
    · exact Or.inr (Or.inr ⟨rfl, rfl, rfl, rfl⟩)
theorem dec_fields {n : Int} (h : decN n) : okN n ∧ numN n = n ∧ baseN n = 10 ∧ widthN n = (((fD n).t + ((fD n).w + 6) : Nat) : Int) ∧ precN n = 3 * ((fD n).j : Int) + 1 ∧ leastN n = (fD n).l ∧ mostN n = (fD n).l + 3 * 2 ^ (fD n).w - 1 ∧ payN n = 3 * ((fD n).j : Int) ∧ denseN n = (fD n).dn := by
  rcases dec_cases h with rfl | rfl | rfl | rfl | rfl | rfl <;> decide
/-- a pattern is a decimal format's -/
def goodD (n : Int) (B : Nat) : Prop := decN n ∧ B < 2 ^ ((fD n).t + ((fD n).w + 6))
instance (n : Int) (B : Nat) : Decidable (goodD n B) := inferInstanceAs (Decidable (_ ∧ _))
set_option maxHeartbeats 400000 in
theorem rdecimal_any (n : Int) (w : World) : Calls Tryz.prog 11 #[.int .i64 n] w fun e w' => e = .returned (.bool (decide (decN n))) ∧ w = w' := by
  by_cases h1 : 7 ≤ n
  · by_cases h2 : n ≤ 12
    · rw [decide_eq_true (show decN n from ⟨h1, h2⟩)]
      go_enter Tryz.func11, Tryz.ntmps11
      go_wp2
      go_ret
      exact ⟨rfl, rfl⟩
    · rw [decide_eq_false (show ¬ decN n from fun h => h2 h.2)]
      go_enter Tryz.func11, Tryz.ntmps11
      go_wp2
      go_ret
      exact ⟨rfl, rfl⟩
  · rw [decide_eq_false (show ¬ decN n from fun h => h1 h.1)]
    go_enter Tryz.func11, Tryz.ntmps11
    go_wp2
    go_ret
    exact ⟨rfl, rfl⟩
set_option maxHeartbeats 400000 in
theorem rgood14 (n : Int) (B : Nat) (hB : B < 2 ^ 256) (w : World) :
    Calls Tryz.prog 6 #[.int .i64 n, A4 B] w fun x w' => x = .returned (.bool (decide (goodD n B))) ∧ Below w.heap.size w w' := by
  have c35 := fun w => rdecimal_any n w
  have c50 := fun w => rfits4 n B hB w
  by_cases hb : decN n
  · have hF := dec_fields hb
    rw [decide_eq_true hb] at c35
    have e : (okN n ∧ B < 2 ^ (widthN n).toNat) ↔ goodD n B := by
      rw [hF.2.2.2.1, Int.toNat_natCast]
      exact ⟨fun h => ⟨hb, h.2⟩, fun h => ⟨hF.1, h.2⟩⟩
    rw [decide_eq_decide.2 e] at c50
    generalize decide (goodD n B) = D at *
    clear hF e hb hB
    go_enter Tryz.func6, Tryz.ntmps6
    go_wp2_with (first
      | (go_at_call 11; refine (c35 _).mono ?_; rintro e w1 ⟨rfl, rfl⟩)
      | (go_at_call 12; refine (c50 _).mono ?_; rintro e w2 ⟨rfl, hb2⟩))
    go_ret
    exact ⟨rfl, bnext bgo hb2⟩
  · rw [decide_eq_false hb] at c35
    rw [decide_eq_false (show ¬ goodD n B from fun h => hb h.1)]
    clear hb hB c50
    go_enter Tryz.func6, Tryz.ntmps6
    go_wp2_with (go_at_call 11; refine (c35 _).mono ?_; rintro e w1 ⟨rfl, rfl⟩)
    go_ret
    exact ⟨rfl, bgo⟩
attribute [local irreducible] W4 NT NV
/-- what Of tells of a decimal format -/
abbrev IDec (n : Int) (nm : ByteArray) (wd pr ex le mo pa : Int) (dn : Bool) : Value := .agg #[.int .i64 n, .string nm, .int .i64 10, .int .i64 wd, .int .i64 pr, .int .i64 ex, .int .i64 le, .int .i64 mo, .int .i64 pa, .bool dn]
end
section
attribute [local irreducible] W4
instance (f : DF) (d : Dat) : Decidable (vI f d) := inferInstanceAs (Decidable (_ ∨ _))
end
section
attribute [local irreducible] W4 Nz Nt
/-- the number of digits -/
def dV (l : List UInt8) : Nat := (numV (B l) (B l).size).toNat
theorem sb_by (l : List UInt8) (i : Nat) : sb (B l) i = by_ l i := by
  unfold sb by_
  by_cases h : i < l.length
  · rw [dif_pos (show i < (B l).size from h), dif_pos h, B_get]
  · rw [dif_neg (show ¬ i < (B l).size from h), dif_neg h]
theorem dig_B {l : List UInt8} (h : l.all dg = true) : digB (B l) (B l).size = true := by
  refine digB_of _ fun k hk => ?_
  rw [sb_by]
  have hk' : k < l.length := hk
  have h1 := List.all_eq_true.1 h (l[k]'hk') (List.getElem_mem hk')
  unfold dg at h1
  unfold by_
  rw [dif_pos hk']
  have := of_decide_eq_true h1
  omega
theorem dV_lt {l : List UInt8} (h : l.all dg = true) : dV l < 10 ^ l.length ∧ (dV l : Int) = numV (B l) (B l).size := by
  obtain ⟨a, b⟩ := numV_bd _ (dig_B h)
  unfold dV
  generalize numV (B l) (B l).size = V at *
  rw [B_size] at b
  have : ((10 : Int) ^ l.length) = ((10 ^ l.length : Nat) : Int) := by simp
  rw [this] at b
  exact ⟨by omega, by omega⟩
theorem num_zero (l : List UInt8) : numV (B (48 :: l)) (B (48 :: l)).size = numV (B l) (B l).size := by
  have h := numV_app (s := B (48 :: l)) (u := B l) 1 (B l).size (fun i hi => by rw [sb_by, sb_by, Nat.add_comm, by_succ])
  have hs : (B (48 :: l)).size = 1 + (B l).size := by rw [B_size, B_size, List.length_cons]; omega
  rw [hs, h]
  have h1 : numV (B (48 :: l)) 1 = 0 := by
    have : numV (B (48 :: l)) 1 = numV (B (48 :: l)) 0 * 10 + (sb (B (48 :: l)) 0 - 48) := rfl
    rw [this, sb_by, by_zero]; rfl
  rw [h1]; omega
theorem bl_10 {A L k : Nat} (h : A < 10 ^ L) (hk : 4 * L ≤ k) : bl A ≤ k := by
  refine bl_le.2 (Nat.lt_of_lt_of_le h ?_)
  have h1 : 10 ^ L ≤ 16 ^ L := Nat.pow_le_pow_left (by decide) L
  have h2 : (16 : Nat) ^ L = 2 ^ (4 * L) := by rw [Nat.pow_mul]
  exact Nat.le_trans h1 (h2 ▸ Nat.pow_le_pow_right (by decide) hk)
theorem nz_of {a : Option Addr} {k cap K V : Nat} {z : Nat → Int} {w : World} (h : Num w a k cap z) (hv : val z k = (V : Int)) (hs : sizeL z k = k) (hb : bl V ≤ 64 * K) : Nz K V (.slice a k cap) w := by
  unfold Nz
  exact ⟨a, k, cap, z, rfl, by have := (size_bl (m := K) h.2.2.1 hv).2 hb; omega, h, hv, hs⟩
end
section
theorem bl_mul (a b : Nat) : bl (a * b) ≤ bl a + bl b := by
  refine bl_le.2 ?_
  rw [Nat.pow_add]
  have h1 := bl_le.1 (Nat.le_refl (bl a))
  have h2 := bl_le.1 (Nat.le_refl (bl b))
  exact Nat.mul_lt_mul'' h1 h2
attribute [local irreducible] W4 Nz Nt
end
section
theorem val_odd {z : Nat → Int} {k V : Nat} (hk : 0 < k) (hv : val z k = (V : Int)) : (V : Int) % 2 = z 0 % 2 := by
  have key : ∀ j, val z (j + 1) % 2 = z 0 % 2 := by
    intro j
    induction j with
    | zero => simp [val]
    | succ j ih =>
      have : val z (j + 1 + 1) = val z (j + 1) + z (j + 1) * 18446744073709551616 ^ (j + 1) := rfl
      rw [this, Int.pow_succ, show z (j + 1) * (18446744073709551616 ^ j * 18446744073709551616) = 2 * (z (j + 1) * 18446744073709551616 ^ j * 9223372036854775808) by grind, Int.add_mul_emod_self_left]
      exact ih
  obtain ⟨j, rfl⟩ : ∃ j, k = j + 1 := ⟨k - 1, by omega⟩
  rw [← hv]; exact key j
attribute [local irreducible] NV NT
end
section
theorem NT.stays (K V : Nat) : Stays (NT K V) := fun v w w' h hb => h.next hb
section
variable {a : Act} {w : World} {K : Act → World → Prop} {Q : Exit → Act → World → Prop} {d p q r : Nat} {ty : TypeId} {pos : String} {after : Array Edge} {gd : Option (Nat × Bool)}
end
end
section
theorem puts_slot (a : Act) : ∀ (D : List Nat) (b : Act), (D.foldl (fun b d => b.put (some d) (slot a d)) b).tmps.size = b.tmps.size ∧ (D.foldl (fun b d => b.put (some d) (slot a d)) b).defers = b.defers ∧ ∀ t, t < b.tmps.size → slot (D.foldl (fun b d => b.put (some d) (slot a d)) b) t = if t ∈ D then slot a t else slot b t
  | [], b => ⟨rfl, rfl, fun t ht => by simp⟩
  | d :: D, b => by
    obtain ⟨h1, h2, h3⟩ := puts_slot a D (b.put (some d) (slot a d))
    have hs : (b.put (some d) (slot a d)).tmps.size = b.tmps.size := by simp [Act.put]
    refine ⟨h1.trans hs, h2, fun t ht => ?_⟩
    rw [List.foldl_cons, h3 t (by rw [hs]; exact ht)]
    by_cases hD : t ∈ D
    · rw [if_pos hD, if_pos (List.mem_cons_of_mem _ hD)]
    · rw [if_neg hD]
      by_cases hd : t = d
      · subst hd
        rw [if_pos List.mem_cons_self, slot_put ht]
      · rw [if_neg (by simp [hd, hD]), slot_put_ne (fun h => hd h.symm)]
theorem act_of {a a0 : Act} (D : List Nat) (n : Nat) (hn : D.length = n) (hsz : a.tmps.size = a0.tmps.size) (hdf : a.defers = a0.defers) (hF : ∀ t, (∀ i, i < n → D.getD i 0 ≠ t) → slot a t = slot a0 t) :
    a = D.foldl (fun b d => b.put (some d) (slot a d)) a0 := by
  obtain ⟨h1, h2, h3⟩ := puts_slot a D a0
  generalize D.foldl (fun b d => b.put (some d) (slot a d)) a0 = b at *
  have key : ∀ t, t < a0.tmps.size → slot a t = slot b t := fun t ht => by
    rw [h3 t ht]
    by_cases hD : t ∈ D
    · rw [if_pos hD]
    · rw [if_neg hD]
      refine hF t fun i hi e => hD ?_
      rw [← e, List.getD_eq_getElem?_getD, List.getElem?_eq_getElem (by omega)]
      exact List.getElem_mem _
  have ht : a.tmps = b.tmps := by
    apply Array.ext (by omega)
    intro i h4 h5
    have := key i (by omega)
    unfold slot at this
    rw [Array.getElem?_eq_getElem h4, Array.getElem?_eq_getElem h5] at this
    exact this
  cases a; cases b
  simp only at ht hdf h2 ⊢
  rw [ht, hdf, h2]

attribute [local irreducible] W4 NT NV
end
section
/-- a block holds four words of a number, from a place on -/
structure Four (w : World) (g o k : Nat) : Prop where
  cell : ∀ i, i < 4 → w.cell? ⟨g, o + i, none⟩ = some (.int .u64 (W4 k i))
theorem Four.of {w : World} {g o k : Nat} (h0 : w.cell? ⟨g, o + 0, none⟩ = some (.int .u64 (W4 k 0))) (h1 : w.cell? ⟨g, o + 1, none⟩ = some (.int .u64 (W4 k 1))) (h2 : w.cell? ⟨g, o + 2, none⟩ = some (.int .u64 (W4 k 2))) (h3 : w.cell? ⟨g, o + 3, none⟩ = some (.int .u64 (W4 k 3))) : Four w g o k :=
  ⟨fun i hi => by
    have : i = 0 ∨ i = 1 ∨ i = 2 ∨ i = 3 := by omega
    rcases this with rfl | rfl | rfl | rfl <;> assumption⟩
theorem Four.next {w w' : World} {g o k : Nat} (h : Four w g o k) (hg : g < w.heap.size) (hb : Below w.heap.size w w') : Four w' g o k :=
  ⟨fun i hi => by rw [hb.cell (p := ⟨g, o + i, none⟩) hg]; exact h.cell i hi⟩
/-- a block holds a datum -/
structure Dc (w : World) (g : Nat) (c : Int) (s b : Bool) (x : Int) (k : Nat) : Prop where
  c0 : w.cell? ⟨g, 0, none⟩ = some (.int .i64 c)
  c1 : w.cell? ⟨g, 1, none⟩ = some (.bool s)
  c2 : w.cell? ⟨g, 2, none⟩ = some (.bool b)
  c3 : w.cell? ⟨g, 3, none⟩ = some (.int .i64 x)
  c4 : w.cell? ⟨g, 4, none⟩ = some (.int .u64 (W4 k 0))
  c5 : w.cell? ⟨g, 5, none⟩ = some (.int .u64 (W4 k 1))
  c6 : w.cell? ⟨g, 6, none⟩ = some (.int .u64 (W4 k 2))
  c7 : w.cell? ⟨g, 7, none⟩ = some (.int .u64 (W4 k 3))
theorem Dc.next {w w' : World} {g : Nat} {c : Int} {s b : Bool} {x : Int} {k : Nat} (h : Dc w g c s b x k) (hg : g < w.heap.size) (hb : Below w.heap.size w w') : Dc w' g c s b x k :=
  ⟨by rw [hb.cell (p := ⟨g, 0, none⟩) hg, h.c0], by rw [hb.cell (p := ⟨g, 1, none⟩) hg, h.c1], by rw [hb.cell (p := ⟨g, 2, none⟩) hg, h.c2], by rw [hb.cell (p := ⟨g, 3, none⟩) hg, h.c3],
   by rw [hb.cell (p := ⟨g, 4, none⟩) hg, h.c4], by rw [hb.cell (p := ⟨g, 5, none⟩) hg, h.c5], by rw [hb.cell (p := ⟨g, 6, none⟩) hg, h.c6], by rw [hb.cell (p := ⟨g, 7, none⟩) hg, h.c7]⟩
/-- what stands in the words below i -/
def mo (A B i : Nat) : Bool := decide (val (W4 B) i < val (W4 A) i)
attribute [local irreducible] W4 mo
end
section
theorem ten_bl (k : Nat) : bl (10 ^ k) ≤ 4 * k + 1 := by
  refine bl_le.2 ?_
  have h1 : 10 ^ k ≤ 16 ^ k := Nat.pow_le_pow_left (by decide) k
  have h2 : (16 : Nat) ^ k = 2 ^ (4 * k) := by rw [Nat.pow_mul]
  have h3 : (2 : Nat) ^ (4 * k) < 2 ^ (4 * k + 1) := Nat.pow_lt_pow_right (by decide) (by omega)
  omega
attribute [local irreducible] W4 NT NV
end
section
theorem NT.nz {K V : Nat} {v : Value} {w : World} (h : NT K V v w) : Nz K V v w := by
  obtain ⟨g, k, cap, z, h1, h2, h3, h4, h5⟩ := h
  exact ⟨_, k, cap, z, h1, h2, h3, h4, h5⟩
theorem NT.nt {K V : Nat} {v : Value} {w : World} (h : NT K V v w) : Nt K V v w := h.nz.nt
theorem nmul_w {K K' A P : Nat} {v v' : Value} {w : World} (hK : K < 100000000) (hK' : K' < 100000000) (h : Nt K A v w) (h' : Nt K' P v' w) (hb : bl A + bl P ≤ 127000) :
    Calls Tryz.prog 142 #[v, v'] w fun r w' => ∃ q, r = .returned (.tuple #[q, .int .i64 0]) ∧ NT 2001 (A * P) q w' ∧ Below w.heap.size w w' := by
  obtain ⟨a, k, cap, z, rfl, hk, hN, hv⟩ := h
  obtain ⟨a', k', cap', z', rfl, hk', hN', hv'⟩ := h'
  have s1 := (size_bl (m := (bl A + 63) / 64) hN.2.2.1 hv).2 (by omega)
  have s2 := (size_bl (m := (bl P + 63) / 64) hN'.2.2.1 hv').2 (by omega)
  refine (nmul_any a a' k cap k' cap' z z' w (by omega) (by omega) hN hN' (by omega)).mono fun r w' ⟨g, q, cp, y, e1, hq, hNq, hvq, hsq, hB⟩ => ⟨_, e1, ⟨g, q, cp, y, rfl, by omega, hNq, ?_, hsq⟩, hB⟩
  rw [hvq, hv, hv']; simp
attribute [local irreducible] W4 Nz Nt NT
/-- the coefficient of a datum, in its place -/
theorem nt_at {W : World} {g k : Nat} (hk : k < 2 ^ 256) (hg : g < W.heap.size) (h0 : W.cell? ⟨g, 4, none⟩ = some (.int .u64 (W4 k 0))) (h1 : W.cell? ⟨g, 5, none⟩ = some (.int .u64 (W4 k 1))) (h2 : W.cell? ⟨g, 6, none⟩ = some (.int .u64 (W4 k 2))) (h3 : W.cell? ⟨g, 7, none⟩ = some (.int .u64 (W4 k 3))) :
    Nt 4 k (.slice (some ⟨g, 4, none⟩) 4 4) W := by
  unfold Nt
  refine ⟨some ⟨g, 4, none⟩, 4, 4, fun i => if i < 4 then W4 k i else 0, rfl, Nat.le_refl _, ⟨Nat.le_refl _, by unfold maxLen; omega, fun i => ?_, fun i hi => if_neg (by omega), Or.inr ⟨g, 4, rfl, hg, fun i hi => ?_⟩⟩, ?_⟩
  · dsimp only
    split
    · exact W4_words k i
    · exact ⟨Int.le_refl _, by decide⟩
  · have : i = 0 ∨ i = 1 ∨ i = 2 ∨ i = 3 := by omega
    rcases this with rfl | rfl | rfl | rfl
    · exact h0
    · exact h1
    · exact h2
    · exact h3
  · have e := W4_val4 hk
    rw [← e]
    simp [val]
/-- the guessed place of the first digit -/
def gsP (k : Nat) (x : Int) : Int := (((bl k : Int) - 1 + x) * 30103).tdiv 100000 - 1
end
section
/-- a pattern lies in a block of its own -/
structure C4 (g X : Nat) (w : World) : Prop where
  lt : g < w.heap.size
  c0 : w.cell? ⟨g, 0, none⟩ = some (.int .u64 (W4 X 0))
  c1 : w.cell? ⟨g, 1, none⟩ = some (.int .u64 (W4 X 1))
  c2 : w.cell? ⟨g, 2, none⟩ = some (.int .u64 (W4 X 2))
  c3 : w.cell? ⟨g, 3, none⟩ = some (.int .u64 (W4 X 3))
  f0 : w.frozen? ⟨g, 0, none⟩ = false
  f1 : w.frozen? ⟨g, 1, none⟩ = false
  f2 : w.frozen? ⟨g, 2, none⟩ = false
  f3 : w.frozen? ⟨g, 3, none⟩ = false
theorem C4.next {g X : Nat} {w w' : World} (h : C4 g X w) (hb : Below w.heap.size w w') : C4 g X w' :=
  ⟨Nat.lt_of_lt_of_le h.lt hb.size, (hb.cell (p := ⟨g, 0, none⟩) h.lt).trans h.c0, (hb.cell (p := ⟨g, 1, none⟩) h.lt).trans h.c1, (hb.cell (p := ⟨g, 2, none⟩) h.lt).trans h.c2, (hb.cell (p := ⟨g, 3, none⟩) h.lt).trans h.c3,
    (hb.frozen (p := ⟨g, 0, none⟩) h.lt).trans h.f0, (hb.frozen (p := ⟨g, 1, none⟩) h.lt).trans h.f1, (hb.frozen (p := ⟨g, 2, none⟩) h.lt).trans h.f2, (hb.frozen (p := ⟨g, 3, none⟩) h.lt).trans h.f3⟩
theorem C4.new (w : World) (t : TypeId) : C4 w.heap.size 0 (w.alloc (.cells #[.int .u64 0, .int .u64 0, .int .u64 0, .int .u64 0] t)) := by
  refine ⟨by simp, ?_, ?_, ?_, ?_, ?_, ?_, ?_, ?_⟩ <;> first | (rw [W4_zero]; go_simp) | go_simp
/-- a pattern written over another one -/
abbrev put4C (w : World) (g X : Nat) : World := (((w.setCell ⟨g, 0, none⟩ (.int .u64 (W4 X 0))).setCell ⟨g, 1, none⟩ (.int .u64 (W4 X 1))).setCell ⟨g, 2, none⟩ (.int .u64 (W4 X 2))).setCell ⟨g, 3, none⟩ (.int .u64 (W4 X 3))
theorem C4.put {g X Y : Nat} {w : World} (h : C4 g X w) : C4 g Y (put4C w g Y) := by
  have hsm := cell_set_map
  obtain ⟨h0, h1, h2, h3, h4, h5, h6, h7, h8⟩ := h
  refine ⟨by simp; exact h0, ?_, ?_, ?_, ?_, ?_, ?_, ?_, ?_⟩ <;> go_simp
theorem put4C_upd (w : World) (g X : Nat) : Upd g w (put4C w g X) := ((((Upd.refl g w).set 0 _).set 1 _).set 2 _).set 3 _
theorem NT.lt {K V b k c : Nat} {w : World} (h : NT K V (.slice (some ⟨b, 0, none⟩) k c) w) : b < w.heap.size := by
  obtain ⟨g', k', c', z, e, hk, hN, hv, hs⟩ := h
  cases e
  rcases hN.2.2.2.2 with ⟨h, _⟩ | ⟨b', off', h, hbs, _⟩
  · cases h
  · cases h; exact hbs
attribute [local irreducible] W4 NT NV
end
/-- Pack's answer: a pattern, an error -/
def vPV (n : Int) (d : Dat) : Nat := if decN n ∧ vI (fD n) d then vP (fD n) d else 0
def vPE (n : Int) (d : Dat) : Int := if decN n then (if vI (fD n) d then 0 else 3) else 1
theorem vPV_256 (n : Int) (d : Dat) : vPV n d < 2 ^ 256 := by
  unfold vPV
  split
  · rename_i h; exact vP_256 (fD_ok n) h.2
  · decide
theorem or_lay (y b r : Nat) (hb : b < 2 ^ r) (h : y * 2 ^ r + b < 18446744073709551616) : bits .or .u64 ((y * 2 ^ r : Nat) : Int) (b : Int) = ((y * 2 ^ r + b : Nat) : Int) := by
  have e := orW_eq ((y * 2 ^ r : Nat) : Int) (b : Int) (by omega) (by omega)
  unfold orW at e
  rw [e, Int.toNat_natCast, Int.toNat_natCast, Nat.mul_comm y, ← Nat.two_pow_add_eq_or_of_lt hb]
theorem and_lay (y r : Nat) (hr : r < 64) (hy : y < 18446744073709551616) : bits .and .u64 (y : Int) ((2 ^ r : Nat) - 1 : Int) = ((y % 2 ^ r : Nat) : Int) := by
  have e := and_mask (y := (y : Int)) (r := r) (by omega) hr
  rw [← powCast] at e
  rw [e, Int.natCast_emod]
section
/-- a region's operations, by its number -/
def findR (n : Nat) : Code → Option (List Oper)
  | .region i o _ => if i = n then some o.toList else none
  | .seq a b => match findR n a with | some l => some l | none => findR n b
  | .cond _ a b => match findR n a with | some l => some l | none => findR n b
  | .block _ c => findR n c
  | .loop c => findR n c
  | _ => none
abbrev iW (v : Value) : Value → World → Prop := fun x _ => x = v
section
variable {P : Program} {a : Act} {w : World} {K : Act → World → Prop} {Q : Exit → Act → World → Prop} {d p q : Nat} {ty : TypeId} {pos : String} {after : Array Edge} {gd : Option (Nat × Bool)}
theorem og_mv {v : Value} (h1 : slot a p = v) (hK : K (a.put (some d) v) w) : Oper.wp P { dst := some d, op := Op.move (Operand.tmp p), type := ty, pos := pos, after := after, guard := gd } a w K Q := by
  unfold slot at h1
  simp [go_sem, h1]
  exact hK
theorem og_as {v : Value} (h1 : slot a p = v) (hK : K (a.put (some d) v) w) : Oper.wp P { dst := some d, op := Op.assign (Operand.tmp p), type := ty, pos := pos, after := after, guard := gd } a w K Q := by
  unfold slot at h1
  simp [go_sem, h1]
  exact hK
theorem og_ld3 {g i : Nat} {v : Value} (h1 : slot a p = .pointer (some ⟨g, i, none⟩)) (h2 : w.cell? ⟨g, i, none⟩ = some v) (hK : K (a.put (some d) v) w) : Oper.wp Tryz.prog { dst := some d, op := Op.load 3 (Operand.tmp p), type := ty, pos := pos, after := after, guard := gd } a w K Q := by
  unfold slot at h1
  simp [go_sem, h1, h2]
  exact hK
end
end
section
section
variable {a : Act} {w : World} {K : Act → World → Prop} {Q : Exit → Act → World → Prop} {d p : Nat} {ty : TypeId} {pos : String} {after : Array Edge} {gd : Option (Nat × Bool)}
theorem og_c1 {F : Nat} {p0 : Nat} {u0 : Value} {ts : Array TypeId} (hr : Sem.run Tryz.prog (callFunc F #[u0]) w = .ok (.enter F #[u0]) w) (h0 : slot a p0 = u0) (hc : Calls Tryz.prog F #[u0] w fun e w' => ∃ v, e = .returned v ∧ K (a.put (some d) v) w') : Oper.wp Tryz.prog { dst := some d, op := Op.call { callee := Callee.value (Operand.func F), args := #[Operand.tmp p0], argTypes := ts }, type := ty, pos := pos, after := after, guard := gd } a w K Q := by
  unfold slot at h0
  simp [go_sem, h0, hr]
  refine hc.mono ?_
  rintro e w' ⟨v, rfl, hK⟩
  exact hK
theorem og_ext {P : Program} {vs : Array Value} {i : Nat} {v : Value} (h1 : slot a p = .tuple vs) (h2 : vs[i]? = some v) (hK : K (a.put (some d) v) w) : Oper.wp P { dst := some d, op := Op.extract (Operand.tmp p) i, type := ty, pos := pos, after := after, guard := gd } a w K Q := by
  unfold slot at h1
  simp [go_sem, h1, h2]
  exact hK
end
end
section
attribute [local irreducible] W4 NT NV
section
variable {a : Act} {w : World} {K : Act → World → Prop} {Q : Exit → Act → World → Prop} {d p : Nat} {ty : TypeId} {pos : String} {after : Array Edge} {gd : Option (Nat × Bool)}
end
theorem put_sizeV {a : Act} {d : Nat} {v : Value} : (a.put (some d) v).tmps.size = a.tmps.size := by simp [Act.put]
end
section
/-- a number or nothing -/
def NN (K X : Nat) (v : Value) (w : World) : Prop := (v = .slice none 0 0 ∧ X = 0) ∨ NT K X v w
theorem NN.next {K X : Nat} {v : Value} {w w' : World} (h : NN K X v w) (hb : Below w.heap.size w w') : NN K X v w' := by
  rcases h with h | h
  · exact Or.inl h
  · exact Or.inr (h.next hb)
attribute [local irreducible] W4 NT NV NN
end
section
attribute [local irreducible] W4 NT
/-- a pattern lies in a block of its own -/
structure B4 (g X : Nat) (w : World) : Prop where
  lt : g < w.heap.size
  c0 : w.cell? ⟨g, 0, none⟩ = some (.int .u64 (W4 X 0))
  c1 : w.cell? ⟨g, 1, none⟩ = some (.int .u64 (W4 X 1))
  c2 : w.cell? ⟨g, 2, none⟩ = some (.int .u64 (W4 X 2))
  c3 : w.cell? ⟨g, 3, none⟩ = some (.int .u64 (W4 X 3))
  f0 : w.frozen? ⟨g, 0, none⟩ = false
  f1 : w.frozen? ⟨g, 1, none⟩ = false
  f2 : w.frozen? ⟨g, 2, none⟩ = false
  f3 : w.frozen? ⟨g, 3, none⟩ = false
theorem B4.next {g X : Nat} {w w' : World} (h : B4 g X w) (hb : Below w.heap.size w w') : B4 g X w' :=
  ⟨Nat.lt_of_lt_of_le h.lt hb.size, (hb.cell (p := ⟨g, 0, none⟩) h.lt).trans h.c0, (hb.cell (p := ⟨g, 1, none⟩) h.lt).trans h.c1, (hb.cell (p := ⟨g, 2, none⟩) h.lt).trans h.c2, (hb.cell (p := ⟨g, 3, none⟩) h.lt).trans h.c3,
    (hb.frozen (p := ⟨g, 0, none⟩) h.lt).trans h.f0, (hb.frozen (p := ⟨g, 1, none⟩) h.lt).trans h.f1, (hb.frozen (p := ⟨g, 2, none⟩) h.lt).trans h.f2, (hb.frozen (p := ⟨g, 3, none⟩) h.lt).trans h.f3⟩
theorem B4.new (w : World) (t : TypeId) : B4 w.heap.size 0 (w.alloc (.cells #[.int .u64 0, .int .u64 0, .int .u64 0, .int .u64 0] t)) := by
  refine ⟨by simp, ?_, ?_, ?_, ?_, ?_, ?_, ?_, ?_⟩ <;> first | (rw [W4_zero]; go_simp) | go_simp
/-- a pattern written over another one -/
abbrev put4B (w : World) (g X : Nat) : World := (((w.setCell ⟨g, 0, none⟩ (.int .u64 (W4 X 0))).setCell ⟨g, 1, none⟩ (.int .u64 (W4 X 1))).setCell ⟨g, 2, none⟩ (.int .u64 (W4 X 2))).setCell ⟨g, 3, none⟩ (.int .u64 (W4 X 3))
theorem B4.put {g X Y : Nat} {w : World} (h : B4 g X w) : B4 g Y (put4B w g Y) := by
  have hsm := cell_set_map
  obtain ⟨h0, h1, h2, h3, h4, h5, h6, h7, h8⟩ := h
  refine ⟨by simp; exact h0, ?_, ?_, ?_, ?_, ?_, ?_, ?_, ?_⟩ <;> go_simp
theorem B4.other {g h X Y : Nat} {w : World} (hB : B4 g X w) (hne : g ≠ h) : B4 g X (put4B w h Y) := by
  obtain ⟨h0, h1, h2, h3, h4, h5, h6, h7, h8⟩ := hB
  refine ⟨by simp; exact h0, ?_, ?_, ?_, ?_, ?_, ?_, ?_, ?_⟩ <;> go_simp
section
variable {P : Program} {a : Act} {w : World} {K : Act → World → Prop} {Q : Exit → Act → World → Prop} {d p q : Nat} {ty : TypeId} {pos : String} {after : Array Edge} {gd : Option (Nat × Bool)}
end
/-- what stands while the region is under way -/
def M18 (ws : World) (X4 : Nat) (L : Nat → Prop) (f : Nat → Value) (w : World) : Prop :=
  Below ws.heap.size ws w ∧ (L 4 → ∃ g X, f 17 = .pointer (some ⟨g, 0, none⟩) ∧ ws.heap.size ≤ g ∧ B4 g X w ∧ (L 6 → X = X4)) ∧ (L 5 → ∃ h, f 18 = .pointer (some ⟨h, 0, none⟩) ∧ ws.heap.size ≤ h ∧ B4 h 0 w) ∧ (L 4 → L 5 → f 17 ≠ f 18)
theorem M18.step {ws w : World} {X4 k t : Nat} {L : Nat → Prop} {f : Nat → Value} {v : Value} (h : M18 ws X4 L f w) (h1 : t ≠ 17) (h2 : t ≠ 18) (h3 : k ≠ 4) (h4 : k ≠ 5) (h5 : k ≠ 6) : M18 ws X4 (fun j => L j ∨ j = k) (fun u => if some t = some u then v else f u) w := by
  obtain ⟨a1, a2, a3, a4⟩ := h
  have e17 : (if some t = some 17 then v else f 17) = f 17 := if_neg (fun e => h1 (Option.some.inj e))
  have e18 : (if some t = some 18 then v else f 18) = f 18 := if_neg (fun e => h2 (Option.some.inj e))
  have l4 : ∀ {p : Prop}, (p ∨ 4 = k) → p := fun h => h.resolve_right (fun e => h3 e.symm)
  have l5 : ∀ {p : Prop}, (p ∨ 5 = k) → p := fun h => h.resolve_right (fun e => h4 e.symm)
  have l6 : ∀ {p : Prop}, (p ∨ 6 = k) → p := fun h => h.resolve_right (fun e => h5 e.symm)
  refine ⟨a1, fun h => ?_, fun h => ?_, fun h h' => ?_⟩
  · obtain ⟨g, X, b1, b2, b3, b4⟩ := a2 (l4 h)
    exact ⟨g, X, e17.trans b1, b2, b3, fun h => b4 (l6 h)⟩
  · obtain ⟨g, b1, b2, b3⟩ := a3 (l5 h)
    exact ⟨g, e18.trans b1, b2, b3⟩
  · show (if some t = some 17 then v else f 17) ≠ (if some t = some 18 then v else f 18)
    rw [e17, e18]
    exact a4 (l4 h) (l5 h')
end
end Go.Proofs.YtehgnckgmdkfmaaGreatDoor
