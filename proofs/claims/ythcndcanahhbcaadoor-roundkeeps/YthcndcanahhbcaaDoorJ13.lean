/-
  Texts that the proof leans on, joined: Lr.
-/
import Derived.Test.YthcndcanahhbcaaDoorJ8
/-
  The law BinaryRises: it returns true.
-/
set_option linter.unusedVariables false
set_option linter.unusedSectionVars false
set_option linter.unusedSimpArgs false
set_option maxRecDepth 20000
namespace Go.Proofs.YthcndcanahhbcaaDoor
open Go.RowKit

/-- a block holds four words of a number, from a place on -/
structure Four (w : World) (g o k : Nat) : Prop where
  cell : ∀ i, i < 4 → w.cell? ⟨g, o + i, none⟩ = some (.int .u64 (W4 k i))
theorem Four.of {w : World} {g o k : Nat} (h0 : w.cell? ⟨g, o + 0, none⟩ = some (.int .u64 (W4 k 0))) (h1 : w.cell? ⟨g, o + 1, none⟩ = some (.int .u64 (W4 k 1))) (h2 : w.cell? ⟨g, o + 2, none⟩ = some (.int .u64 (W4 k 2))) (h3 : w.cell? ⟨g, o + 3, none⟩ = some (.int .u64 (W4 k 3))) : Four w g o k :=
  ⟨fun i hi => by
    have : i = 0 ∨ i = 1 ∨ i = 2 ∨ i = 3 := by omega
    rcases this with rfl | rfl | rfl | rfl <;> assumption⟩
theorem Four.next {w w' : World} {g o k : Nat} (h : Four w g o k) (hg : g < w.heap.size) (hb : Below w.heap.size w w') : Four w' g o k :=
  ⟨fun i hi => by rw [hb.cell (p := ⟨g, o + i, none⟩) hg]; exact h.cell i hi⟩
/-- a block holds a datum -/
structure Dc (w : World) (g : Nat) (c : Int) (s b : Bool) (x : Int) (k : Nat) : Prop where
  c0 : w.cell? ⟨g, 0, none⟩ = some (.int .i64 c)
  c1 : w.cell? ⟨g, 1, none⟩ = some (.bool s)
  c2 : w.cell? ⟨g, 2, none⟩ = some (.bool b)
  c3 : w.cell? ⟨g, 3, none⟩ = some (.int .i64 x)
  c4 : w.cell? ⟨g, 4, none⟩ = some (.int .u64 (W4 k 0))
  c5 : w.cell? ⟨g, 5, none⟩ = some (.int .u64 (W4 k 1))
  c6 : w.cell? ⟨g, 6, none⟩ = some (.int .u64 (W4 k 2))
  c7 : w.cell? ⟨g, 7, none⟩ = some (.int .u64 (W4 k 3))
theorem Dc.next {w w' : World} {g : Nat} {c : Int} {s b : Bool} {x : Int} {k : Nat} (h : Dc w g c s b x k) (hg : g < w.heap.size) (hb : Below w.heap.size w w') : Dc w' g c s b x k :=
  ⟨by rw [hb.cell (p := ⟨g, 0, none⟩) hg, h.c0], by rw [hb.cell (p := ⟨g, 1, none⟩) hg, h.c1], by rw [hb.cell (p := ⟨g, 2, none⟩) hg, h.c2], by rw [hb.cell (p := ⟨g, 3, none⟩) hg, h.c3],
   by rw [hb.cell (p := ⟨g, 4, none⟩) hg, h.c4], by rw [hb.cell (p := ⟨g, 5, none⟩) hg, h.c5], by rw [hb.cell (p := ⟨g, 6, none⟩) hg, h.c6], by rw [hb.cell (p := ⟨g, 7, none⟩) hg, h.c7]⟩
theorem Dc.four {w : World} {g : Nat} {c : Int} {s b : Bool} {x : Int} {k : Nat} (h : Dc w g c s b x k) : Four w g 4 k := .of h.c4 h.c5 h.c6 h.c7
/-- what stands in the words below i -/
def mo (A B i : Nat) : Bool := decide (val (W4 B) i < val (W4 A) i)
theorem mo_zero (A B : Nat) : mo A B 0 = false := by unfold mo; rfl
theorem mo_same {A B i : Nat} (h : W4 A i = W4 B i) : mo A B (i + 1) = mo A B i := by
  unfold mo
  simp only [val, h]
  congr 1
  simp
theorem mo_other {A B i : Nat} (h : W4 A i ≠ W4 B i) : mo A B (i + 1) = decide (W4 B i < W4 A i) := by
  unfold mo
  have a1 := val_bd (W4_words A) i
  have b1 := val_bd (W4_words B) i
  apply decide_eq_decide.2
  simp only [val]
  generalize (18446744073709551616 : Int) ^ i = P at *
  by_cases h1 : W4 B i < W4 A i
  · have : (W4 B i + 1) * P ≤ W4 A i * P := Int.mul_le_mul_of_nonneg_right (by omega) (by omega)
    rw [Int.add_mul] at this
    exact ⟨fun _ => h1, fun _ => by omega⟩
  · have : (W4 A i + 1) * P ≤ W4 B i * P := Int.mul_le_mul_of_nonneg_right (by omega) (by omega)
    rw [Int.add_mul] at this
    exact ⟨fun hh => by omega, fun hh => absurd hh h1⟩
theorem mo_four {A B : Nat} (hA : A < 2 ^ 256) (hB : B < 2 ^ 256) : mo A B 4 = decide (B < A) := by
  unfold mo
  rw [W4_val4 hA, W4_val4 hB]
  simp
attribute [local irreducible] W4 mo
section
variable (n : Int) (A B : Nat) (w : World) (hT : Tab w) (Xc Xx Yc Yx : Int) (Xs Xg Yg : Bool) (Xk Yk : Nat)
include hT
set_option maxHeartbeats 2000000 in
end
end Go.Proofs.YthcndcanahhbcaaDoor
