/-
  Texts that the proof leans on.
-/
import Derived.Test.YtpemdcnneabbfaaDoorJ1
set_option linter.unusedVariables false
set_option linter.unusedSimpArgs false
set_option linter.unusedSectionVars false
set_option maxRecDepth 20000
namespace Go.Proofs.YtpemdcnneabbfaaDoor
open Go.RowKit
section
def numN (n : Int) : Int := if okN n then n else 0
def baseN : Int → Int
  | 1 => 2
  | 2 => 2
  | 3 => 2
  | 4 => 2
  | 5 => 2
  | 6 => 2
  | 7 => 10
  | 8 => 10
  | 9 => 10
  | 10 => 10
  | 11 => 10
  | 12 => 10
  | _ => 0
def widthN : Int → Int
  | 1 => 16
  | 2 => 16
  | 3 => 32
  | 4 => 64
  | 5 => 128
  | 6 => 256
  | 7 => 32
  | 8 => 64
  | 9 => 128
  | 10 => 32
  | 11 => 64
  | 12 => 128
  | _ => 0
def precN : Int → Int
  | 1 => 11
  | 2 => 8
  | 3 => 24
  | 4 => 53
  | 5 => 113
  | 6 => 241
  | 7 => 7
  | 8 => 16
  | 9 => 34
  | 10 => 7
  | 11 => 16
  | 12 => 34
  | _ => 0
def expN : Int → Int
  | 1 => 5
  | 2 => 8
  | 3 => 8
  | 4 => 11
  | 5 => 15
  | 6 => 15
  | 7 => 96
  | 8 => 384
  | 9 => 6144
  | 10 => 96
  | 11 => 384
  | 12 => 6144
  | _ => 0
def leastN : Int → Int
  | 1 => -24
  | 2 => -133
  | 3 => -149
  | 4 => -1074
  | 5 => -16494
  | 6 => -16622
  | 7 => -101
  | 8 => -398
  | 9 => -6176
  | 10 => -101
  | 11 => -398
  | 12 => -6176
  | _ => 0
def mostN : Int → Int
  | 1 => 5
  | 2 => 120
  | 3 => 104
  | 4 => 971
  | 5 => 16271
  | 6 => 16143
  | 7 => 90
  | 8 => 369
  | 9 => 6111
  | 10 => 90
  | 11 => 369
  | 12 => 6111
  | _ => 0
def payN : Int → Int
  | 1 => 9
  | 2 => 6
  | 3 => 22
  | 4 => 51
  | 5 => 111
  | 6 => 239
  | 7 => 6
  | 8 => 15
  | 9 => 33
  | 10 => 6
  | 11 => 15
  | 12 => 33
  | _ => 0
def denseN (n : Int) : Bool := decide (10 ≤ n ∧ n ≤ 12)
def nameN : Int → ByteArray
  | 1 => ⟨#[72, 97, 108, 102]⟩
  | 2 => ⟨#[66, 114, 97, 105, 110]⟩
  | 3 => ⟨#[83, 105, 110, 103, 108, 101]⟩
  | 4 => ⟨#[68, 111, 117, 98, 108, 101]⟩
  | 5 => ⟨#[81, 117, 97, 100]⟩
  | 6 => ⟨#[79, 99, 116, 111]⟩
  | 7 => ⟨#[80, 108, 97, 105, 110, 51, 50]⟩
  | 8 => ⟨#[80, 108, 97, 105, 110, 54, 52]⟩
  | 9 => ⟨#[80, 108, 97, 105, 110, 49, 50, 56]⟩
  | 10 => ⟨#[68, 101, 110, 115, 101, 51, 50]⟩
  | 11 => ⟨#[68, 101, 110, 115, 101, 54, 52]⟩
  | 12 => ⟨#[68, 101, 110, 115, 101, 49, 50, 56]⟩
  | _ => ⟨#[]⟩
theorem fields_none {n : Int} (h : ¬ okN n) : numN n = 0 ∧ nameN n = ⟨#[]⟩ ∧ baseN n = 0 ∧ widthN n = 0 ∧ precN n = 0 ∧ expN n = 0 ∧ leastN n = 0 ∧ mostN n = 0 ∧ payN n = 0 ∧ denseN n = false := by
  refine ⟨if_neg h, ?_, ?_, ?_, ?_, ?_, ?_, ?_, ?_, ?_⟩
  · unfold nameN okN at *; split <;> first | rfl | omega
  · unfold baseN okN at *; split <;> first | rfl | omega
  · unfold widthN okN at *; split <;> first | rfl | omega
  · unfold precN okN at *; split <;> first | rfl | omega
  · unfold expN okN at *; split <;> first | rfl | omega
  · unfold leastN okN at *; split <;> first | rfl | omega
  · unfold mostN okN at *; split <;> first | rfl | omega
  · unfold payN okN at *; split <;> first | rfl | omega
  · unfold denseN okN at *; simp only [decide_eq_false_iff_not]; omega
theorem infoV_eq (n : Int) : infoV n = #[.int .i64 (numN n), .string (nameN n), .int .i64 (baseN n), .int .i64 (widthN n), .int .i64 (precN n), .int .i64 (expN n), .int .i64 (leastN n), .int .i64 (mostN n), .int .i64 (payN n), .bool (denseN n)] := by
  by_cases h : okN n
  · rcases okN_cases h with rfl | rfl | rfl | rfl | rfl | rfl | rfl | rfl | rfl | rfl | rfl | rfl <;> rfl
  · obtain ⟨h0, h1, h2, h3, h4, h5, h6, h7, h8, h9⟩ := fields_none h
    rw [infoV_none h, h0, h1, h2, h3, h4, h5, h6, h7, h8, h9]
/-- what is between what bounds -/
theorem fields_bounds (n : Int) : (0 ≤ baseN n ∧ baseN n ≤ 10) ∧ (0 ≤ widthN n ∧ widthN n ≤ 256) ∧ (0 ≤ precN n ∧ precN n ≤ 241) ∧ (-17000 ≤ leastN n ∧ leastN n ≤ 0) ∧ (0 ≤ mostN n ∧ mostN n ≤ 17000) := by
  by_cases h : okN n
  · rcases okN_cases h with rfl | rfl | rfl | rfl | rfl | rfl | rfl | rfl | rfl | rfl | rfl | rfl <;> decide
  · obtain ⟨h0, h1, h2, h3, h4, h5, h6, h7, h8, h9⟩ := fields_none h
    rw [h2, h3, h4, h6, h7]; decide
theorem ofv_any (n : Int) (w : World) (hT : Tab w) :
    Calls Tryd.prog 32 #[.int .i64 n] w fun e w' => e = .returned (.tuple #[.agg #[.int .i64 (numN n), .string (nameN n), .int .i64 (baseN n), .int .i64 (widthN n), .int .i64 (precN n), .int .i64 (expN n), .int .i64 (leastN n), .int .i64 (mostN n), .int .i64 (payN n), .bool (denseN n)], .int .i64 (infoE n)]) ∧ Below w.heap.size w w' :=
  infoV_eq n ▸ dof_any n w hT
set_option maxHeartbeats 400000 in
def holdsP (f g : Int) : Prop := okN f ∧ okN g ∧ baseN f = baseN g ∧ precN f ≤ precN g ∧ leastN g ≤ leastN f ∧ mostN f + precN f ≤ mostN g + precN g
instance (f g : Int) : Decidable (holdsP f g) := inferInstanceAs (Decidable (_ ∧ _))
end
end Go.Proofs.YtpemdcnneabbfaaDoor
