/-
  Texts that the proof leans on.
-/
import Derived.Test.YtgknbdehlmlipabGreatDoorJ2
import Derived.Test.YtgknbdehlmlipabGreatDoorJ3
set_option linter.unusedVariables false
set_option linter.unusedSimpArgs false
set_option maxRecDepth 20000
set_option linter.unusedSectionVars false
namespace Go.Proofs.YtgknbdehlmlipabGreatDoor
open Go.RowKit

set_option maxHeartbeats 400000 in
theorem rof_1 (w : World) :
    Calls Tryz.prog 6 #[.int .i64 1] w fun e w' => e = .returned (.tuple #[.agg (infoV 1), .int .i64 0]) ∧ Below w.heap.size w w' := by
  show Calls Tryz.prog 6 #[.int .i64 1] w fun e w' => e = .returned (.tuple #[.agg #[.int .i64 1, .string ⟨#[72, 97, 108, 102]⟩, .int .i64 2, .int .i64 16, .int .i64 11, .int .i64 5, .int .i64 (-24), .int .i64 5, .int .i64 9, .bool false], .int .i64 0]) ∧ Below w.heap.size w w'
  go_enter Tryz.func6, Tryz.ntmps6
  go_wp2
  exact bodyPost_ret (v := .tuple #[.agg #[.int .i64 1, .string ⟨#[72, 97, 108, 102]⟩, .int .i64 2, .int .i64 16, .int .i64 11, .int .i64 5, .int .i64 (-24), .int .i64 5, .int .i64 9, .bool false], .int .i64 0]) (by rw [results_cell_tmp rfl]; go_simp) rfl ⟨rfl, below2' _ _ _⟩
set_option maxHeartbeats 400000 in
theorem rof_2 (w : World) :
    Calls Tryz.prog 6 #[.int .i64 2] w fun e w' => e = .returned (.tuple #[.agg (infoV 2), .int .i64 0]) ∧ Below w.heap.size w w' := by
  show Calls Tryz.prog 6 #[.int .i64 2] w fun e w' => e = .returned (.tuple #[.agg #[.int .i64 2, .string ⟨#[66, 114, 97, 105, 110]⟩, .int .i64 2, .int .i64 16, .int .i64 8, .int .i64 8, .int .i64 (-133), .int .i64 120, .int .i64 6, .bool false], .int .i64 0]) ∧ Below w.heap.size w w'
  go_enter Tryz.func6, Tryz.ntmps6
  go_wp2
  exact bodyPost_ret (v := .tuple #[.agg #[.int .i64 2, .string ⟨#[66, 114, 97, 105, 110]⟩, .int .i64 2, .int .i64 16, .int .i64 8, .int .i64 8, .int .i64 (-133), .int .i64 120, .int .i64 6, .bool false], .int .i64 0]) (by rw [results_cell_tmp rfl]; go_simp) rfl ⟨rfl, below2' _ _ _⟩
set_option maxHeartbeats 400000 in
theorem rof_3 (w : World) :
    Calls Tryz.prog 6 #[.int .i64 3] w fun e w' => e = .returned (.tuple #[.agg (infoV 3), .int .i64 0]) ∧ Below w.heap.size w w' := by
  show Calls Tryz.prog 6 #[.int .i64 3] w fun e w' => e = .returned (.tuple #[.agg #[.int .i64 3, .string ⟨#[83, 105, 110, 103, 108, 101]⟩, .int .i64 2, .int .i64 32, .int .i64 24, .int .i64 8, .int .i64 (-149), .int .i64 104, .int .i64 22, .bool false], .int .i64 0]) ∧ Below w.heap.size w w'
  go_enter Tryz.func6, Tryz.ntmps6
  go_wp2
  exact bodyPost_ret (v := .tuple #[.agg #[.int .i64 3, .string ⟨#[83, 105, 110, 103, 108, 101]⟩, .int .i64 2, .int .i64 32, .int .i64 24, .int .i64 8, .int .i64 (-149), .int .i64 104, .int .i64 22, .bool false], .int .i64 0]) (by rw [results_cell_tmp rfl]; go_simp) rfl ⟨rfl, below2' _ _ _⟩
set_option maxHeartbeats 400000 in
theorem rof_4 (w : World) :
    Calls Tryz.prog 6 #[.int .i64 4] w fun e w' => e = .returned (.tuple #[.agg (infoV 4), .int .i64 0]) ∧ Below w.heap.size w w' := by
  show Calls Tryz.prog 6 #[.int .i64 4] w fun e w' => e = .returned (.tuple #[.agg #[.int .i64 4, .string ⟨#[68, 111, 117, 98, 108, 101]⟩, .int .i64 2, .int .i64 64, .int .i64 53, .int .i64 11, .int .i64 (-1074), .int .i64 971, .int .i64 51, .bool false], .int .i64 0]) ∧ Below w.heap.size w w'
  go_enter Tryz.func6, Tryz.ntmps6
  go_wp2
  exact bodyPost_ret (v := .tuple #[.agg #[.int .i64 4, .string ⟨#[68, 111, 117, 98, 108, 101]⟩, .int .i64 2, .int .i64 64, .int .i64 53, .int .i64 11, .int .i64 (-1074), .int .i64 971, .int .i64 51, .bool false], .int .i64 0]) (by rw [results_cell_tmp rfl]; go_simp) rfl ⟨rfl, below2' _ _ _⟩
set_option maxHeartbeats 400000 in
theorem rof_5 (w : World) :
    Calls Tryz.prog 6 #[.int .i64 5] w fun e w' => e = .returned (.tuple #[.agg (infoV 5), .int .i64 0]) ∧ Below w.heap.size w w' := by
  show Calls Tryz.prog 6 #[.int .i64 5] w fun e w' => e = .returned (.tuple #[.agg #[.int .i64 5, .string ⟨#[81, 117, 97, 100]⟩, .int .i64 2, .int .i64 128, .int .i64 113, .int .i64 15, .int .i64 (-16494), .int .i64 16271, .int .i64 111, .bool false], .int .i64 0]) ∧ Below w.heap.size w w'
  go_enter Tryz.func6, Tryz.ntmps6
  go_wp2
  exact bodyPost_ret (v := .tuple #[.agg #[.int .i64 5, .string ⟨#[81, 117, 97, 100]⟩, .int .i64 2, .int .i64 128, .int .i64 113, .int .i64 15, .int .i64 (-16494), .int .i64 16271, .int .i64 111, .bool false], .int .i64 0]) (by rw [results_cell_tmp rfl]; go_simp) rfl ⟨rfl, below2' _ _ _⟩
set_option maxHeartbeats 400000 in
theorem rof_6 (w : World) :
    Calls Tryz.prog 6 #[.int .i64 6] w fun e w' => e = .returned (.tuple #[.agg (infoV 6), .int .i64 0]) ∧ Below w.heap.size w w' := by
  show Calls Tryz.prog 6 #[.int .i64 6] w fun e w' => e = .returned (.tuple #[.agg #[.int .i64 6, .string ⟨#[79, 99, 116, 111]⟩, .int .i64 2, .int .i64 256, .int .i64 241, .int .i64 15, .int .i64 (-16622), .int .i64 16143, .int .i64 239, .bool false], .int .i64 0]) ∧ Below w.heap.size w w'
  go_enter Tryz.func6, Tryz.ntmps6
  go_wp2
  exact bodyPost_ret (v := .tuple #[.agg #[.int .i64 6, .string ⟨#[79, 99, 116, 111]⟩, .int .i64 2, .int .i64 256, .int .i64 241, .int .i64 15, .int .i64 (-16622), .int .i64 16143, .int .i64 239, .bool false], .int .i64 0]) (by rw [results_cell_tmp rfl]; go_simp) rfl ⟨rfl, below2' _ _ _⟩
set_option maxHeartbeats 400000 in
theorem rof_7 (w : World) :
    Calls Tryz.prog 6 #[.int .i64 7] w fun e w' => e = .returned (.tuple #[.agg (infoV 7), .int .i64 0]) ∧ Below w.heap.size w w' := by
  show Calls Tryz.prog 6 #[.int .i64 7] w fun e w' => e = .returned (.tuple #[.agg #[.int .i64 7, .string ⟨#[80, 108, 97, 105, 110, 51, 50]⟩, .int .i64 10, .int .i64 32, .int .i64 7, .int .i64 96, .int .i64 (-101), .int .i64 90, .int .i64 6, .bool false], .int .i64 0]) ∧ Below w.heap.size w w'
  go_enter Tryz.func6, Tryz.ntmps6
  go_wp2
  exact bodyPost_ret (v := .tuple #[.agg #[.int .i64 7, .string ⟨#[80, 108, 97, 105, 110, 51, 50]⟩, .int .i64 10, .int .i64 32, .int .i64 7, .int .i64 96, .int .i64 (-101), .int .i64 90, .int .i64 6, .bool false], .int .i64 0]) (by rw [results_cell_tmp rfl]; go_simp; rfl) rfl ⟨rfl, below2' _ _ _⟩
set_option maxHeartbeats 400000 in
theorem rof_8 (w : World) :
    Calls Tryz.prog 6 #[.int .i64 8] w fun e w' => e = .returned (.tuple #[.agg (infoV 8), .int .i64 0]) ∧ Below w.heap.size w w' := by
  show Calls Tryz.prog 6 #[.int .i64 8] w fun e w' => e = .returned (.tuple #[.agg #[.int .i64 8, .string ⟨#[80, 108, 97, 105, 110, 54, 52]⟩, .int .i64 10, .int .i64 64, .int .i64 16, .int .i64 384, .int .i64 (-398), .int .i64 369, .int .i64 15, .bool false], .int .i64 0]) ∧ Below w.heap.size w w'
  go_enter Tryz.func6, Tryz.ntmps6
  go_wp2
  exact bodyPost_ret (v := .tuple #[.agg #[.int .i64 8, .string ⟨#[80, 108, 97, 105, 110, 54, 52]⟩, .int .i64 10, .int .i64 64, .int .i64 16, .int .i64 384, .int .i64 (-398), .int .i64 369, .int .i64 15, .bool false], .int .i64 0]) (by rw [results_cell_tmp rfl]; go_simp; rfl) rfl ⟨rfl, below2' _ _ _⟩
set_option maxHeartbeats 400000 in
theorem rof_9 (w : World) :
    Calls Tryz.prog 6 #[.int .i64 9] w fun e w' => e = .returned (.tuple #[.agg (infoV 9), .int .i64 0]) ∧ Below w.heap.size w w' := by
  show Calls Tryz.prog 6 #[.int .i64 9] w fun e w' => e = .returned (.tuple #[.agg #[.int .i64 9, .string ⟨#[80, 108, 97, 105, 110, 49, 50, 56]⟩, .int .i64 10, .int .i64 128, .int .i64 34, .int .i64 6144, .int .i64 (-6176), .int .i64 6111, .int .i64 33, .bool false], .int .i64 0]) ∧ Below w.heap.size w w'
  go_enter Tryz.func6, Tryz.ntmps6
  go_wp2
  exact bodyPost_ret (v := .tuple #[.agg #[.int .i64 9, .string ⟨#[80, 108, 97, 105, 110, 49, 50, 56]⟩, .int .i64 10, .int .i64 128, .int .i64 34, .int .i64 6144, .int .i64 (-6176), .int .i64 6111, .int .i64 33, .bool false], .int .i64 0]) (by rw [results_cell_tmp rfl]; go_simp; rfl) rfl ⟨rfl, below2' _ _ _⟩
set_option maxHeartbeats 400000 in
theorem rof_10 (w : World) :
    Calls Tryz.prog 6 #[.int .i64 10] w fun e w' => e = .returned (.tuple #[.agg (infoV 10), .int .i64 0]) ∧ Below w.heap.size w w' := by
  show Calls Tryz.prog 6 #[.int .i64 10] w fun e w' => e = .returned (.tuple #[.agg #[.int .i64 10, .string ⟨#[68, 101, 110, 115, 101, 51, 50]⟩, .int .i64 10, .int .i64 32, .int .i64 7, .int .i64 96, .int .i64 (-101), .int .i64 90, .int .i64 6, .bool true], .int .i64 0]) ∧ Below w.heap.size w w'
  go_enter Tryz.func6, Tryz.ntmps6
  go_wp2
  exact bodyPost_ret (v := .tuple #[.agg #[.int .i64 10, .string ⟨#[68, 101, 110, 115, 101, 51, 50]⟩, .int .i64 10, .int .i64 32, .int .i64 7, .int .i64 96, .int .i64 (-101), .int .i64 90, .int .i64 6, .bool true], .int .i64 0]) (by rw [results_cell_tmp rfl]; go_simp; rfl) rfl ⟨rfl, below2' _ _ _⟩
set_option maxHeartbeats 400000 in
theorem rof_11 (w : World) :
    Calls Tryz.prog 6 #[.int .i64 11] w fun e w' => e = .returned (.tuple #[.agg (infoV 11), .int .i64 0]) ∧ Below w.heap.size w w' := by
  show Calls Tryz.prog 6 #[.int .i64 11] w fun e w' => e = .returned (.tuple #[.agg #[.int .i64 11, .string ⟨#[68, 101, 110, 115, 101, 54, 52]⟩, .int .i64 10, .int .i64 64, .int .i64 16, .int .i64 384, .int .i64 (-398), .int .i64 369, .int .i64 15, .bool true], .int .i64 0]) ∧ Below w.heap.size w w'
  go_enter Tryz.func6, Tryz.ntmps6
  go_wp2
  exact bodyPost_ret (v := .tuple #[.agg #[.int .i64 11, .string ⟨#[68, 101, 110, 115, 101, 54, 52]⟩, .int .i64 10, .int .i64 64, .int .i64 16, .int .i64 384, .int .i64 (-398), .int .i64 369, .int .i64 15, .bool true], .int .i64 0]) (by rw [results_cell_tmp rfl]; go_simp; rfl) rfl ⟨rfl, below2' _ _ _⟩
set_option maxHeartbeats 400000 in
theorem rof_12 (w : World) :
    Calls Tryz.prog 6 #[.int .i64 12] w fun e w' => e = .returned (.tuple #[.agg (infoV 12), .int .i64 0]) ∧ Below w.heap.size w w' := by
  show Calls Tryz.prog 6 #[.int .i64 12] w fun e w' => e = .returned (.tuple #[.agg #[.int .i64 12, .string ⟨#[68, 101, 110, 115, 101, 49, 50, 56]⟩, .int .i64 10, .int .i64 128, .int .i64 34, .int .i64 6144, .int .i64 (-6176), .int .i64 6111, .int .i64 33, .bool true], .int .i64 0]) ∧ Below w.heap.size w w'
  go_enter Tryz.func6, Tryz.ntmps6
  go_wp2
  exact bodyPost_ret (v := .tuple #[.agg #[.int .i64 12, .string ⟨#[68, 101, 110, 115, 101, 49, 50, 56]⟩, .int .i64 10, .int .i64 128, .int .i64 34, .int .i64 6144, .int .i64 (-6176), .int .i64 6111, .int .i64 33, .bool true], .int .i64 0]) (by rw [results_cell_tmp rfl]; go_simp; rfl) rfl ⟨rfl, below2' _ _ _⟩
set_option maxHeartbeats 400000 in
theorem rof_none (n : Int) (w : World) (h : ¬ okN n) :
    Calls Tryz.prog 6 #[.int .i64 n] w fun e w' => e = .returned (.tuple #[.agg (infoV n), .int .i64 1]) ∧ Below w.heap.size w w' := by
  rw [infoV_none h]
  have e1 : (n == 1) = false := by unfold okN at h; simp only [beq_eq_false_iff_ne, ne_eq]; omega
  have e2 : (n == 2) = false := by unfold okN at h; simp only [beq_eq_false_iff_ne, ne_eq]; omega
  have e3 : (n == 3) = false := by unfold okN at h; simp only [beq_eq_false_iff_ne, ne_eq]; omega
  have e4 : (n == 4) = false := by unfold okN at h; simp only [beq_eq_false_iff_ne, ne_eq]; omega
  have e5 : (n == 5) = false := by unfold okN at h; simp only [beq_eq_false_iff_ne, ne_eq]; omega
  have e6 : (n == 6) = false := by unfold okN at h; simp only [beq_eq_false_iff_ne, ne_eq]; omega
  have e7 : (n == 7) = false := by unfold okN at h; simp only [beq_eq_false_iff_ne, ne_eq]; omega
  have e8 : (n == 8) = false := by unfold okN at h; simp only [beq_eq_false_iff_ne, ne_eq]; omega
  have e9 : (n == 9) = false := by unfold okN at h; simp only [beq_eq_false_iff_ne, ne_eq]; omega
  have e10 : (n == 10) = false := by unfold okN at h; simp only [beq_eq_false_iff_ne, ne_eq]; omega
  have e11 : (n == 11) = false := by unfold okN at h; simp only [beq_eq_false_iff_ne, ne_eq]; omega
  have e12 : (n == 12) = false := by unfold okN at h; simp only [beq_eq_false_iff_ne, ne_eq]; omega
  clear h
  go_enter Tryz.func6, Tryz.ntmps6
  go_wp2
  exact bodyPost_ret (v := .tuple #[.agg #[.int .i64 0, .string ⟨#[]⟩, .int .i64 0, .int .i64 0, .int .i64 0, .int .i64 0, .int .i64 0, .int .i64 0, .int .i64 0, .bool false], .int .i64 1]) (by rw [results_cell_tmp rfl]; go_simp) rfl ⟨rfl, below2' _ _ _⟩
theorem rof_any (n : Int) (w : World) :
    Calls Tryz.prog 6 #[.int .i64 n] w fun e w' => e = .returned (.tuple #[.agg (infoV n), .int .i64 (infoE n)]) ∧ Below w.heap.size w w' := by
  by_cases h : okN n
  · rcases okN_cases h with rfl | rfl | rfl | rfl | rfl | rfl | rfl | rfl | rfl | rfl | rfl | rfl
    · exact rof_1 w
    · exact rof_2 w
    · exact rof_3 w
    · exact rof_4 w
    · exact rof_5 w
    · exact rof_6 w
    · exact rof_7 w
    · exact rof_8 w
    · exact rof_9 w
    · exact rof_10 w
    · exact rof_11 w
    · exact rof_12 w
  · unfold infoE; rw [if_neg h]; exact rof_none n w h
end Go.Proofs.YtgknbdehlmlipabGreatDoor

namespace Go.Proofs.YtgknbdehlmlipabGreatDoor
open Go.RowKit

def numN (n : Int) : Int := if okN n then n else 0
def baseN : Int → Int
  | 1 => 2
  | 2 => 2
  | 3 => 2
  | 4 => 2
  | 5 => 2
  | 6 => 2
  | 7 => 10
  | 8 => 10
  | 9 => 10
  | 10 => 10
  | 11 => 10
  | 12 => 10
  | _ => 0
def widthN : Int → Int
  | 1 => 16
  | 2 => 16
  | 3 => 32
  | 4 => 64
  | 5 => 128
  | 6 => 256
  | 7 => 32
  | 8 => 64
  | 9 => 128
  | 10 => 32
  | 11 => 64
  | 12 => 128
  | _ => 0
def precN : Int → Int
  | 1 => 11
  | 2 => 8
  | 3 => 24
  | 4 => 53
  | 5 => 113
  | 6 => 241
  | 7 => 7
  | 8 => 16
  | 9 => 34
  | 10 => 7
  | 11 => 16
  | 12 => 34
  | _ => 0
def expN : Int → Int
  | 1 => 5
  | 2 => 8
  | 3 => 8
  | 4 => 11
  | 5 => 15
  | 6 => 15
  | 7 => 96
  | 8 => 384
  | 9 => 6144
  | 10 => 96
  | 11 => 384
  | 12 => 6144
  | _ => 0
def leastN : Int → Int
  | 1 => -24
  | 2 => -133
  | 3 => -149
  | 4 => -1074
  | 5 => -16494
  | 6 => -16622
  | 7 => -101
  | 8 => -398
  | 9 => -6176
  | 10 => -101
  | 11 => -398
  | 12 => -6176
  | _ => 0
def mostN : Int → Int
  | 1 => 5
  | 2 => 120
  | 3 => 104
  | 4 => 971
  | 5 => 16271
  | 6 => 16143
  | 7 => 90
  | 8 => 369
  | 9 => 6111
  | 10 => 90
  | 11 => 369
  | 12 => 6111
  | _ => 0
def payN : Int → Int
  | 1 => 9
  | 2 => 6
  | 3 => 22
  | 4 => 51
  | 5 => 111
  | 6 => 239
  | 7 => 6
  | 8 => 15
  | 9 => 33
  | 10 => 6
  | 11 => 15
  | 12 => 33
  | _ => 0
def denseN (n : Int) : Bool := decide (10 ≤ n ∧ n ≤ 12)
def nameN : Int → ByteArray
  | 1 => ⟨#[72, 97, 108, 102]⟩
  | 2 => ⟨#[66, 114, 97, 105, 110]⟩
  | 3 => ⟨#[83, 105, 110, 103, 108, 101]⟩
  | 4 => ⟨#[68, 111, 117, 98, 108, 101]⟩
  | 5 => ⟨#[81, 117, 97, 100]⟩
  | 6 => ⟨#[79, 99, 116, 111]⟩
  | 7 => ⟨#[80, 108, 97, 105, 110, 51, 50]⟩
  | 8 => ⟨#[80, 108, 97, 105, 110, 54, 52]⟩
  | 9 => ⟨#[80, 108, 97, 105, 110, 49, 50, 56]⟩
  | 10 => ⟨#[68, 101, 110, 115, 101, 51, 50]⟩
  | 11 => ⟨#[68, 101, 110, 115, 101, 54, 52]⟩
  | 12 => ⟨#[68, 101, 110, 115, 101, 49, 50, 56]⟩
  | _ => ⟨#[]⟩
theorem fields_none {n : Int} (h : ¬ okN n) : numN n = 0 ∧ nameN n = ⟨#[]⟩ ∧ baseN n = 0 ∧ widthN n = 0 ∧ precN n = 0 ∧ expN n = 0 ∧ leastN n = 0 ∧ mostN n = 0 ∧ payN n = 0 ∧ denseN n = false := by
  refine ⟨if_neg h, ?_, ?_, ?_, ?_, ?_, ?_, ?_, ?_, ?_⟩
  · unfold nameN okN at *; split <;> first | rfl | omega
  · unfold baseN okN at *; split <;> first | rfl | omega
  · unfold widthN okN at *; split <;> first | rfl | omega
  · unfold precN okN at *; split <;> first | rfl | omega
  · unfold expN okN at *; split <;> first | rfl | omega
  · unfold leastN okN at *; split <;> first | rfl | omega
  · unfold mostN okN at *; split <;> first | rfl | omega
  · unfold payN okN at *; split <;> first | rfl | omega
  · unfold denseN okN at *; simp only [decide_eq_false_iff_not]; omega
theorem infoV_eq (n : Int) : infoV n = #[.int .i64 (numN n), .string (nameN n), .int .i64 (baseN n), .int .i64 (widthN n), .int .i64 (precN n), .int .i64 (expN n), .int .i64 (leastN n), .int .i64 (mostN n), .int .i64 (payN n), .bool (denseN n)] := by
  by_cases h : okN n
  · rcases okN_cases h with rfl | rfl | rfl | rfl | rfl | rfl | rfl | rfl | rfl | rfl | rfl | rfl <;> rfl
  · obtain ⟨h0, h1, h2, h3, h4, h5, h6, h7, h8, h9⟩ := fields_none h
    rw [infoV_none h, h0, h1, h2, h3, h4, h5, h6, h7, h8, h9]
/-- what is between what bounds -/
theorem fields_bounds (n : Int) : (0 ≤ baseN n ∧ baseN n ≤ 10) ∧ (0 ≤ widthN n ∧ widthN n ≤ 256) ∧ (0 ≤ precN n ∧ precN n ≤ 241) ∧ (-17000 ≤ leastN n ∧ leastN n ≤ 0) ∧ (0 ≤ mostN n ∧ mostN n ≤ 17000) := by
  by_cases h : okN n
  · rcases okN_cases h with rfl | rfl | rfl | rfl | rfl | rfl | rfl | rfl | rfl | rfl | rfl | rfl <;> decide
  · obtain ⟨h0, h1, h2, h3, h4, h5, h6, h7, h8, h9⟩ := fields_none h
    rw [h2, h3, h4, h6, h7]; decide
theorem ofv_any (n : Int) (w : World) (hT : Tab w) :
    Calls Tryz.prog 30 #[.int .i64 n] w fun e w' => e = .returned (.tuple #[.agg #[.int .i64 (numN n), .string (nameN n), .int .i64 (baseN n), .int .i64 (widthN n), .int .i64 (precN n), .int .i64 (expN n), .int .i64 (leastN n), .int .i64 (mostN n), .int .i64 (payN n), .bool (denseN n)], .int .i64 (infoE n)]) ∧ Below w.heap.size w w' :=
  infoV_eq n ▸ dof_any n w hT
theorem rofv_any (n : Int) (w : World) :
    Calls Tryz.prog 6 #[.int .i64 n] w fun e w' => e = .returned (.tuple #[.agg #[.int .i64 (numN n), .string (nameN n), .int .i64 (baseN n), .int .i64 (widthN n), .int .i64 (precN n), .int .i64 (expN n), .int .i64 (leastN n), .int .i64 (mostN n), .int .i64 (payN n), .bool (denseN n)], .int .i64 (infoE n)]) ∧ Below w.heap.size w w' :=
  infoV_eq n ▸ rof_any n w
set_option maxHeartbeats 400000 in
def holdsP (f g : Int) : Prop := okN f ∧ okN g ∧ baseN f = baseN g ∧ precN f ≤ precN g ∧ leastN g ≤ leastN f ∧ mostN f + precN f ≤ mostN g + precN g
instance (f g : Int) : Decidable (holdsP f g) := inferInstanceAs (Decidable (_ ∧ _))
end Go.Proofs.YtgknbdehlmlipabGreatDoor

namespace Go.Proofs.YtgknbdehlmlipabGreatDoor
open Go.RowKit

section
variable {P : Program} {ops : Array Oper} {Q : Exit → Act → World → Prop} {md : Region.Mode}
/-- this value -/
def isV (u : Value) : Value → World → Prop := fun v _ => v = u
theorem isV.stays (u : Value) : Stays (isV u) := fun v w w' h _ => h
end
end Go.Proofs.YtgknbdehlmlipabGreatDoor
