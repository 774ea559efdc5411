/-
  Texts that the proof leans on.
-/
import Derived.Test.YtehgnckgmdkfmaaDoorRows
import Derived.WalkKit
import Derived.WalkSpells
import Derived.WalkLawsBesides
import Derived.Below
import Derived.RegionTactic
import Derived.ChangeAlike
import Derived.Laws.ResultCell
import Derived.LaidLaws
import Derived.Lib.LaidTab
import Derived.Lib.SmallJoins
import Derived.ProofKit
import Derived.OpenShut
import Derived.Carry
import Derived.Deep.DeepHandedRow
set_option linter.unusedVariables false
set_option linter.unusedSimpArgs false
set_option linter.unusedSectionVars false
set_option maxRecDepth 20000
namespace Go.Proofs.YtehgnckgmdkfmaaDoor
open Go.RowKit
section
/-- the table's cells, as they are written down -/
def rowV : Nat → Nat → Value
  | 0, 0 => .string ⟨#[72, 97, 108, 102]⟩
  | 0, 1 => .int .i64 16
  | 0, 2 => .int .i64 11
  | 0, 3 => .int .i64 5
  | 1, 0 => .string ⟨#[66, 114, 97, 105, 110]⟩
  | 1, 1 => .int .i64 16
  | 1, 2 => .int .i64 8
  | 1, 3 => .int .i64 8
  | 2, 0 => .string ⟨#[83, 105, 110, 103, 108, 101]⟩
  | 2, 1 => .int .i64 32
  | 2, 2 => .int .i64 24
  | 2, 3 => .int .i64 8
  | 3, 0 => .string ⟨#[68, 111, 117, 98, 108, 101]⟩
  | 3, 1 => .int .i64 64
  | 3, 2 => .int .i64 53
  | 3, 3 => .int .i64 11
  | 4, 0 => .string ⟨#[81, 117, 97, 100]⟩
  | 4, 1 => .int .i64 128
  | 4, 2 => .int .i64 113
  | 4, 3 => .int .i64 15
  | 5, 0 => .string ⟨#[79, 99, 116, 111]⟩
  | 5, 1 => .int .i64 256
  | 5, 2 => .int .i64 241
  | 5, 3 => .int .i64 15
  | 6, 0 => .string ⟨#[80, 108, 97, 105, 110, 51, 50]⟩
  | 6, 1 => .int .i64 32
  | 6, 2 => .int .i64 7
  | 6, 3 => .int .i64 96
  | 7, 0 => .string ⟨#[80, 108, 97, 105, 110, 54, 52]⟩
  | 7, 1 => .int .i64 64
  | 7, 2 => .int .i64 16
  | 7, 3 => .int .i64 384
  | 8, 0 => .string ⟨#[80, 108, 97, 105, 110, 49, 50, 56]⟩
  | 8, 1 => .int .i64 128
  | 8, 2 => .int .i64 34
  | 8, 3 => .int .i64 6144
  | 9, 0 => .string ⟨#[68, 101, 110, 115, 101, 51, 50]⟩
  | 9, 1 => .int .i64 32
  | 9, 2 => .int .i64 7
  | 9, 3 => .int .i64 96
  | 10, 0 => .string ⟨#[68, 101, 110, 115, 101, 54, 52]⟩
  | 10, 1 => .int .i64 64
  | 10, 2 => .int .i64 16
  | 10, 3 => .int .i64 384
  | 11, 0 => .string ⟨#[68, 101, 110, 115, 101, 49, 50, 56]⟩
  | 11, 1 => .int .i64 128
  | 11, 2 => .int .i64 34
  | 11, 3 => .int .i64 6144
  | _, _ => .int .i64 0
/-- the formats' table lies in block 0 -/
def Tab (w : World) : Prop := 0 < w.heap.size ∧ ∀ i k, i < 12 → k < 4 → w.cell? ⟨0, i * 4 + k, none⟩ = some (rowV i k)
theorem Tab.next {B : Nat} {w w' : World} (h : Tab w) (hb : Below B w w') (hB : 0 < B) : Tab w' :=
  ⟨Nat.lt_of_lt_of_le h.1 hb.size, fun i k hi hk => (hb.cell (p := ⟨0, i * 4 + k, none⟩) hB).trans (h.2 i k hi hk)⟩
theorem Tab.go {w w' : World} (h : Tab w) (hb : Below w.heap.size w w') : Tab w' := h.next hb h.1
theorem Tab.drew {w : World} (h : Tab w) : Tab w.drew := h
theorem Tab.alloc {w : World} (h : Tab w) (o : Obj) : Tab (w.alloc o) := h.go ((Below.refl _ _).alloc (Nat.le_refl _) o)

/-- what Of tells -/
def infoV : Int → Array Value
  | 1 => #[.int .i64 1, .string ⟨#[72, 97, 108, 102]⟩, .int .i64 2, .int .i64 16, .int .i64 11, .int .i64 5, .int .i64 (-24), .int .i64 5, .int .i64 9, .bool false]
  | 2 => #[.int .i64 2, .string ⟨#[66, 114, 97, 105, 110]⟩, .int .i64 2, .int .i64 16, .int .i64 8, .int .i64 8, .int .i64 (-133), .int .i64 120, .int .i64 6, .bool false]
  | 3 => #[.int .i64 3, .string ⟨#[83, 105, 110, 103, 108, 101]⟩, .int .i64 2, .int .i64 32, .int .i64 24, .int .i64 8, .int .i64 (-149), .int .i64 104, .int .i64 22, .bool false]
  | 4 => #[.int .i64 4, .string ⟨#[68, 111, 117, 98, 108, 101]⟩, .int .i64 2, .int .i64 64, .int .i64 53, .int .i64 11, .int .i64 (-1074), .int .i64 971, .int .i64 51, .bool false]
  | 5 => #[.int .i64 5, .string ⟨#[81, 117, 97, 100]⟩, .int .i64 2, .int .i64 128, .int .i64 113, .int .i64 15, .int .i64 (-16494), .int .i64 16271, .int .i64 111, .bool false]
  | 6 => #[.int .i64 6, .string ⟨#[79, 99, 116, 111]⟩, .int .i64 2, .int .i64 256, .int .i64 241, .int .i64 15, .int .i64 (-16622), .int .i64 16143, .int .i64 239, .bool false]
  | 7 => #[.int .i64 7, .string ⟨#[80, 108, 97, 105, 110, 51, 50]⟩, .int .i64 10, .int .i64 32, .int .i64 7, .int .i64 96, .int .i64 (-101), .int .i64 90, .int .i64 6, .bool false]
  | 8 => #[.int .i64 8, .string ⟨#[80, 108, 97, 105, 110, 54, 52]⟩, .int .i64 10, .int .i64 64, .int .i64 16, .int .i64 384, .int .i64 (-398), .int .i64 369, .int .i64 15, .bool false]
  | 9 => #[.int .i64 9, .string ⟨#[80, 108, 97, 105, 110, 49, 50, 56]⟩, .int .i64 10, .int .i64 128, .int .i64 34, .int .i64 6144, .int .i64 (-6176), .int .i64 6111, .int .i64 33, .bool false]
  | 10 => #[.int .i64 10, .string ⟨#[68, 101, 110, 115, 101, 51, 50]⟩, .int .i64 10, .int .i64 32, .int .i64 7, .int .i64 96, .int .i64 (-101), .int .i64 90, .int .i64 6, .bool true]
  | 11 => #[.int .i64 11, .string ⟨#[68, 101, 110, 115, 101, 54, 52]⟩, .int .i64 10, .int .i64 64, .int .i64 16, .int .i64 384, .int .i64 (-398), .int .i64 369, .int .i64 15, .bool true]
  | 12 => #[.int .i64 12, .string ⟨#[68, 101, 110, 115, 101, 49, 50, 56]⟩, .int .i64 10, .int .i64 128, .int .i64 34, .int .i64 6144, .int .i64 (-6176), .int .i64 6111, .int .i64 33, .bool true]
  | _ => #[.int .i64 0, .string ⟨#[]⟩, .int .i64 0, .int .i64 0, .int .i64 0, .int .i64 0, .int .i64 0, .int .i64 0, .int .i64 0, .bool false]
def okN (n : Int) : Prop := 1 ≤ n ∧ n ≤ 12
instance (n : Int) : Decidable (okN n) := inferInstanceAs (Decidable (_ ∧ _))
def infoE (n : Int) : Int := if okN n then 0 else 1
theorem infoV_none {n : Int} (h : ¬ okN n) : infoV n = #[.int .i64 0, .string ⟨#[]⟩, .int .i64 0, .int .i64 0, .int .i64 0, .int .i64 0, .int .i64 0, .int .i64 0, .int .i64 0, .bool false] := by
  unfold infoV okN at *
  split <;> first | rfl | omega
theorem okN_cases {n : Int} (h : okN n) : n = 1 ∨ n = 2 ∨ n = 3 ∨ n = 4 ∨ n = 5 ∨ n = 6 ∨ n = 7 ∨ n = 8 ∨ n = 9 ∨ n = 10 ∨ n = 11 ∨ n = 12 := by unfold okN at h; omega

theorem below1' (w : World) (a : Obj) : Below w.heap.size w (w.alloc a) := (Below.refl _ _).alloc (Nat.le_refl _) a
theorem below2' (w : World) (a b : Obj) : Below w.heap.size w ((w.alloc a).alloc b) := (below1' w a).alloc (by simp) b
theorem below3' (w : World) (a b c : Obj) : Below w.heap.size w (((w.alloc a).alloc b).alloc c) := (below2' w a b).alloc (by simp; omega) c
set_option maxHeartbeats 400000 in
theorem of_1 (w : World) (hT : Tab w) :
    Calls Tryd.prog 49 #[.int .i64 1] w fun e w' => e = .returned (.tuple #[.agg (infoV 1), .int .i64 0]) ∧ Below w.heap.size w w' := by
  have hs := hT.1
  have h0 := hT.2 0 0 (by decide) (by decide)
  have h1 := hT.2 0 1 (by decide) (by decide)
  have h2 := hT.2 0 2 (by decide) (by decide)
  have h3 := hT.2 0 3 (by decide) (by decide)
  simp only [Nat.reduceMul, Nat.reduceAdd, rowV] at h0 h1 h2 h3
  show Calls Tryd.prog 49 #[.int .i64 1] w fun e w' => e = .returned (.tuple #[.agg #[.int .i64 1, .string ⟨#[72, 97, 108, 102]⟩, .int .i64 2, .int .i64 16, .int .i64 11, .int .i64 5, .int .i64 (-24), .int .i64 5, .int .i64 9, .bool false], .int .i64 0]) ∧ Below w.heap.size w w'
  clear hT
  go_enter Tryd.func49, Tryd.ntmps49
  go_wp2
  go_region
  go_wp2
  exact bodyPost_ret (v := .tuple #[.agg #[.int .i64 1, .string ⟨#[72, 97, 108, 102]⟩, .int .i64 2, .int .i64 16, .int .i64 11, .int .i64 5, .int .i64 (-24), .int .i64 5, .int .i64 9, .bool false], .int .i64 0]) (by rw [results_cell_tmp rfl]; go_simp) rfl ⟨rfl, (below3' _ _ _ _).drew⟩
set_option maxHeartbeats 400000 in
theorem of_2 (w : World) (hT : Tab w) :
    Calls Tryd.prog 49 #[.int .i64 2] w fun e w' => e = .returned (.tuple #[.agg (infoV 2), .int .i64 0]) ∧ Below w.heap.size w w' := by
  have hs := hT.1
  have h0 := hT.2 1 0 (by decide) (by decide)
  have h1 := hT.2 1 1 (by decide) (by decide)
  have h2 := hT.2 1 2 (by decide) (by decide)
  have h3 := hT.2 1 3 (by decide) (by decide)
  simp only [Nat.reduceMul, Nat.reduceAdd, rowV] at h0 h1 h2 h3
  show Calls Tryd.prog 49 #[.int .i64 2] w fun e w' => e = .returned (.tuple #[.agg #[.int .i64 2, .string ⟨#[66, 114, 97, 105, 110]⟩, .int .i64 2, .int .i64 16, .int .i64 8, .int .i64 8, .int .i64 (-133), .int .i64 120, .int .i64 6, .bool false], .int .i64 0]) ∧ Below w.heap.size w w'
  clear hT
  go_enter Tryd.func49, Tryd.ntmps49
  go_wp2
  go_region
  go_wp2
  exact bodyPost_ret (v := .tuple #[.agg #[.int .i64 2, .string ⟨#[66, 114, 97, 105, 110]⟩, .int .i64 2, .int .i64 16, .int .i64 8, .int .i64 8, .int .i64 (-133), .int .i64 120, .int .i64 6, .bool false], .int .i64 0]) (by rw [results_cell_tmp rfl]; go_simp) rfl ⟨rfl, (below3' _ _ _ _).drew⟩
set_option maxHeartbeats 400000 in
theorem of_3 (w : World) (hT : Tab w) :
    Calls Tryd.prog 49 #[.int .i64 3] w fun e w' => e = .returned (.tuple #[.agg (infoV 3), .int .i64 0]) ∧ Below w.heap.size w w' := by
  have hs := hT.1
  have h0 := hT.2 2 0 (by decide) (by decide)
  have h1 := hT.2 2 1 (by decide) (by decide)
  have h2 := hT.2 2 2 (by decide) (by decide)
  have h3 := hT.2 2 3 (by decide) (by decide)
  simp only [Nat.reduceMul, Nat.reduceAdd, rowV] at h0 h1 h2 h3
  show Calls Tryd.prog 49 #[.int .i64 3] w fun e w' => e = .returned (.tuple #[.agg #[.int .i64 3, .string ⟨#[83, 105, 110, 103, 108, 101]⟩, .int .i64 2, .int .i64 32, .int .i64 24, .int .i64 8, .int .i64 (-149), .int .i64 104, .int .i64 22, .bool false], .int .i64 0]) ∧ Below w.heap.size w w'
  clear hT
  go_enter Tryd.func49, Tryd.ntmps49
  go_wp2
  go_region
  go_wp2
  exact bodyPost_ret (v := .tuple #[.agg #[.int .i64 3, .string ⟨#[83, 105, 110, 103, 108, 101]⟩, .int .i64 2, .int .i64 32, .int .i64 24, .int .i64 8, .int .i64 (-149), .int .i64 104, .int .i64 22, .bool false], .int .i64 0]) (by rw [results_cell_tmp rfl]; go_simp) rfl ⟨rfl, (below3' _ _ _ _).drew⟩
set_option maxHeartbeats 400000 in
theorem of_4 (w : World) (hT : Tab w) :
    Calls Tryd.prog 49 #[.int .i64 4] w fun e w' => e = .returned (.tuple #[.agg (infoV 4), .int .i64 0]) ∧ Below w.heap.size w w' := by
  have hs := hT.1
  have h0 := hT.2 3 0 (by decide) (by decide)
  have h1 := hT.2 3 1 (by decide) (by decide)
  have h2 := hT.2 3 2 (by decide) (by decide)
  have h3 := hT.2 3 3 (by decide) (by decide)
  simp only [Nat.reduceMul, Nat.reduceAdd, rowV] at h0 h1 h2 h3
  show Calls Tryd.prog 49 #[.int .i64 4] w fun e w' => e = .returned (.tuple #[.agg #[.int .i64 4, .string ⟨#[68, 111, 117, 98, 108, 101]⟩, .int .i64 2, .int .i64 64, .int .i64 53, .int .i64 11, .int .i64 (-1074), .int .i64 971, .int .i64 51, .bool false], .int .i64 0]) ∧ Below w.heap.size w w'
  clear hT
  go_enter Tryd.func49, Tryd.ntmps49
  go_wp2
  go_region
  go_wp2
  exact bodyPost_ret (v := .tuple #[.agg #[.int .i64 4, .string ⟨#[68, 111, 117, 98, 108, 101]⟩, .int .i64 2, .int .i64 64, .int .i64 53, .int .i64 11, .int .i64 (-1074), .int .i64 971, .int .i64 51, .bool false], .int .i64 0]) (by rw [results_cell_tmp rfl]; go_simp) rfl ⟨rfl, (below3' _ _ _ _).drew⟩
set_option maxHeartbeats 400000 in
theorem of_5 (w : World) (hT : Tab w) :
    Calls Tryd.prog 49 #[.int .i64 5] w fun e w' => e = .returned (.tuple #[.agg (infoV 5), .int .i64 0]) ∧ Below w.heap.size w w' := by
  have hs := hT.1
  have h0 := hT.2 4 0 (by decide) (by decide)
  have h1 := hT.2 4 1 (by decide) (by decide)
  have h2 := hT.2 4 2 (by decide) (by decide)
  have h3 := hT.2 4 3 (by decide) (by decide)
  simp only [Nat.reduceMul, Nat.reduceAdd, rowV] at h0 h1 h2 h3
  show Calls Tryd.prog 49 #[.int .i64 5] w fun e w' => e = .returned (.tuple #[.agg #[.int .i64 5, .string ⟨#[81, 117, 97, 100]⟩, .int .i64 2, .int .i64 128, .int .i64 113, .int .i64 15, .int .i64 (-16494), .int .i64 16271, .int .i64 111, .bool false], .int .i64 0]) ∧ Below w.heap.size w w'
  clear hT
  go_enter Tryd.func49, Tryd.ntmps49
  go_wp2
  go_region
  go_wp2
  exact bodyPost_ret (v := .tuple #[.agg #[.int .i64 5, .string ⟨#[81, 117, 97, 100]⟩, .int .i64 2, .int .i64 128, .int .i64 113, .int .i64 15, .int .i64 (-16494), .int .i64 16271, .int .i64 111, .bool false], .int .i64 0]) (by rw [results_cell_tmp rfl]; go_simp) rfl ⟨rfl, (below3' _ _ _ _).drew⟩
set_option maxHeartbeats 400000 in
theorem of_6 (w : World) (hT : Tab w) :
    Calls Tryd.prog 49 #[.int .i64 6] w fun e w' => e = .returned (.tuple #[.agg (infoV 6), .int .i64 0]) ∧ Below w.heap.size w w' := by
  have hs := hT.1
  have h0 := hT.2 5 0 (by decide) (by decide)
  have h1 := hT.2 5 1 (by decide) (by decide)
  have h2 := hT.2 5 2 (by decide) (by decide)
  have h3 := hT.2 5 3 (by decide) (by decide)
  simp only [Nat.reduceMul, Nat.reduceAdd, rowV] at h0 h1 h2 h3
  show Calls Tryd.prog 49 #[.int .i64 6] w fun e w' => e = .returned (.tuple #[.agg #[.int .i64 6, .string ⟨#[79, 99, 116, 111]⟩, .int .i64 2, .int .i64 256, .int .i64 241, .int .i64 15, .int .i64 (-16622), .int .i64 16143, .int .i64 239, .bool false], .int .i64 0]) ∧ Below w.heap.size w w'
  clear hT
  go_enter Tryd.func49, Tryd.ntmps49
  go_wp2
  go_region
  go_wp2
  exact bodyPost_ret (v := .tuple #[.agg #[.int .i64 6, .string ⟨#[79, 99, 116, 111]⟩, .int .i64 2, .int .i64 256, .int .i64 241, .int .i64 15, .int .i64 (-16622), .int .i64 16143, .int .i64 239, .bool false], .int .i64 0]) (by rw [results_cell_tmp rfl]; go_simp) rfl ⟨rfl, (below3' _ _ _ _).drew⟩
set_option maxHeartbeats 400000 in
theorem of_7 (w : World) (hT : Tab w) :
    Calls Tryd.prog 49 #[.int .i64 7] w fun e w' => e = .returned (.tuple #[.agg (infoV 7), .int .i64 0]) ∧ Below w.heap.size w w' := by
  have hs := hT.1
  have h0 := hT.2 6 0 (by decide) (by decide)
  have h1 := hT.2 6 1 (by decide) (by decide)
  have h2 := hT.2 6 2 (by decide) (by decide)
  have h3 := hT.2 6 3 (by decide) (by decide)
  simp only [Nat.reduceMul, Nat.reduceAdd, rowV] at h0 h1 h2 h3
  show Calls Tryd.prog 49 #[.int .i64 7] w fun e w' => e = .returned (.tuple #[.agg #[.int .i64 7, .string ⟨#[80, 108, 97, 105, 110, 51, 50]⟩, .int .i64 10, .int .i64 32, .int .i64 7, .int .i64 96, .int .i64 (-101), .int .i64 90, .int .i64 6, .bool false], .int .i64 0]) ∧ Below w.heap.size w w'
  clear hT
  go_enter Tryd.func49, Tryd.ntmps49
  go_wp2
  go_region
  go_wp2
  exact bodyPost_ret (v := .tuple #[.agg #[.int .i64 7, .string ⟨#[80, 108, 97, 105, 110, 51, 50]⟩, .int .i64 10, .int .i64 32, .int .i64 7, .int .i64 96, .int .i64 (-101), .int .i64 90, .int .i64 6, .bool false], .int .i64 0]) (by rw [results_cell_tmp rfl]; go_simp) rfl ⟨rfl, (below3' _ _ _ _).drew⟩
set_option maxHeartbeats 400000 in
theorem of_8 (w : World) (hT : Tab w) :
    Calls Tryd.prog 49 #[.int .i64 8] w fun e w' => e = .returned (.tuple #[.agg (infoV 8), .int .i64 0]) ∧ Below w.heap.size w w' := by
  have hs := hT.1
  have h0 := hT.2 7 0 (by decide) (by decide)
  have h1 := hT.2 7 1 (by decide) (by decide)
  have h2 := hT.2 7 2 (by decide) (by decide)
  have h3 := hT.2 7 3 (by decide) (by decide)
  simp only [Nat.reduceMul, Nat.reduceAdd, rowV] at h0 h1 h2 h3
  show Calls Tryd.prog 49 #[.int .i64 8] w fun e w' => e = .returned (.tuple #[.agg #[.int .i64 8, .string ⟨#[80, 108, 97, 105, 110, 54, 52]⟩, .int .i64 10, .int .i64 64, .int .i64 16, .int .i64 384, .int .i64 (-398), .int .i64 369, .int .i64 15, .bool false], .int .i64 0]) ∧ Below w.heap.size w w'
  clear hT
  go_enter Tryd.func49, Tryd.ntmps49
  go_wp2
  go_region
  go_wp2
  exact bodyPost_ret (v := .tuple #[.agg #[.int .i64 8, .string ⟨#[80, 108, 97, 105, 110, 54, 52]⟩, .int .i64 10, .int .i64 64, .int .i64 16, .int .i64 384, .int .i64 (-398), .int .i64 369, .int .i64 15, .bool false], .int .i64 0]) (by rw [results_cell_tmp rfl]; go_simp) rfl ⟨rfl, (below3' _ _ _ _).drew⟩
set_option maxHeartbeats 400000 in
theorem of_9 (w : World) (hT : Tab w) :
    Calls Tryd.prog 49 #[.int .i64 9] w fun e w' => e = .returned (.tuple #[.agg (infoV 9), .int .i64 0]) ∧ Below w.heap.size w w' := by
  have hs := hT.1
  have h0 := hT.2 8 0 (by decide) (by decide)
  have h1 := hT.2 8 1 (by decide) (by decide)
  have h2 := hT.2 8 2 (by decide) (by decide)
  have h3 := hT.2 8 3 (by decide) (by decide)
  simp only [Nat.reduceMul, Nat.reduceAdd, rowV] at h0 h1 h2 h3
  show Calls Tryd.prog 49 #[.int .i64 9] w fun e w' => e = .returned (.tuple #[.agg #[.int .i64 9, .string ⟨#[80, 108, 97, 105, 110, 49, 50, 56]⟩, .int .i64 10, .int .i64 128, .int .i64 34, .int .i64 6144, .int .i64 (-6176), .int .i64 6111, .int .i64 33, .bool false], .int .i64 0]) ∧ Below w.heap.size w w'
  clear hT
  go_enter Tryd.func49, Tryd.ntmps49
  go_wp2
  go_region
  go_wp2
  exact bodyPost_ret (v := .tuple #[.agg #[.int .i64 9, .string ⟨#[80, 108, 97, 105, 110, 49, 50, 56]⟩, .int .i64 10, .int .i64 128, .int .i64 34, .int .i64 6144, .int .i64 (-6176), .int .i64 6111, .int .i64 33, .bool false], .int .i64 0]) (by rw [results_cell_tmp rfl]; go_simp) rfl ⟨rfl, (below3' _ _ _ _).drew⟩
set_option maxHeartbeats 400000 in
theorem of_10 (w : World) (hT : Tab w) :
    Calls Tryd.prog 49 #[.int .i64 10] w fun e w' => e = .returned (.tuple #[.agg (infoV 10), .int .i64 0]) ∧ Below w.heap.size w w' := by
  have hs := hT.1
  have h0 := hT.2 9 0 (by decide) (by decide)
  have h1 := hT.2 9 1 (by decide) (by decide)
  have h2 := hT.2 9 2 (by decide) (by decide)
  have h3 := hT.2 9 3 (by decide) (by decide)
  simp only [Nat.reduceMul, Nat.reduceAdd, rowV] at h0 h1 h2 h3
  show Calls Tryd.prog 49 #[.int .i64 10] w fun e w' => e = .returned (.tuple #[.agg #[.int .i64 10, .string ⟨#[68, 101, 110, 115, 101, 51, 50]⟩, .int .i64 10, .int .i64 32, .int .i64 7, .int .i64 96, .int .i64 (-101), .int .i64 90, .int .i64 6, .bool true], .int .i64 0]) ∧ Below w.heap.size w w'
  clear hT
  go_enter Tryd.func49, Tryd.ntmps49
  go_wp2
  go_region
  go_wp2
  exact bodyPost_ret (v := .tuple #[.agg #[.int .i64 10, .string ⟨#[68, 101, 110, 115, 101, 51, 50]⟩, .int .i64 10, .int .i64 32, .int .i64 7, .int .i64 96, .int .i64 (-101), .int .i64 90, .int .i64 6, .bool true], .int .i64 0]) (by rw [results_cell_tmp rfl]; go_simp) rfl ⟨rfl, (below3' _ _ _ _).drew⟩
set_option maxHeartbeats 400000 in
theorem of_11 (w : World) (hT : Tab w) :
    Calls Tryd.prog 49 #[.int .i64 11] w fun e w' => e = .returned (.tuple #[.agg (infoV 11), .int .i64 0]) ∧ Below w.heap.size w w' := by
  have hs := hT.1
  have h0 := hT.2 10 0 (by decide) (by decide)
  have h1 := hT.2 10 1 (by decide) (by decide)
  have h2 := hT.2 10 2 (by decide) (by decide)
  have h3 := hT.2 10 3 (by decide) (by decide)
  simp only [Nat.reduceMul, Nat.reduceAdd, rowV] at h0 h1 h2 h3
  show Calls Tryd.prog 49 #[.int .i64 11] w fun e w' => e = .returned (.tuple #[.agg #[.int .i64 11, .string ⟨#[68, 101, 110, 115, 101, 54, 52]⟩, .int .i64 10, .int .i64 64, .int .i64 16, .int .i64 384, .int .i64 (-398), .int .i64 369, .int .i64 15, .bool true], .int .i64 0]) ∧ Below w.heap.size w w'
  clear hT
  go_enter Tryd.func49, Tryd.ntmps49
  go_wp2
  go_region
  go_wp2
  exact bodyPost_ret (v := .tuple #[.agg #[.int .i64 11, .string ⟨#[68, 101, 110, 115, 101, 54, 52]⟩, .int .i64 10, .int .i64 64, .int .i64 16, .int .i64 384, .int .i64 (-398), .int .i64 369, .int .i64 15, .bool true], .int .i64 0]) (by rw [results_cell_tmp rfl]; go_simp) rfl ⟨rfl, (below3' _ _ _ _).drew⟩
set_option maxHeartbeats 400000 in
theorem of_12 (w : World) (hT : Tab w) :
    Calls Tryd.prog 49 #[.int .i64 12] w fun e w' => e = .returned (.tuple #[.agg (infoV 12), .int .i64 0]) ∧ Below w.heap.size w w' := by
  have hs := hT.1
  have h0 := hT.2 11 0 (by decide) (by decide)
  have h1 := hT.2 11 1 (by decide) (by decide)
  have h2 := hT.2 11 2 (by decide) (by decide)
  have h3 := hT.2 11 3 (by decide) (by decide)
  simp only [Nat.reduceMul, Nat.reduceAdd, rowV] at h0 h1 h2 h3
  show Calls Tryd.prog 49 #[.int .i64 12] w fun e w' => e = .returned (.tuple #[.agg #[.int .i64 12, .string ⟨#[68, 101, 110, 115, 101, 49, 50, 56]⟩, .int .i64 10, .int .i64 128, .int .i64 34, .int .i64 6144, .int .i64 (-6176), .int .i64 6111, .int .i64 33, .bool true], .int .i64 0]) ∧ Below w.heap.size w w'
  clear hT
  go_enter Tryd.func49, Tryd.ntmps49
  go_wp2
  go_region
  go_wp2
  exact bodyPost_ret (v := .tuple #[.agg #[.int .i64 12, .string ⟨#[68, 101, 110, 115, 101, 49, 50, 56]⟩, .int .i64 10, .int .i64 128, .int .i64 34, .int .i64 6144, .int .i64 (-6176), .int .i64 6111, .int .i64 33, .bool true], .int .i64 0]) (by rw [results_cell_tmp rfl]; go_simp) rfl ⟨rfl, (below3' _ _ _ _).drew⟩
set_option maxHeartbeats 400000 in
theorem of_none (n : Int) (w : World) (h : ¬ okN n) :
    Calls Tryd.prog 49 #[.int .i64 n] w fun e w' => e = .returned (.tuple #[.agg (infoV n), .int .i64 1]) ∧ Below w.heap.size w w' := by
  rw [infoV_none h]
  have key : n < 1 ∨ (1 ≤ n ∧ 12 < n) := by unfold okN at h; omega
  clear h
  rcases key with k1 | ⟨k1, k2⟩
  all_goals
    go_enter Tryd.func49, Tryd.ntmps49
    go_wp2
    exact bodyPost_ret (v := .tuple #[.agg #[.int .i64 0, .string ⟨#[]⟩, .int .i64 0, .int .i64 0, .int .i64 0, .int .i64 0, .int .i64 0, .int .i64 0, .int .i64 0, .bool false], .int .i64 1]) (by rw [results_cell_tmp rfl]; go_simp) rfl ⟨rfl, below1' _ _⟩
theorem dof_any (n : Int) (w : World) (hT : Tab w) :
    Calls Tryd.prog 49 #[.int .i64 n] w fun e w' => e = .returned (.tuple #[.agg (infoV n), .int .i64 (infoE n)]) ∧ Below w.heap.size w w' := by
  by_cases h : okN n
  · rcases okN_cases h with rfl | rfl | rfl | rfl | rfl | rfl | rfl | rfl | rfl | rfl | rfl | rfl
    · exact of_1 w hT
    · exact of_2 w hT
    · exact of_3 w hT
    · exact of_4 w hT
    · exact of_5 w hT
    · exact of_6 w hT
    · exact of_7 w hT
    · exact of_8 w hT
    · exact of_9 w hT
    · exact of_10 w hT
    · exact of_11 w hT
    · exact of_12 w hT
  · unfold infoE; rw [if_neg h]; exact of_none n w h
end
section
set_option maxHeartbeats 400000 in
theorem rof_1 (w : World) :
    Calls Tryd.prog 24 #[.int .i64 1] w fun e w' => e = .returned (.tuple #[.agg (infoV 1), .int .i64 0]) ∧ Below w.heap.size w w' := by
  show Calls Tryd.prog 24 #[.int .i64 1] w fun e w' => e = .returned (.tuple #[.agg #[.int .i64 1, .string ⟨#[72, 97, 108, 102]⟩, .int .i64 2, .int .i64 16, .int .i64 11, .int .i64 5, .int .i64 (-24), .int .i64 5, .int .i64 9, .bool false], .int .i64 0]) ∧ Below w.heap.size w w'
  go_enter Tryd.func24, Tryd.ntmps24
  go_wp2
  exact bodyPost_ret (v := .tuple #[.agg #[.int .i64 1, .string ⟨#[72, 97, 108, 102]⟩, .int .i64 2, .int .i64 16, .int .i64 11, .int .i64 5, .int .i64 (-24), .int .i64 5, .int .i64 9, .bool false], .int .i64 0]) (by rw [results_cell_tmp rfl]; go_simp) rfl ⟨rfl, below2' _ _ _⟩
set_option maxHeartbeats 400000 in
theorem rof_2 (w : World) :
    Calls Tryd.prog 24 #[.int .i64 2] w fun e w' => e = .returned (.tuple #[.agg (infoV 2), .int .i64 0]) ∧ Below w.heap.size w w' := by
  show Calls Tryd.prog 24 #[.int .i64 2] w fun e w' => e = .returned (.tuple #[.agg #[.int .i64 2, .string ⟨#[66, 114, 97, 105, 110]⟩, .int .i64 2, .int .i64 16, .int .i64 8, .int .i64 8, .int .i64 (-133), .int .i64 120, .int .i64 6, .bool false], .int .i64 0]) ∧ Below w.heap.size w w'
  go_enter Tryd.func24, Tryd.ntmps24
  go_wp2
  exact bodyPost_ret (v := .tuple #[.agg #[.int .i64 2, .string ⟨#[66, 114, 97, 105, 110]⟩, .int .i64 2, .int .i64 16, .int .i64 8, .int .i64 8, .int .i64 (-133), .int .i64 120, .int .i64 6, .bool false], .int .i64 0]) (by rw [results_cell_tmp rfl]; go_simp) rfl ⟨rfl, below2' _ _ _⟩
set_option maxHeartbeats 400000 in
theorem rof_3 (w : World) :
    Calls Tryd.prog 24 #[.int .i64 3] w fun e w' => e = .returned (.tuple #[.agg (infoV 3), .int .i64 0]) ∧ Below w.heap.size w w' := by
  show Calls Tryd.prog 24 #[.int .i64 3] w fun e w' => e = .returned (.tuple #[.agg #[.int .i64 3, .string ⟨#[83, 105, 110, 103, 108, 101]⟩, .int .i64 2, .int .i64 32, .int .i64 24, .int .i64 8, .int .i64 (-149), .int .i64 104, .int .i64 22, .bool false], .int .i64 0]) ∧ Below w.heap.size w w'
  go_enter Tryd.func24, Tryd.ntmps24
  go_wp2
  exact bodyPost_ret (v := .tuple #[.agg #[.int .i64 3, .string ⟨#[83, 105, 110, 103, 108, 101]⟩, .int .i64 2, .int .i64 32, .int .i64 24, .int .i64 8, .int .i64 (-149), .int .i64 104, .int .i64 22, .bool false], .int .i64 0]) (by rw [results_cell_tmp rfl]; go_simp) rfl ⟨rfl, below2' _ _ _⟩
set_option maxHeartbeats 400000 in
theorem rof_4 (w : World) :
    Calls Tryd.prog 24 #[.int .i64 4] w fun e w' => e = .returned (.tuple #[.agg (infoV 4), .int .i64 0]) ∧ Below w.heap.size w w' := by
  show Calls Tryd.prog 24 #[.int .i64 4] w fun e w' => e = .returned (.tuple #[.agg #[.int .i64 4, .string ⟨#[68, 111, 117, 98, 108, 101]⟩, .int .i64 2, .int .i64 64, .int .i64 53, .int .i64 11, .int .i64 (-1074), .int .i64 971, .int .i64 51, .bool false], .int .i64 0]) ∧ Below w.heap.size w w'
  go_enter Tryd.func24, Tryd.ntmps24
  go_wp2
  exact bodyPost_ret (v := .tuple #[.agg #[.int .i64 4, .string ⟨#[68, 111, 117, 98, 108, 101]⟩, .int .i64 2, .int .i64 64, .int .i64 53, .int .i64 11, .int .i64 (-1074), .int .i64 971, .int .i64 51, .bool false], .int .i64 0]) (by rw [results_cell_tmp rfl]; go_simp) rfl ⟨rfl, below2' _ _ _⟩
set_option maxHeartbeats 400000 in
theorem rof_5 (w : World) :
    Calls Tryd.prog 24 #[.int .i64 5] w fun e w' => e = .returned (.tuple #[.agg (infoV 5), .int .i64 0]) ∧ Below w.heap.size w w' := by
  show Calls Tryd.prog 24 #[.int .i64 5] w fun e w' => e = .returned (.tuple #[.agg #[.int .i64 5, .string ⟨#[81, 117, 97, 100]⟩, .int .i64 2, .int .i64 128, .int .i64 113, .int .i64 15, .int .i64 (-16494), .int .i64 16271, .int .i64 111, .bool false], .int .i64 0]) ∧ Below w.heap.size w w'
  go_enter Tryd.func24, Tryd.ntmps24
  go_wp2
  exact bodyPost_ret (v := .tuple #[.agg #[.int .i64 5, .string ⟨#[81, 117, 97, 100]⟩, .int .i64 2, .int .i64 128, .int .i64 113, .int .i64 15, .int .i64 (-16494), .int .i64 16271, .int .i64 111, .bool false], .int .i64 0]) (by rw [results_cell_tmp rfl]; go_simp) rfl ⟨rfl, below2' _ _ _⟩
set_option maxHeartbeats 400000 in
theorem rof_6 (w : World) :
    Calls Tryd.prog 24 #[.int .i64 6] w fun e w' => e = .returned (.tuple #[.agg (infoV 6), .int .i64 0]) ∧ Below w.heap.size w w' := by
  show Calls Tryd.prog 24 #[.int .i64 6] w fun e w' => e = .returned (.tuple #[.agg #[.int .i64 6, .string ⟨#[79, 99, 116, 111]⟩, .int .i64 2, .int .i64 256, .int .i64 241, .int .i64 15, .int .i64 (-16622), .int .i64 16143, .int .i64 239, .bool false], .int .i64 0]) ∧ Below w.heap.size w w'
  go_enter Tryd.func24, Tryd.ntmps24
  go_wp2
  exact bodyPost_ret (v := .tuple #[.agg #[.int .i64 6, .string ⟨#[79, 99, 116, 111]⟩, .int .i64 2, .int .i64 256, .int .i64 241, .int .i64 15, .int .i64 (-16622), .int .i64 16143, .int .i64 239, .bool false], .int .i64 0]) (by rw [results_cell_tmp rfl]; go_simp) rfl ⟨rfl, below2' _ _ _⟩
set_option maxHeartbeats 400000 in
theorem rof_7 (w : World) :
    Calls Tryd.prog 24 #[.int .i64 7] w fun e w' => e = .returned (.tuple #[.agg (infoV 7), .int .i64 0]) ∧ Below w.heap.size w w' := by
  show Calls Tryd.prog 24 #[.int .i64 7] w fun e w' => e = .returned (.tuple #[.agg #[.int .i64 7, .string ⟨#[80, 108, 97, 105, 110, 51, 50]⟩, .int .i64 10, .int .i64 32, .int .i64 7, .int .i64 96, .int .i64 (-101), .int .i64 90, .int .i64 6, .bool false], .int .i64 0]) ∧ Below w.heap.size w w'
  go_enter Tryd.func24, Tryd.ntmps24
  go_wp2
  exact bodyPost_ret (v := .tuple #[.agg #[.int .i64 7, .string ⟨#[80, 108, 97, 105, 110, 51, 50]⟩, .int .i64 10, .int .i64 32, .int .i64 7, .int .i64 96, .int .i64 (-101), .int .i64 90, .int .i64 6, .bool false], .int .i64 0]) (by rw [results_cell_tmp rfl]; go_simp; rfl) rfl ⟨rfl, below2' _ _ _⟩
set_option maxHeartbeats 400000 in
theorem rof_8 (w : World) :
    Calls Tryd.prog 24 #[.int .i64 8] w fun e w' => e = .returned (.tuple #[.agg (infoV 8), .int .i64 0]) ∧ Below w.heap.size w w' := by
  show Calls Tryd.prog 24 #[.int .i64 8] w fun e w' => e = .returned (.tuple #[.agg #[.int .i64 8, .string ⟨#[80, 108, 97, 105, 110, 54, 52]⟩, .int .i64 10, .int .i64 64, .int .i64 16, .int .i64 384, .int .i64 (-398), .int .i64 369, .int .i64 15, .bool false], .int .i64 0]) ∧ Below w.heap.size w w'
  go_enter Tryd.func24, Tryd.ntmps24
  go_wp2
  exact bodyPost_ret (v := .tuple #[.agg #[.int .i64 8, .string ⟨#[80, 108, 97, 105, 110, 54, 52]⟩, .int .i64 10, .int .i64 64, .int .i64 16, .int .i64 384, .int .i64 (-398), .int .i64 369, .int .i64 15, .bool false], .int .i64 0]) (by rw [results_cell_tmp rfl]; go_simp; rfl) rfl ⟨rfl, below2' _ _ _⟩
set_option maxHeartbeats 400000 in
theorem rof_9 (w : World) :
    Calls Tryd.prog 24 #[.int .i64 9] w fun e w' => e = .returned (.tuple #[.agg (infoV 9), .int .i64 0]) ∧ Below w.heap.size w w' := by
  show Calls Tryd.prog 24 #[.int .i64 9] w fun e w' => e = .returned (.tuple #[.agg #[.int .i64 9, .string ⟨#[80, 108, 97, 105, 110, 49, 50, 56]⟩, .int .i64 10, .int .i64 128, .int .i64 34, .int .i64 6144, .int .i64 (-6176), .int .i64 6111, .int .i64 33, .bool false], .int .i64 0]) ∧ Below w.heap.size w w'
  go_enter Tryd.func24, Tryd.ntmps24
  go_wp2
  exact bodyPost_ret (v := .tuple #[.agg #[.int .i64 9, .string ⟨#[80, 108, 97, 105, 110, 49, 50, 56]⟩, .int .i64 10, .int .i64 128, .int .i64 34, .int .i64 6144, .int .i64 (-6176), .int .i64 6111, .int .i64 33, .bool false], .int .i64 0]) (by rw [results_cell_tmp rfl]; go_simp; rfl) rfl ⟨rfl, below2' _ _ _⟩
set_option maxHeartbeats 400000 in
theorem rof_10 (w : World) :
    Calls Tryd.prog 24 #[.int .i64 10] w fun e w' => e = .returned (.tuple #[.agg (infoV 10), .int .i64 0]) ∧ Below w.heap.size w w' := by
  show Calls Tryd.prog 24 #[.int .i64 10] w fun e w' => e = .returned (.tuple #[.agg #[.int .i64 10, .string ⟨#[68, 101, 110, 115, 101, 51, 50]⟩, .int .i64 10, .int .i64 32, .int .i64 7, .int .i64 96, .int .i64 (-101), .int .i64 90, .int .i64 6, .bool true], .int .i64 0]) ∧ Below w.heap.size w w'
  go_enter Tryd.func24, Tryd.ntmps24
  go_wp2
  exact bodyPost_ret (v := .tuple #[.agg #[.int .i64 10, .string ⟨#[68, 101, 110, 115, 101, 51, 50]⟩, .int .i64 10, .int .i64 32, .int .i64 7, .int .i64 96, .int .i64 (-101), .int .i64 90, .int .i64 6, .bool true], .int .i64 0]) (by rw [results_cell_tmp rfl]; go_simp; rfl) rfl ⟨rfl, below2' _ _ _⟩
set_option maxHeartbeats 400000 in
theorem rof_11 (w : World) :
    Calls Tryd.prog 24 #[.int .i64 11] w fun e w' => e = .returned (.tuple #[.agg (infoV 11), .int .i64 0]) ∧ Below w.heap.size w w' := by
  show Calls Tryd.prog 24 #[.int .i64 11] w fun e w' => e = .returned (.tuple #[.agg #[.int .i64 11, .string ⟨#[68, 101, 110, 115, 101, 54, 52]⟩, .int .i64 10, .int .i64 64, .int .i64 16, .int .i64 384, .int .i64 (-398), .int .i64 369, .int .i64 15, .bool true], .int .i64 0]) ∧ Below w.heap.size w w'
  go_enter Tryd.func24, Tryd.ntmps24
  go_wp2
  exact bodyPost_ret (v := .tuple #[.agg #[.int .i64 11, .string ⟨#[68, 101, 110, 115, 101, 54, 52]⟩, .int .i64 10, .int .i64 64, .int .i64 16, .int .i64 384, .int .i64 (-398), .int .i64 369, .int .i64 15, .bool true], .int .i64 0]) (by rw [results_cell_tmp rfl]; go_simp; rfl) rfl ⟨rfl, below2' _ _ _⟩
set_option maxHeartbeats 400000 in
theorem rof_12 (w : World) :
    Calls Tryd.prog 24 #[.int .i64 12] w fun e w' => e = .returned (.tuple #[.agg (infoV 12), .int .i64 0]) ∧ Below w.heap.size w w' := by
  show Calls Tryd.prog 24 #[.int .i64 12] w fun e w' => e = .returned (.tuple #[.agg #[.int .i64 12, .string ⟨#[68, 101, 110, 115, 101, 49, 50, 56]⟩, .int .i64 10, .int .i64 128, .int .i64 34, .int .i64 6144, .int .i64 (-6176), .int .i64 6111, .int .i64 33, .bool true], .int .i64 0]) ∧ Below w.heap.size w w'
  go_enter Tryd.func24, Tryd.ntmps24
  go_wp2
  exact bodyPost_ret (v := .tuple #[.agg #[.int .i64 12, .string ⟨#[68, 101, 110, 115, 101, 49, 50, 56]⟩, .int .i64 10, .int .i64 128, .int .i64 34, .int .i64 6144, .int .i64 (-6176), .int .i64 6111, .int .i64 33, .bool true], .int .i64 0]) (by rw [results_cell_tmp rfl]; go_simp; rfl) rfl ⟨rfl, below2' _ _ _⟩
set_option maxHeartbeats 400000 in
theorem rof_none (n : Int) (w : World) (h : ¬ okN n) :
    Calls Tryd.prog 24 #[.int .i64 n] w fun e w' => e = .returned (.tuple #[.agg (infoV n), .int .i64 1]) ∧ Below w.heap.size w w' := by
  rw [infoV_none h]
  have e1 : (n == 1) = false := by unfold okN at h; simp only [beq_eq_false_iff_ne, ne_eq]; omega
  have e2 : (n == 2) = false := by unfold okN at h; simp only [beq_eq_false_iff_ne, ne_eq]; omega
  have e3 : (n == 3) = false := by unfold okN at h; simp only [beq_eq_false_iff_ne, ne_eq]; omega
  have e4 : (n == 4) = false := by unfold okN at h; simp only [beq_eq_false_iff_ne, ne_eq]; omega
  have e5 : (n == 5) = false := by unfold okN at h; simp only [beq_eq_false_iff_ne, ne_eq]; omega
  have e6 : (n == 6) = false := by unfold okN at h; simp only [beq_eq_false_iff_ne, ne_eq]; omega
  have e7 : (n == 7) = false := by unfold okN at h; simp only [beq_eq_false_iff_ne, ne_eq]; omega
  have e8 : (n == 8) = false := by unfold okN at h; simp only [beq_eq_false_iff_ne, ne_eq]; omega
  have e9 : (n == 9) = false := by unfold okN at h; simp only [beq_eq_false_iff_ne, ne_eq]; omega
  have e10 : (n == 10) = false := by unfold okN at h; simp only [beq_eq_false_iff_ne, ne_eq]; omega
  have e11 : (n == 11) = false := by unfold okN at h; simp only [beq_eq_false_iff_ne, ne_eq]; omega
  have e12 : (n == 12) = false := by unfold okN at h; simp only [beq_eq_false_iff_ne, ne_eq]; omega
  clear h
  go_enter Tryd.func24, Tryd.ntmps24
  go_wp2
  exact bodyPost_ret (v := .tuple #[.agg #[.int .i64 0, .string ⟨#[]⟩, .int .i64 0, .int .i64 0, .int .i64 0, .int .i64 0, .int .i64 0, .int .i64 0, .int .i64 0, .bool false], .int .i64 1]) (by rw [results_cell_tmp rfl]; go_simp) rfl ⟨rfl, below2' _ _ _⟩
theorem rof_any (n : Int) (w : World) :
    Calls Tryd.prog 24 #[.int .i64 n] w fun e w' => e = .returned (.tuple #[.agg (infoV n), .int .i64 (infoE n)]) ∧ Below w.heap.size w w' := by
  by_cases h : okN n
  · rcases okN_cases h with rfl | rfl | rfl | rfl | rfl | rfl | rfl | rfl | rfl | rfl | rfl | rfl
    · exact rof_1 w
    · exact rof_2 w
    · exact rof_3 w
    · exact rof_4 w
    · exact rof_5 w
    · exact rof_6 w
    · exact rof_7 w
    · exact rof_8 w
    · exact rof_9 w
    · exact rof_10 w
    · exact rof_11 w
    · exact rof_12 w
  · unfold infoE; rw [if_neg h]; exact rof_none n w h
end
section
section
variable {H : Type} {enc : TypeId × Value → H} {W : World} {base : Nat} {sp : Nat → Bool} {held : Bool}
theorem u59 : ∃ a b c d, Tryd.prog.underlying 101 = some (.struct #[a, b, c, d]) ∧ a.offset = 0 ∧ b.offset = 1 ∧ c.offset = 2 ∧ d.offset = 3 ∧ a.type = 9 ∧ b.type = 3 ∧ c.type = 3 ∧ d.type = 3 :=
  ⟨_, _, _, _, Tryd.underlying101, rfl, rfl, rfl, rfl, rfl, rfl, rfl, rfl⟩
theorem c9 : Tryd.prog.cellsOf 9 = 1 := by kernel_rfl
theorem c3 : Tryd.prog.cellsOf 3 = 1 := by kernel_rfl
theorem c59 : Tryd.prog.cellsOf 101 = 4 := by kernel_rfl
theorem c60 : Tryd.prog.cellsOf 102 = 48 := by kernel_rfl
theorem u60 : Tryd.prog.underlying 102 = some (.array 12 101) := by kernel_rfl
theorem row_cells {fuel : Nat} {cs : List Value} {nm : List UInt8} {a b c : Int} {p : DataW H × List MemPlace} (hp : p.1 = .agg [.lit (.string nm), .lit (.int .i64 a), .lit (.int .i64 b), .lit (.int .i64 c)])
    (h : DataW.trod enc Tryd.prog W base sp held fuel 101 cs = some p) : cs = [.string ⟨nm.toArray⟩, .int .i64 a, .int .i64 b, .int .i64 c] := by
  obtain ⟨f0, f1, f2, f3, hu, o0, o1, o2, o3, t0, t1, t2, t3⟩ := u59
  obtain ⟨y0, y1, y2, y3, n, rfl, hl, h0, h1, h2, h3⟩ := Joins.trod_struct4 hu h
  rw [o0, t0, c9] at h0
  rw [o1, t1, c3] at h1
  rw [o2, t2, c3] at h2
  rw [o3, t3, c3] at h3
  obtain ⟨s, hs, rfl, _⟩ := DataW.trod_string Tryd.underlying9 h0
  obtain ⟨z1, hz1, rfl, _⟩ := DataW.trod_int Tryd.underlying3 h1
  obtain ⟨z2, hz2, rfl, _⟩ := DataW.trod_int Tryd.underlying3 h2
  obtain ⟨z3, hz3, rfl, _⟩ := DataW.trod_int Tryd.underlying3 h3
  simp only [DataW.agg.injEq, List.cons.injEq, DataW.lit.injEq, Lit.string.injEq, Lit.int.injEq, true_and, and_true] at hp
  obtain ⟨rfl, rfl, rfl, rfl⟩ := hp
  rw [c59] at hl
  match cs, hl with
  | [v0, v1, v2, v3], _ =>
    simp at hs hz1 hz2 hz3
    subst hs hz1 hz2 hz3
    rfl
theorem row_at {cs : List Value} {i : Nat} {v0 v1 v2 v3 : Value} (h : (cs.drop (i * 4)).take 4 = [v0, v1, v2, v3]) : cs[i * 4]? = some v0 ∧ cs[i * 4 + 1]? = some v1 ∧ cs[i * 4 + 2]? = some v2 ∧ cs[i * 4 + 3]? = some v3 := by
  have g : ∀ k, k < 4 → cs[i * 4 + k]? = [v0, v1, v2, v3][k]? := fun k hk => by
    rw [← h, List.getElem?_take_of_lt hk, List.getElem?_drop]
  exact ⟨g 0 (by decide), g 1 (by decide), g 2 (by decide), g 3 (by decide)⟩
theorem tab_of_trod {fuel : Nat} {cs : List Value} {p : List MemPlace} (h : DataW.trod enc Tryd.prog W base sp held fuel 102 cs = some (Rows.laid_caliper_desc_rows, p)) :
    ∀ i k, i < 12 → k < 4 → cs[i * 4 + k]? = some (rowV i k) := by
  cases fuel with
  | zero => simp [DataW.trod] at h
  | succ fuel =>
    simp only [DataW.trod, u60, c59, c60] at h
    split at h
    · rename_i hl
      obtain ⟨xs, hm, hx⟩ := Option.map_eq_some_iff.1 h
      have hxs := congrArg Prod.fst hx
      simp only [Rows.laid_caliper_desc_rows, DataW.agg.injEq] at hxs
      intro i k hi hk
      obtain ⟨b, hb, hf⟩ := Lib.mapM_at hm i i (by simp [hi])
      have hd : (xs.map (·.1))[i]? = some b.1 := by simp [hb]
      rw [hxs] at hd
      have key : ∀ (nm : List UInt8) (x y z : Int), b.1 = .agg [.lit (.string nm), .lit (.int .i64 x), .lit (.int .i64 y), .lit (.int .i64 z)] → cs[i * 4]? = some (.string ⟨nm.toArray⟩) ∧ cs[i * 4 + 1]? = some (.int .i64 x) ∧ cs[i * 4 + 2]? = some (.int .i64 y) ∧ cs[i * 4 + 3]? = some (.int .i64 z) :=
        fun nm x y z e => row_at (row_cells e hf)
      have hk' : k = 0 ∨ k = 1 ∨ k = 2 ∨ k = 3 := by omega
      have hi' : i = 0 ∨ i = 1 ∨ i = 2 ∨ i = 3 ∨ i = 4 ∨ i = 5 ∨ i = 6 ∨ i = 7 ∨ i = 8 ∨ i = 9 ∨ i = 10 ∨ i = 11 := by omega
      rcases hi' with rfl | rfl | rfl | rfl | rfl | rfl | rfl | rfl | rfl | rfl | rfl | rfl
      all_goals
        obtain ⟨q0, q1, q2, q3⟩ := key _ _ _ _ (Option.some.inj hd).symm
        rcases hk' with rfl | rfl | rfl | rfl
        · exact q0
        · exact q1
        · exact q2
        · exact q3
    · cases h
end
theorem tab_of_laid {W : World} {rest : List (String × DataW Unit)} (h : laidMet Tryd.prog (("caliper/desc.rows", Rows.laid_caliper_desc_rows) :: rest) W) : Tab W := by
  obtain ⟨ps, ⟨g', t', cs, fuel, p, q, hg', ht', hvar, hd, _, _⟩, _⟩ := h
  have hg : Tryd.prog.globalNamed "caliper/desc.rows" = some 0 := by kernel_rfl
  have hty : (Tryd.prog.globals[0]?).map (·.type) = some 102 := by kernel_rfl
  obtain rfl := Option.some.inj (hg.symm.trans hg')
  obtain rfl := Option.some.inj (hty.symm.trans ht')
  have hc := tab_of_trod hd
  have hcell : ∀ i k, i < 12 → k < 4 → W.cell? ⟨0, i * 4 + k, none⟩ = some (rowV i k) := fun i k hi hk => by
    have := World.var?_cell hg hvar (i * 4 + k)
    rw [this, ← hc i k hi hk]
    simp
  refine ⟨?_, hcell⟩
  have h0 := hcell 0 0 (by decide) (by decide)
  by_cases hz : 0 < W.heap.size
  · exact hz
  · have : W.heap[0]? = none := Array.getElem?_eq_none (by omega)
    simp [World.cell?, this] at h0
end
end Go.Proofs.YtehgnckgmdkfmaaDoor

namespace Go.Proofs.YtehgnckgmdkfmaaDoor
open Go.ChangeShapes Go.WideShapes Go.ChangeAt Go.RowKit

theorem Tryd.own : ownKnob Tryd.prog.godebug = none := by kernel_rfl
theorem Tryd.laidOut : laidOutB Tryd.prog = true := by kernel_rfl
def tabCells : Array Value := ((List.range 12).flatMap fun i => (List.range 4).map fun k => rowV i k).toArray
def layCells (c : Array Value) : Obj → Obj
  | .cells _ t frozen => .cells c t frozen
  | o => o
noncomputable def laidWorld (os : Os) : World :=
  { World.holding Tryd.prog os ⟨#[], #[], []⟩ with heap := (World.holding Tryd.prog os ⟨#[], #[], []⟩).heap.modify 0 (layCells tabCells) }
end Go.Proofs.YtehgnckgmdkfmaaDoor
