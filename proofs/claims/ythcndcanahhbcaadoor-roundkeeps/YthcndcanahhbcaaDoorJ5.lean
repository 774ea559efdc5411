/-
  Texts that the proof leans on, joined: Fmt, Rof, Hld, Lai, Lift.
-/
import Derived.Test.YthcndcanahhbcaaDoorRows
import Derived.WalkKit
import Derived.WalkSpells
import Derived.WalkLawsBesides
import Derived.Below
import Derived.RegionTactic
import Derived.ChangeAlike
import Derived.Laws.ResultCell
import Derived.LaidLaws
import Derived.Lib.LaidTab
import Derived.Lib.SmallJoins
import Derived.ProofKit
import Derived.OpenShut
import Derived.Carry
import Derived.Deep.DeepHandedRow
/-
  What the formats' table holds, and what Of tells: contracts.
-/
set_option linter.unusedVariables false
set_option linter.unusedSimpArgs false
set_option maxRecDepth 20000
set_option linter.unusedSectionVars false
namespace Go.Proofs.YthcndcanahhbcaaDoor
open Go.RowKit

/-- the table's cells, as they are written down -/
def rowV : Nat → Nat → Value
  | 0, 0 => .string ⟨#[72, 97, 108, 102]⟩
  | 0, 1 => .int .i64 16
  | 0, 2 => .int .i64 11
  | 0, 3 => .int .i64 5
  | 1, 0 => .string ⟨#[66, 114, 97, 105, 110]⟩
  | 1, 1 => .int .i64 16
  | 1, 2 => .int .i64 8
  | 1, 3 => .int .i64 8
  | 2, 0 => .string ⟨#[83, 105, 110, 103, 108, 101]⟩
  | 2, 1 => .int .i64 32
  | 2, 2 => .int .i64 24
  | 2, 3 => .int .i64 8
  | 3, 0 => .string ⟨#[68, 111, 117, 98, 108, 101]⟩
  | 3, 1 => .int .i64 64
  | 3, 2 => .int .i64 53
  | 3, 3 => .int .i64 11
  | 4, 0 => .string ⟨#[81, 117, 97, 100]⟩
  | 4, 1 => .int .i64 128
  | 4, 2 => .int .i64 113
  | 4, 3 => .int .i64 15
  | 5, 0 => .string ⟨#[79, 99, 116, 111]⟩
  | 5, 1 => .int .i64 256
  | 5, 2 => .int .i64 241
  | 5, 3 => .int .i64 15
  | 6, 0 => .string ⟨#[80, 108, 97, 105, 110, 51, 50]⟩
  | 6, 1 => .int .i64 32
  | 6, 2 => .int .i64 7
  | 6, 3 => .int .i64 96
  | 7, 0 => .string ⟨#[80, 108, 97, 105, 110, 54, 52]⟩
  | 7, 1 => .int .i64 64
  | 7, 2 => .int .i64 16
  | 7, 3 => .int .i64 384
  | 8, 0 => .string ⟨#[80, 108, 97, 105, 110, 49, 50, 56]⟩
  | 8, 1 => .int .i64 128
  | 8, 2 => .int .i64 34
  | 8, 3 => .int .i64 6144
  | 9, 0 => .string ⟨#[68, 101, 110, 115, 101, 51, 50]⟩
  | 9, 1 => .int .i64 32
  | 9, 2 => .int .i64 7
  | 9, 3 => .int .i64 96
  | 10, 0 => .string ⟨#[68, 101, 110, 115, 101, 54, 52]⟩
  | 10, 1 => .int .i64 64
  | 10, 2 => .int .i64 16
  | 10, 3 => .int .i64 384
  | 11, 0 => .string ⟨#[68, 101, 110, 115, 101, 49, 50, 56]⟩
  | 11, 1 => .int .i64 128
  | 11, 2 => .int .i64 34
  | 11, 3 => .int .i64 6144
  | _, _ => .int .i64 0
/-- the formats' table lies in block 0 -/
def Tab (w : World) : Prop := 0 < w.heap.size ∧ ∀ i k, i < 12 → k < 4 → w.cell? ⟨0, i * 4 + k, none⟩ = some (rowV i k)
theorem Tab.next {B : Nat} {w w' : World} (h : Tab w) (hb : Below B w w') (hB : 0 < B) : Tab w' :=
  ⟨Nat.lt_of_lt_of_le h.1 hb.size, fun i k hi hk => (hb.cell (p := ⟨0, i * 4 + k, none⟩) hB).trans (h.2 i k hi hk)⟩
theorem Tab.go {w w' : World} (h : Tab w) (hb : Below w.heap.size w w') : Tab w' := h.next hb h.1
theorem Tab.drew {w : World} (h : Tab w) : Tab w.drew := h
theorem Tab.alloc {w : World} (h : Tab w) (o : Obj) : Tab (w.alloc o) := h.go ((Below.refl _ _).alloc (Nat.le_refl _) o)

/-- what Of tells -/
def infoV : Int → Array Value
  | 1 => #[.int .i64 1, .string ⟨#[72, 97, 108, 102]⟩, .int .i64 2, .int .i64 16, .int .i64 11, .int .i64 5, .int .i64 (-24), .int .i64 5, .int .i64 9, .bool false]
  | 2 => #[.int .i64 2, .string ⟨#[66, 114, 97, 105, 110]⟩, .int .i64 2, .int .i64 16, .int .i64 8, .int .i64 8, .int .i64 (-133), .int .i64 120, .int .i64 6, .bool false]
  | 3 => #[.int .i64 3, .string ⟨#[83, 105, 110, 103, 108, 101]⟩, .int .i64 2, .int .i64 32, .int .i64 24, .int .i64 8, .int .i64 (-149), .int .i64 104, .int .i64 22, .bool false]
  | 4 => #[.int .i64 4, .string ⟨#[68, 111, 117, 98, 108, 101]⟩, .int .i64 2, .int .i64 64, .int .i64 53, .int .i64 11, .int .i64 (-1074), .int .i64 971, .int .i64 51, .bool false]
  | 5 => #[.int .i64 5, .string ⟨#[81, 117, 97, 100]⟩, .int .i64 2, .int .i64 128, .int .i64 113, .int .i64 15, .int .i64 (-16494), .int .i64 16271, .int .i64 111, .bool false]
  | 6 => #[.int .i64 6, .string ⟨#[79, 99, 116, 111]⟩, .int .i64 2, .int .i64 256, .int .i64 241, .int .i64 15, .int .i64 (-16622), .int .i64 16143, .int .i64 239, .bool false]
  | 7 => #[.int .i64 7, .string ⟨#[80, 108, 97, 105, 110, 51, 50]⟩, .int .i64 10, .int .i64 32, .int .i64 7, .int .i64 96, .int .i64 (-101), .int .i64 90, .int .i64 6, .bool false]
  | 8 => #[.int .i64 8, .string ⟨#[80, 108, 97, 105, 110, 54, 52]⟩, .int .i64 10, .int .i64 64, .int .i64 16, .int .i64 384, .int .i64 (-398), .int .i64 369, .int .i64 15, .bool false]
  | 9 => #[.int .i64 9, .string ⟨#[80, 108, 97, 105, 110, 49, 50, 56]⟩, .int .i64 10, .int .i64 128, .int .i64 34, .int .i64 6144, .int .i64 (-6176), .int .i64 6111, .int .i64 33, .bool false]
  | 10 => #[.int .i64 10, .string ⟨#[68, 101, 110, 115, 101, 51, 50]⟩, .int .i64 10, .int .i64 32, .int .i64 7, .int .i64 96, .int .i64 (-101), .int .i64 90, .int .i64 6, .bool true]
  | 11 => #[.int .i64 11, .string ⟨#[68, 101, 110, 115, 101, 54, 52]⟩, .int .i64 10, .int .i64 64, .int .i64 16, .int .i64 384, .int .i64 (-398), .int .i64 369, .int .i64 15, .bool true]
  | 12 => #[.int .i64 12, .string ⟨#[68, 101, 110, 115, 101, 49, 50, 56]⟩, .int .i64 10, .int .i64 128, .int .i64 34, .int .i64 6144, .int .i64 (-6176), .int .i64 6111, .int .i64 33, .bool true]
  | _ => #[.int .i64 0, .string ⟨#[]⟩, .int .i64 0, .int .i64 0, .int .i64 0, .int .i64 0, .int .i64 0, .int .i64 0, .int .i64 0, .bool false]
def okN (n : Int) : Prop := 1 ≤ n ∧ n ≤ 12
instance (n : Int) : Decidable (okN n) := inferInstanceAs (Decidable (_ ∧ _))
def infoE (n : Int) : Int := if okN n then 0 else 1
theorem infoV_none {n : Int} (h : ¬ okN n) : infoV n = #[.int .i64 0, .string ⟨#[]⟩, .int .i64 0, .int .i64 0, .int .i64 0, .int .i64 0, .int .i64 0, .int .i64 0, .int .i64 0, .bool false] := by
  unfold infoV okN at *
  split <;> first | rfl | omega
theorem okN_cases {n : Int} (h : okN n) : n = 1 ∨ n = 2 ∨ n = 3 ∨ n = 4 ∨ n = 5 ∨ n = 6 ∨ n = 7 ∨ n = 8 ∨ n = 9 ∨ n = 10 ∨ n = 11 ∨ n = 12 := by unfold okN at h; omega

theorem below1' (w : World) (a : Obj) : Below w.heap.size w (w.alloc a) := (Below.refl _ _).alloc (Nat.le_refl _) a
theorem below2' (w : World) (a b : Obj) : Below w.heap.size w ((w.alloc a).alloc b) := (below1' w a).alloc (by simp) b
theorem below3' (w : World) (a b c : Obj) : Below w.heap.size w (((w.alloc a).alloc b).alloc c) := (below2' w a b).alloc (by simp; omega) c
set_option maxHeartbeats 400000 in
theorem of_1 (w : World) (hT : Tab w) :
    Calls Tryd.prog 52 #[.int .i64 1] w fun e w' => e = .returned (.tuple #[.agg (infoV 1), .int .i64 0]) ∧ Below w.heap.size w w' := by
  have hs := hT.1
  have h0 := hT.2 0 0 (by decide) (by decide)
  have h1 := hT.2 0 1 (by decide) (by decide)
  have h2 := hT.2 0 2 (by decide) (by decide)
  have h3 := hT.2 0 3 (by decide) (by decide)
  simp only [Nat.reduceMul, Nat.reduceAdd, rowV] at h0 h1 h2 h3
  show Calls Tryd.prog 52 #[.int .i64 1] w fun e w' => e = .returned (.tuple #[.agg #[.int .i64 1, .string ⟨#[72, 97, 108, 102]⟩, .int .i64 2, .int .i64 16, .int .i64 11, .int .i64 5, .int .i64 (-24), .int .i64 5, .int .i64 9, .bool false], .int .i64 0]) ∧ Below w.heap.size w w'
  clear hT
  go_enter Tryd.func52, Tryd.ntmps52
  go_wp2
  go_region
  go_wp2
  exact bodyPost_ret (v := .tuple #[.agg #[.int .i64 1, .string ⟨#[72, 97, 108, 102]⟩, .int .i64 2, .int .i64 16, .int .i64 11, .int .i64 5, .int .i64 (-24), .int .i64 5, .int .i64 9, .bool false], .int .i64 0]) (by rw [results_cell_tmp rfl]; go_simp) rfl ⟨rfl, (below3' _ _ _ _).drew⟩
set_option maxHeartbeats 400000 in
theorem of_2 (w : World) (hT : Tab w) :
    Calls Tryd.prog 52 #[.int .i64 2] w fun e w' => e = .returned (.tuple #[.agg (infoV 2), .int .i64 0]) ∧ Below w.heap.size w w' := by
  have hs := hT.1
  have h0 := hT.2 1 0 (by decide) (by decide)
  have h1 := hT.2 1 1 (by decide) (by decide)
  have h2 := hT.2 1 2 (by decide) (by decide)
  have h3 := hT.2 1 3 (by decide) (by decide)
  simp only [Nat.reduceMul, Nat.reduceAdd, rowV] at h0 h1 h2 h3
  show Calls Tryd.prog 52 #[.int .i64 2] w fun e w' => e = .returned (.tuple #[.agg #[.int .i64 2, .string ⟨#[66, 114, 97, 105, 110]⟩, .int .i64 2, .int .i64 16, .int .i64 8, .int .i64 8, .int .i64 (-133), .int .i64 120, .int .i64 6, .bool false], .int .i64 0]) ∧ Below w.heap.size w w'
  clear hT
  go_enter Tryd.func52, Tryd.ntmps52
  go_wp2
  go_region
  go_wp2
  exact bodyPost_ret (v := .tuple #[.agg #[.int .i64 2, .string ⟨#[66, 114, 97, 105, 110]⟩, .int .i64 2, .int .i64 16, .int .i64 8, .int .i64 8, .int .i64 (-133), .int .i64 120, .int .i64 6, .bool false], .int .i64 0]) (by rw [results_cell_tmp rfl]; go_simp) rfl ⟨rfl, (below3' _ _ _ _).drew⟩
set_option maxHeartbeats 400000 in
theorem of_3 (w : World) (hT : Tab w) :
    Calls Tryd.prog 52 #[.int .i64 3] w fun e w' => e = .returned (.tuple #[.agg (infoV 3), .int .i64 0]) ∧ Below w.heap.size w w' := by
  have hs := hT.1
  have h0 := hT.2 2 0 (by decide) (by decide)
  have h1 := hT.2 2 1 (by decide) (by decide)
  have h2 := hT.2 2 2 (by decide) (by decide)
  have h3 := hT.2 2 3 (by decide) (by decide)
  simp only [Nat.reduceMul, Nat.reduceAdd, rowV] at h0 h1 h2 h3
  show Calls Tryd.prog 52 #[.int .i64 3] w fun e w' => e = .returned (.tuple #[.agg #[.int .i64 3, .string ⟨#[83, 105, 110, 103, 108, 101]⟩, .int .i64 2, .int .i64 32, .int .i64 24, .int .i64 8, .int .i64 (-149), .int .i64 104, .int .i64 22, .bool false], .int .i64 0]) ∧ Below w.heap.size w w'
  clear hT
  go_enter Tryd.func52, Tryd.ntmps52
  go_wp2
  go_region
  go_wp2
  exact bodyPost_ret (v := .tuple #[.agg #[.int .i64 3, .string ⟨#[83, 105, 110, 103, 108, 101]⟩, .int .i64 2, .int .i64 32, .int .i64 24, .int .i64 8, .int .i64 (-149), .int .i64 104, .int .i64 22, .bool false], .int .i64 0]) (by rw [results_cell_tmp rfl]; go_simp) rfl ⟨rfl, (below3' _ _ _ _).drew⟩
set_option maxHeartbeats 400000 in
theorem of_4 (w : World) (hT : Tab w) :
    Calls Tryd.prog 52 #[.int .i64 4] w fun e w' => e = .returned (.tuple #[.agg (infoV 4), .int .i64 0]) ∧ Below w.heap.size w w' := by
  have hs := hT.1
  have h0 := hT.2 3 0 (by decide) (by decide)
  have h1 := hT.2 3 1 (by decide) (by decide)
  have h2 := hT.2 3 2 (by decide) (by decide)
  have h3 := hT.2 3 3 (by decide) (by decide)
  simp only [Nat.reduceMul, Nat.reduceAdd, rowV] at h0 h1 h2 h3
  show Calls Tryd.prog 52 #[.int .i64 4] w fun e w' => e = .returned (.tuple #[.agg #[.int .i64 4, .string ⟨#[68, 111, 117, 98, 108, 101]⟩, .int .i64 2, .int .i64 64, .int .i64 53, .int .i64 11, .int .i64 (-1074), .int .i64 971, .int .i64 51, .bool false], .int .i64 0]) ∧ Below w.heap.size w w'
  clear hT
  go_enter Tryd.func52, Tryd.ntmps52
  go_wp2
  go_region
  go_wp2
  exact bodyPost_ret (v := .tuple #[.agg #[.int .i64 4, .string ⟨#[68, 111, 117, 98, 108, 101]⟩, .int .i64 2, .int .i64 64, .int .i64 53, .int .i64 11, .int .i64 (-1074), .int .i64 971, .int .i64 51, .bool false], .int .i64 0]) (by rw [results_cell_tmp rfl]; go_simp) rfl ⟨rfl, (below3' _ _ _ _).drew⟩
set_option maxHeartbeats 400000 in
theorem of_5 (w : World) (hT : Tab w) :
    Calls Tryd.prog 52 #[.int .i64 5] w fun e w' => e = .returned (.tuple #[.agg (infoV 5), .int .i64 0]) ∧ Below w.heap.size w w' := by
  have hs := hT.1
  have h0 := hT.2 4 0 (by decide) (by decide)
  have h1 := hT.2 4 1 (by decide) (by decide)
  have h2 := hT.2 4 2 (by decide) (by decide)
  have h3 := hT.2 4 3 (by decide) (by decide)
  simp only [Nat.reduceMul, Nat.reduceAdd, rowV] at h0 h1 h2 h3
  show Calls Tryd.prog 52 #[.int .i64 5] w fun e w' => e = .returned (.tuple #[.agg #[.int .i64 5, .string ⟨#[81, 117, 97, 100]⟩, .int .i64 2, .int .i64 128, .int .i64 113, .int .i64 15, .int .i64 (-16494), .int .i64 16271, .int .i64 111, .bool false], .int .i64 0]) ∧ Below w.heap.size w w'
  clear hT
  go_enter Tryd.func52, Tryd.ntmps52
  go_wp2
  go_region
  go_wp2
  exact bodyPost_ret (v := .tuple #[.agg #[.int .i64 5, .string ⟨#[81, 117, 97, 100]⟩, .int .i64 2, .int .i64 128, .int .i64 113, .int .i64 15, .int .i64 (-16494), .int .i64 16271, .int .i64 111, .bool false], .int .i64 0]) (by rw [results_cell_tmp rfl]; go_simp) rfl ⟨rfl, (below3' _ _ _ _).drew⟩
set_option maxHeartbeats 400000 in
theorem of_6 (w : World) (hT : Tab w) :
    Calls Tryd.prog 52 #[.int .i64 6] w fun e w' => e = .returned (.tuple #[.agg (infoV 6), .int .i64 0]) ∧ Below w.heap.size w w' := by
  have hs := hT.1
  have h0 := hT.2 5 0 (by decide) (by decide)
  have h1 := hT.2 5 1 (by decide) (by decide)
  have h2 := hT.2 5 2 (by decide) (by decide)
  have h3 := hT.2 5 3 (by decide) (by decide)
  simp only [Nat.reduceMul, Nat.reduceAdd, rowV] at h0 h1 h2 h3
  show Calls Tryd.prog 52 #[.int .i64 6] w fun e w' => e = .returned (.tuple #[.agg #[.int .i64 6, .string ⟨#[79, 99, 116, 111]⟩, .int .i64 2, .int .i64 256, .int .i64 241, .int .i64 15, .int .i64 (-16622), .int .i64 16143, .int .i64 239, .bool false], .int .i64 0]) ∧ Below w.heap.size w w'
  clear hT
  go_enter Tryd.func52, Tryd.ntmps52
  go_wp2
  go_region
  go_wp2
  exact bodyPost_ret (v := .tuple #[.agg #[.int .i64 6, .string ⟨#[79, 99, 116, 111]⟩, .int .i64 2, .int .i64 256, .int .i64 241, .int .i64 15, .int .i64 (-16622), .int .i64 16143, .int .i64 239, .bool false], .int .i64 0]) (by rw [results_cell_tmp rfl]; go_simp) rfl ⟨rfl, (below3' _ _ _ _).drew⟩
set_option maxHeartbeats 400000 in
theorem of_7 (w : World) (hT : Tab w) :
    Calls Tryd.prog 52 #[.int .i64 7] w fun e w' => e = .returned (.tuple #[.agg (infoV 7), .int .i64 0]) ∧ Below w.heap.size w w' := by
  have hs := hT.1
  have h0 := hT.2 6 0 (by decide) (by decide)
  have h1 := hT.2 6 1 (by decide) (by decide)
  have h2 := hT.2 6 2 (by decide) (by decide)
  have h3 := hT.2 6 3 (by decide) (by decide)
  simp only [Nat.reduceMul, Nat.reduceAdd, rowV] at h0 h1 h2 h3
  show Calls Tryd.prog 52 #[.int .i64 7] w fun e w' => e = .returned (.tuple #[.agg #[.int .i64 7, .string ⟨#[80, 108, 97, 105, 110, 51, 50]⟩, .int .i64 10, .int .i64 32, .int .i64 7, .int .i64 96, .int .i64 (-101), .int .i64 90, .int .i64 6, .bool false], .int .i64 0]) ∧ Below w.heap.size w w'
  clear hT
  go_enter Tryd.func52, Tryd.ntmps52
  go_wp2
  go_region
  go_wp2
  exact bodyPost_ret (v := .tuple #[.agg #[.int .i64 7, .string ⟨#[80, 108, 97, 105, 110, 51, 50]⟩, .int .i64 10, .int .i64 32, .int .i64 7, .int .i64 96, .int .i64 (-101), .int .i64 90, .int .i64 6, .bool false], .int .i64 0]) (by rw [results_cell_tmp rfl]; go_simp) rfl ⟨rfl, (below3' _ _ _ _).drew⟩
set_option maxHeartbeats 400000 in
theorem of_8 (w : World) (hT : Tab w) :
    Calls Tryd.prog 52 #[.int .i64 8] w fun e w' => e = .returned (.tuple #[.agg (infoV 8), .int .i64 0]) ∧ Below w.heap.size w w' := by
  have hs := hT.1
  have h0 := hT.2 7 0 (by decide) (by decide)
  have h1 := hT.2 7 1 (by decide) (by decide)
  have h2 := hT.2 7 2 (by decide) (by decide)
  have h3 := hT.2 7 3 (by decide) (by decide)
  simp only [Nat.reduceMul, Nat.reduceAdd, rowV] at h0 h1 h2 h3
  show Calls Tryd.prog 52 #[.int .i64 8] w fun e w' => e = .returned (.tuple #[.agg #[.int .i64 8, .string ⟨#[80, 108, 97, 105, 110, 54, 52]⟩, .int .i64 10, .int .i64 64, .int .i64 16, .int .i64 384, .int .i64 (-398), .int .i64 369, .int .i64 15, .bool false], .int .i64 0]) ∧ Below w.heap.size w w'
  clear hT
  go_enter Tryd.func52, Tryd.ntmps52
  go_wp2
  go_region
  go_wp2
  exact bodyPost_ret (v := .tuple #[.agg #[.int .i64 8, .string ⟨#[80, 108, 97, 105, 110, 54, 52]⟩, .int .i64 10, .int .i64 64, .int .i64 16, .int .i64 384, .int .i64 (-398), .int .i64 369, .int .i64 15, .bool false], .int .i64 0]) (by rw [results_cell_tmp rfl]; go_simp) rfl ⟨rfl, (below3' _ _ _ _).drew⟩
set_option maxHeartbeats 400000 in
theorem of_9 (w : World) (hT : Tab w) :
    Calls Tryd.prog 52 #[.int .i64 9] w fun e w' => e = .returned (.tuple #[.agg (infoV 9), .int .i64 0]) ∧ Below w.heap.size w w' := by
  have hs := hT.1
  have h0 := hT.2 8 0 (by decide) (by decide)
  have h1 := hT.2 8 1 (by decide) (by decide)
  have h2 := hT.2 8 2 (by decide) (by decide)
  have h3 := hT.2 8 3 (by decide) (by decide)
  simp only [Nat.reduceMul, Nat.reduceAdd, rowV] at h0 h1 h2 h3
  show Calls Tryd.prog 52 #[.int .i64 9] w fun e w' => e = .returned (.tuple #[.agg #[.int .i64 9, .string ⟨#[80, 108, 97, 105, 110, 49, 50, 56]⟩, .int .i64 10, .int .i64 128, .int .i64 34, .int .i64 6144, .int .i64 (-6176), .int .i64 6111, .int .i64 33, .bool false], .int .i64 0]) ∧ Below w.heap.size w w'
  clear hT
  go_enter Tryd.func52, Tryd.ntmps52
  go_wp2
  go_region
  go_wp2
  exact bodyPost_ret (v := .tuple #[.agg #[.int .i64 9, .string ⟨#[80, 108, 97, 105, 110, 49, 50, 56]⟩, .int .i64 10, .int .i64 128, .int .i64 34, .int .i64 6144, .int .i64 (-6176), .int .i64 6111, .int .i64 33, .bool false], .int .i64 0]) (by rw [results_cell_tmp rfl]; go_simp) rfl ⟨rfl, (below3' _ _ _ _).drew⟩
set_option maxHeartbeats 400000 in
theorem of_10 (w : World) (hT : Tab w) :
    Calls Tryd.prog 52 #[.int .i64 10] w fun e w' => e = .returned (.tuple #[.agg (infoV 10), .int .i64 0]) ∧ Below w.heap.size w w' := by
  have hs := hT.1
  have h0 := hT.2 9 0 (by decide) (by decide)
  have h1 := hT.2 9 1 (by decide) (by decide)
  have h2 := hT.2 9 2 (by decide) (by decide)
  have h3 := hT.2 9 3 (by decide) (by decide)
  simp only [Nat.reduceMul, Nat.reduceAdd, rowV] at h0 h1 h2 h3
  show Calls Tryd.prog 52 #[.int .i64 10] w fun e w' => e = .returned (.tuple #[.agg #[.int .i64 10, .string ⟨#[68, 101, 110, 115, 101, 51, 50]⟩, .int .i64 10, .int .i64 32, .int .i64 7, .int .i64 96, .int .i64 (-101), .int .i64 90, .int .i64 6, .bool true], .int .i64 0]) ∧ Below w.heap.size w w'
  clear hT
  go_enter Tryd.func52, Tryd.ntmps52
  go_wp2
  go_region
  go_wp2
  exact bodyPost_ret (v := .tuple #[.agg #[.int .i64 10, .string ⟨#[68, 101, 110, 115, 101, 51, 50]⟩, .int .i64 10, .int .i64 32, .int .i64 7, .int .i64 96, .int .i64 (-101), .int .i64 90, .int .i64 6, .bool true], .int .i64 0]) (by rw [results_cell_tmp rfl]; go_simp) rfl ⟨rfl, (below3' _ _ _ _).drew⟩
set_option maxHeartbeats 400000 in
theorem of_11 (w : World) (hT : Tab w) :
    Calls Tryd.prog 52 #[.int .i64 11] w fun e w' => e = .returned (.tuple #[.agg (infoV 11), .int .i64 0]) ∧ Below w.heap.size w w' := by
  have hs := hT.1
  have h0 := hT.2 10 0 (by decide) (by decide)
  have h1 := hT.2 10 1 (by decide) (by decide)
  have h2 := hT.2 10 2 (by decide) (by decide)
  have h3 := hT.2 10 3 (by decide) (by decide)
  simp only [Nat.reduceMul, Nat.reduceAdd, rowV] at h0 h1 h2 h3
  show Calls Tryd.prog 52 #[.int .i64 11] w fun e w' => e = .returned (.tuple #[.agg #[.int .i64 11, .string ⟨#[68, 101, 110, 115, 101, 54, 52]⟩, .int .i64 10, .int .i64 64, .int .i64 16, .int .i64 384, .int .i64 (-398), .int .i64 369, .int .i64 15, .bool true], .int .i64 0]) ∧ Below w.heap.size w w'
  clear hT
  go_enter Tryd.func52, Tryd.ntmps52
  go_wp2
  go_region
  go_wp2
  exact bodyPost_ret (v := .tuple #[.agg #[.int .i64 11, .string ⟨#[68, 101, 110, 115, 101, 54, 52]⟩, .int .i64 10, .int .i64 64, .int .i64 16, .int .i64 384, .int .i64 (-398), .int .i64 369, .int .i64 15, .bool true], .int .i64 0]) (by rw [results_cell_tmp rfl]; go_simp) rfl ⟨rfl, (below3' _ _ _ _).drew⟩
set_option maxHeartbeats 400000 in
theorem of_12 (w : World) (hT : Tab w) :
    Calls Tryd.prog 52 #[.int .i64 12] w fun e w' => e = .returned (.tuple #[.agg (infoV 12), .int .i64 0]) ∧ Below w.heap.size w w' := by
  have hs := hT.1
  have h0 := hT.2 11 0 (by decide) (by decide)
  have h1 := hT.2 11 1 (by decide) (by decide)
  have h2 := hT.2 11 2 (by decide) (by decide)
  have h3 := hT.2 11 3 (by decide) (by decide)
  simp only [Nat.reduceMul, Nat.reduceAdd, rowV] at h0 h1 h2 h3
  show Calls Tryd.prog 52 #[.int .i64 12] w fun e w' => e = .returned (.tuple #[.agg #[.int .i64 12, .string ⟨#[68, 101, 110, 115, 101, 49, 50, 56]⟩, .int .i64 10, .int .i64 128, .int .i64 34, .int .i64 6144, .int .i64 (-6176), .int .i64 6111, .int .i64 33, .bool true], .int .i64 0]) ∧ Below w.heap.size w w'
  clear hT
  go_enter Tryd.func52, Tryd.ntmps52
  go_wp2
  go_region
  go_wp2
  exact bodyPost_ret (v := .tuple #[.agg #[.int .i64 12, .string ⟨#[68, 101, 110, 115, 101, 49, 50, 56]⟩, .int .i64 10, .int .i64 128, .int .i64 34, .int .i64 6144, .int .i64 (-6176), .int .i64 6111, .int .i64 33, .bool true], .int .i64 0]) (by rw [results_cell_tmp rfl]; go_simp) rfl ⟨rfl, (below3' _ _ _ _).drew⟩
set_option maxHeartbeats 400000 in
theorem of_none (n : Int) (w : World) (h : ¬ okN n) :
    Calls Tryd.prog 52 #[.int .i64 n] w fun e w' => e = .returned (.tuple #[.agg (infoV n), .int .i64 1]) ∧ Below w.heap.size w w' := by
  rw [infoV_none h]
  have key : n < 1 ∨ (1 ≤ n ∧ 12 < n) := by unfold okN at h; omega
  clear h
  rcases key with k1 | ⟨k1, k2⟩
  all_goals
    go_enter Tryd.func52, Tryd.ntmps52
    go_wp2
    exact bodyPost_ret (v := .tuple #[.agg #[.int .i64 0, .string ⟨#[]⟩, .int .i64 0, .int .i64 0, .int .i64 0, .int .i64 0, .int .i64 0, .int .i64 0, .int .i64 0, .bool false], .int .i64 1]) (by rw [results_cell_tmp rfl]; go_simp) rfl ⟨rfl, below1' _ _⟩
theorem dof_any (n : Int) (w : World) (hT : Tab w) :
    Calls Tryd.prog 52 #[.int .i64 n] w fun e w' => e = .returned (.tuple #[.agg (infoV n), .int .i64 (infoE n)]) ∧ Below w.heap.size w w' := by
  by_cases h : okN n
  · rcases okN_cases h with rfl | rfl | rfl | rfl | rfl | rfl | rfl | rfl | rfl | rfl | rfl | rfl
    · exact of_1 w hT
    · exact of_2 w hT
    · exact of_3 w hT
    · exact of_4 w hT
    · exact of_5 w hT
    · exact of_6 w hT
    · exact of_7 w hT
    · exact of_8 w hT
    · exact of_9 w hT
    · exact of_10 w hT
    · exact of_11 w hT
    · exact of_12 w hT
  · unfold infoE; rw [if_neg h]; exact of_none n w h
end Go.Proofs.YthcndcanahhbcaaDoor

/-
  What the document's own Of tells: a contract.
-/
set_option linter.unusedVariables false
set_option linter.unusedSimpArgs false
set_option maxRecDepth 20000
set_option linter.unusedSectionVars false
namespace Go.Proofs.YthcndcanahhbcaaDoor
open Go.RowKit

set_option maxHeartbeats 400000 in
theorem rof_1 (w : World) :
    Calls Tryd.prog 47 #[.int .i64 1] w fun e w' => e = .returned (.tuple #[.agg (infoV 1), .int .i64 0]) ∧ Below w.heap.size w w' := by
  show Calls Tryd.prog 47 #[.int .i64 1] w fun e w' => e = .returned (.tuple #[.agg #[.int .i64 1, .string ⟨#[72, 97, 108, 102]⟩, .int .i64 2, .int .i64 16, .int .i64 11, .int .i64 5, .int .i64 (-24), .int .i64 5, .int .i64 9, .bool false], .int .i64 0]) ∧ Below w.heap.size w w'
  go_enter Tryd.func47, Tryd.ntmps47
  go_wp2
  exact bodyPost_ret (v := .tuple #[.agg #[.int .i64 1, .string ⟨#[72, 97, 108, 102]⟩, .int .i64 2, .int .i64 16, .int .i64 11, .int .i64 5, .int .i64 (-24), .int .i64 5, .int .i64 9, .bool false], .int .i64 0]) (by rw [results_cell_tmp rfl]; go_simp) rfl ⟨rfl, below2' _ _ _⟩
set_option maxHeartbeats 400000 in
theorem rof_2 (w : World) :
    Calls Tryd.prog 47 #[.int .i64 2] w fun e w' => e = .returned (.tuple #[.agg (infoV 2), .int .i64 0]) ∧ Below w.heap.size w w' := by
  show Calls Tryd.prog 47 #[.int .i64 2] w fun e w' => e = .returned (.tuple #[.agg #[.int .i64 2, .string ⟨#[66, 114, 97, 105, 110]⟩, .int .i64 2, .int .i64 16, .int .i64 8, .int .i64 8, .int .i64 (-133), .int .i64 120, .int .i64 6, .bool false], .int .i64 0]) ∧ Below w.heap.size w w'
  go_enter Tryd.func47, Tryd.ntmps47
  go_wp2
  exact bodyPost_ret (v := .tuple #[.agg #[.int .i64 2, .string ⟨#[66, 114, 97, 105, 110]⟩, .int .i64 2, .int .i64 16, .int .i64 8, .int .i64 8, .int .i64 (-133), .int .i64 120, .int .i64 6, .bool false], .int .i64 0]) (by rw [results_cell_tmp rfl]; go_simp) rfl ⟨rfl, below2' _ _ _⟩
set_option maxHeartbeats 400000 in
theorem rof_3 (w : World) :
    Calls Tryd.prog 47 #[.int .i64 3] w fun e w' => e = .returned (.tuple #[.agg (infoV 3), .int .i64 0]) ∧ Below w.heap.size w w' := by
  show Calls Tryd.prog 47 #[.int .i64 3] w fun e w' => e = .returned (.tuple #[.agg #[.int .i64 3, .string ⟨#[83, 105, 110, 103, 108, 101]⟩, .int .i64 2, .int .i64 32, .int .i64 24, .int .i64 8, .int .i64 (-149), .int .i64 104, .int .i64 22, .bool false], .int .i64 0]) ∧ Below w.heap.size w w'
  go_enter Tryd.func47, Tryd.ntmps47
  go_wp2
  exact bodyPost_ret (v := .tuple #[.agg #[.int .i64 3, .string ⟨#[83, 105, 110, 103, 108, 101]⟩, .int .i64 2, .int .i64 32, .int .i64 24, .int .i64 8, .int .i64 (-149), .int .i64 104, .int .i64 22, .bool false], .int .i64 0]) (by rw [results_cell_tmp rfl]; go_simp) rfl ⟨rfl, below2' _ _ _⟩
set_option maxHeartbeats 400000 in
theorem rof_4 (w : World) :
    Calls Tryd.prog 47 #[.int .i64 4] w fun e w' => e = .returned (.tuple #[.agg (infoV 4), .int .i64 0]) ∧ Below w.heap.size w w' := by
  show Calls Tryd.prog 47 #[.int .i64 4] w fun e w' => e = .returned (.tuple #[.agg #[.int .i64 4, .string ⟨#[68, 111, 117, 98, 108, 101]⟩, .int .i64 2, .int .i64 64, .int .i64 53, .int .i64 11, .int .i64 (-1074), .int .i64 971, .int .i64 51, .bool false], .int .i64 0]) ∧ Below w.heap.size w w'
  go_enter Tryd.func47, Tryd.ntmps47
  go_wp2
  exact bodyPost_ret (v := .tuple #[.agg #[.int .i64 4, .string ⟨#[68, 111, 117, 98, 108, 101]⟩, .int .i64 2, .int .i64 64, .int .i64 53, .int .i64 11, .int .i64 (-1074), .int .i64 971, .int .i64 51, .bool false], .int .i64 0]) (by rw [results_cell_tmp rfl]; go_simp) rfl ⟨rfl, below2' _ _ _⟩
set_option maxHeartbeats 400000 in
theorem rof_5 (w : World) :
    Calls Tryd.prog 47 #[.int .i64 5] w fun e w' => e = .returned (.tuple #[.agg (infoV 5), .int .i64 0]) ∧ Below w.heap.size w w' := by
  show Calls Tryd.prog 47 #[.int .i64 5] w fun e w' => e = .returned (.tuple #[.agg #[.int .i64 5, .string ⟨#[81, 117, 97, 100]⟩, .int .i64 2, .int .i64 128, .int .i64 113, .int .i64 15, .int .i64 (-16494), .int .i64 16271, .int .i64 111, .bool false], .int .i64 0]) ∧ Below w.heap.size w w'
  go_enter Tryd.func47, Tryd.ntmps47
  go_wp2
  exact bodyPost_ret (v := .tuple #[.agg #[.int .i64 5, .string ⟨#[81, 117, 97, 100]⟩, .int .i64 2, .int .i64 128, .int .i64 113, .int .i64 15, .int .i64 (-16494), .int .i64 16271, .int .i64 111, .bool false], .int .i64 0]) (by rw [results_cell_tmp rfl]; go_simp) rfl ⟨rfl, below2' _ _ _⟩
set_option maxHeartbeats 400000 in
theorem rof_6 (w : World) :
    Calls Tryd.prog 47 #[.int .i64 6] w fun e w' => e = .returned (.tuple #[.agg (infoV 6), .int .i64 0]) ∧ Below w.heap.size w w' := by
  show Calls Tryd.prog 47 #[.int .i64 6] w fun e w' => e = .returned (.tuple #[.agg #[.int .i64 6, .string ⟨#[79, 99, 116, 111]⟩, .int .i64 2, .int .i64 256, .int .i64 241, .int .i64 15, .int .i64 (-16622), .int .i64 16143, .int .i64 239, .bool false], .int .i64 0]) ∧ Below w.heap.size w w'
  go_enter Tryd.func47, Tryd.ntmps47
  go_wp2
  exact bodyPost_ret (v := .tuple #[.agg #[.int .i64 6, .string ⟨#[79, 99, 116, 111]⟩, .int .i64 2, .int .i64 256, .int .i64 241, .int .i64 15, .int .i64 (-16622), .int .i64 16143, .int .i64 239, .bool false], .int .i64 0]) (by rw [results_cell_tmp rfl]; go_simp) rfl ⟨rfl, below2' _ _ _⟩
set_option maxHeartbeats 400000 in
theorem rof_7 (w : World) :
    Calls Tryd.prog 47 #[.int .i64 7] w fun e w' => e = .returned (.tuple #[.agg (infoV 7), .int .i64 0]) ∧ Below w.heap.size w w' := by
  show Calls Tryd.prog 47 #[.int .i64 7] w fun e w' => e = .returned (.tuple #[.agg #[.int .i64 7, .string ⟨#[80, 108, 97, 105, 110, 51, 50]⟩, .int .i64 10, .int .i64 32, .int .i64 7, .int .i64 96, .int .i64 (-101), .int .i64 90, .int .i64 6, .bool false], .int .i64 0]) ∧ Below w.heap.size w w'
  go_enter Tryd.func47, Tryd.ntmps47
  go_wp2
  exact bodyPost_ret (v := .tuple #[.agg #[.int .i64 7, .string ⟨#[80, 108, 97, 105, 110, 51, 50]⟩, .int .i64 10, .int .i64 32, .int .i64 7, .int .i64 96, .int .i64 (-101), .int .i64 90, .int .i64 6, .bool false], .int .i64 0]) (by rw [results_cell_tmp rfl]; go_simp; rfl) rfl ⟨rfl, below2' _ _ _⟩
set_option maxHeartbeats 400000 in
theorem rof_8 (w : World) :
    Calls Tryd.prog 47 #[.int .i64 8] w fun e w' => e = .returned (.tuple #[.agg (infoV 8), .int .i64 0]) ∧ Below w.heap.size w w' := by
  show Calls Tryd.prog 47 #[.int .i64 8] w fun e w' => e = .returned (.tuple #[.agg #[.int .i64 8, .string ⟨#[80, 108, 97, 105, 110, 54, 52]⟩, .int .i64 10, .int .i64 64, .int .i64 16, .int .i64 384, .int .i64 (-398), .int .i64 369, .int .i64 15, .bool false], .int .i64 0]) ∧ Below w.heap.size w w'
  go_enter Tryd.func47, Tryd.ntmps47
  go_wp2
  exact bodyPost_ret (v := .tuple #[.agg #[.int .i64 8, .string ⟨#[80, 108, 97, 105, 110, 54, 52]⟩, .int .i64 10, .int .i64 64, .int .i64 16, .int .i64 384, .int .i64 (-398), .int .i64 369, .int .i64 15, .bool false], .int .i64 0]) (by rw [results_cell_tmp rfl]; go_simp; rfl) rfl ⟨rfl, below2' _ _ _⟩
set_option maxHeartbeats 400000 in
theorem rof_9 (w : World) :
    Calls Tryd.prog 47 #[.int .i64 9] w fun e w' => e = .returned (.tuple #[.agg (infoV 9), .int .i64 0]) ∧ Below w.heap.size w w' := by
  show Calls Tryd.prog 47 #[.int .i64 9] w fun e w' => e = .returned (.tuple #[.agg #[.int .i64 9, .string ⟨#[80, 108, 97, 105, 110, 49, 50, 56]⟩, .int .i64 10, .int .i64 128, .int .i64 34, .int .i64 6144, .int .i64 (-6176), .int .i64 6111, .int .i64 33, .bool false], .int .i64 0]) ∧ Below w.heap.size w w'
  go_enter Tryd.func47, Tryd.ntmps47
  go_wp2
  exact bodyPost_ret (v := .tuple #[.agg #[.int .i64 9, .string ⟨#[80, 108, 97, 105, 110, 49, 50, 56]⟩, .int .i64 10, .int .i64 128, .int .i64 34, .int .i64 6144, .int .i64 (-6176), .int .i64 6111, .int .i64 33, .bool false], .int .i64 0]) (by rw [results_cell_tmp rfl]; go_simp; rfl) rfl ⟨rfl, below2' _ _ _⟩
set_option maxHeartbeats 400000 in
theorem rof_10 (w : World) :
    Calls Tryd.prog 47 #[.int .i64 10] w fun e w' => e = .returned (.tuple #[.agg (infoV 10), .int .i64 0]) ∧ Below w.heap.size w w' := by
  show Calls Tryd.prog 47 #[.int .i64 10] w fun e w' => e = .returned (.tuple #[.agg #[.int .i64 10, .string ⟨#[68, 101, 110, 115, 101, 51, 50]⟩, .int .i64 10, .int .i64 32, .int .i64 7, .int .i64 96, .int .i64 (-101), .int .i64 90, .int .i64 6, .bool true], .int .i64 0]) ∧ Below w.heap.size w w'
  go_enter Tryd.func47, Tryd.ntmps47
  go_wp2
  exact bodyPost_ret (v := .tuple #[.agg #[.int .i64 10, .string ⟨#[68, 101, 110, 115, 101, 51, 50]⟩, .int .i64 10, .int .i64 32, .int .i64 7, .int .i64 96, .int .i64 (-101), .int .i64 90, .int .i64 6, .bool true], .int .i64 0]) (by rw [results_cell_tmp rfl]; go_simp; rfl) rfl ⟨rfl, below2' _ _ _⟩
set_option maxHeartbeats 400000 in
theorem rof_11 (w : World) :
    Calls Tryd.prog 47 #[.int .i64 11] w fun e w' => e = .returned (.tuple #[.agg (infoV 11), .int .i64 0]) ∧ Below w.heap.size w w' := by
  show Calls Tryd.prog 47 #[.int .i64 11] w fun e w' => e = .returned (.tuple #[.agg #[.int .i64 11, .string ⟨#[68, 101, 110, 115, 101, 54, 52]⟩, .int .i64 10, .int .i64 64, .int .i64 16, .int .i64 384, .int .i64 (-398), .int .i64 369, .int .i64 15, .bool true], .int .i64 0]) ∧ Below w.heap.size w w'
  go_enter Tryd.func47, Tryd.ntmps47
  go_wp2
  exact bodyPost_ret (v := .tuple #[.agg #[.int .i64 11, .string ⟨#[68, 101, 110, 115, 101, 54, 52]⟩, .int .i64 10, .int .i64 64, .int .i64 16, .int .i64 384, .int .i64 (-398), .int .i64 369, .int .i64 15, .bool true], .int .i64 0]) (by rw [results_cell_tmp rfl]; go_simp; rfl) rfl ⟨rfl, below2' _ _ _⟩
set_option maxHeartbeats 400000 in
theorem rof_12 (w : World) :
    Calls Tryd.prog 47 #[.int .i64 12] w fun e w' => e = .returned (.tuple #[.agg (infoV 12), .int .i64 0]) ∧ Below w.heap.size w w' := by
  show Calls Tryd.prog 47 #[.int .i64 12] w fun e w' => e = .returned (.tuple #[.agg #[.int .i64 12, .string ⟨#[68, 101, 110, 115, 101, 49, 50, 56]⟩, .int .i64 10, .int .i64 128, .int .i64 34, .int .i64 6144, .int .i64 (-6176), .int .i64 6111, .int .i64 33, .bool true], .int .i64 0]) ∧ Below w.heap.size w w'
  go_enter Tryd.func47, Tryd.ntmps47
  go_wp2
  exact bodyPost_ret (v := .tuple #[.agg #[.int .i64 12, .string ⟨#[68, 101, 110, 115, 101, 49, 50, 56]⟩, .int .i64 10, .int .i64 128, .int .i64 34, .int .i64 6144, .int .i64 (-6176), .int .i64 6111, .int .i64 33, .bool true], .int .i64 0]) (by rw [results_cell_tmp rfl]; go_simp; rfl) rfl ⟨rfl, below2' _ _ _⟩
set_option maxHeartbeats 400000 in
theorem rof_none (n : Int) (w : World) (h : ¬ okN n) :
    Calls Tryd.prog 47 #[.int .i64 n] w fun e w' => e = .returned (.tuple #[.agg (infoV n), .int .i64 1]) ∧ Below w.heap.size w w' := by
  rw [infoV_none h]
  have e1 : (n == 1) = false := by unfold okN at h; simp only [beq_eq_false_iff_ne, ne_eq]; omega
  have e2 : (n == 2) = false := by unfold okN at h; simp only [beq_eq_false_iff_ne, ne_eq]; omega
  have e3 : (n == 3) = false := by unfold okN at h; simp only [beq_eq_false_iff_ne, ne_eq]; omega
  have e4 : (n == 4) = false := by unfold okN at h; simp only [beq_eq_false_iff_ne, ne_eq]; omega
  have e5 : (n == 5) = false := by unfold okN at h; simp only [beq_eq_false_iff_ne, ne_eq]; omega
  have e6 : (n == 6) = false := by unfold okN at h; simp only [beq_eq_false_iff_ne, ne_eq]; omega
  have e7 : (n == 7) = false := by unfold okN at h; simp only [beq_eq_false_iff_ne, ne_eq]; omega
  have e8 : (n == 8) = false := by unfold okN at h; simp only [beq_eq_false_iff_ne, ne_eq]; omega
  have e9 : (n == 9) = false := by unfold okN at h; simp only [beq_eq_false_iff_ne, ne_eq]; omega
  have e10 : (n == 10) = false := by unfold okN at h; simp only [beq_eq_false_iff_ne, ne_eq]; omega
  have e11 : (n == 11) = false := by unfold okN at h; simp only [beq_eq_false_iff_ne, ne_eq]; omega
  have e12 : (n == 12) = false := by unfold okN at h; simp only [beq_eq_false_iff_ne, ne_eq]; omega
  clear h
  go_enter Tryd.func47, Tryd.ntmps47
  go_wp2
  exact bodyPost_ret (v := .tuple #[.agg #[.int .i64 0, .string ⟨#[]⟩, .int .i64 0, .int .i64 0, .int .i64 0, .int .i64 0, .int .i64 0, .int .i64 0, .int .i64 0, .bool false], .int .i64 1]) (by rw [results_cell_tmp rfl]; go_simp) rfl ⟨rfl, below2' _ _ _⟩
theorem rof_any (n : Int) (w : World) :
    Calls Tryd.prog 47 #[.int .i64 n] w fun e w' => e = .returned (.tuple #[.agg (infoV n), .int .i64 (infoE n)]) ∧ Below w.heap.size w w' := by
  by_cases h : okN n
  · rcases okN_cases h with rfl | rfl | rfl | rfl | rfl | rfl | rfl | rfl | rfl | rfl | rfl | rfl
    · exact rof_1 w
    · exact rof_2 w
    · exact rof_3 w
    · exact rof_4 w
    · exact rof_5 w
    · exact rof_6 w
    · exact rof_7 w
    · exact rof_8 w
    · exact rof_9 w
    · exact rof_10 w
    · exact rof_11 w
    · exact rof_12 w
  · unfold infoE; rw [if_neg h]; exact rof_none n w h
end Go.Proofs.YthcndcanahhbcaaDoor

/-
  The formats' table, field by field; what awake, Holds and the document's Holds do: contracts.
-/
set_option linter.unusedVariables false
set_option linter.unusedSimpArgs false
set_option maxRecDepth 20000
set_option linter.unusedSectionVars false
namespace Go.Proofs.YthcndcanahhbcaaDoor
open Go.RowKit

def numN (n : Int) : Int := if okN n then n else 0
def baseN : Int → Int
  | 1 => 2
  | 2 => 2
  | 3 => 2
  | 4 => 2
  | 5 => 2
  | 6 => 2
  | 7 => 10
  | 8 => 10
  | 9 => 10
  | 10 => 10
  | 11 => 10
  | 12 => 10
  | _ => 0
def widthN : Int → Int
  | 1 => 16
  | 2 => 16
  | 3 => 32
  | 4 => 64
  | 5 => 128
  | 6 => 256
  | 7 => 32
  | 8 => 64
  | 9 => 128
  | 10 => 32
  | 11 => 64
  | 12 => 128
  | _ => 0
def precN : Int → Int
  | 1 => 11
  | 2 => 8
  | 3 => 24
  | 4 => 53
  | 5 => 113
  | 6 => 241
  | 7 => 7
  | 8 => 16
  | 9 => 34
  | 10 => 7
  | 11 => 16
  | 12 => 34
  | _ => 0
def expN : Int → Int
  | 1 => 5
  | 2 => 8
  | 3 => 8
  | 4 => 11
  | 5 => 15
  | 6 => 15
  | 7 => 96
  | 8 => 384
  | 9 => 6144
  | 10 => 96
  | 11 => 384
  | 12 => 6144
  | _ => 0
def leastN : Int → Int
  | 1 => -24
  | 2 => -133
  | 3 => -149
  | 4 => -1074
  | 5 => -16494
  | 6 => -16622
  | 7 => -101
  | 8 => -398
  | 9 => -6176
  | 10 => -101
  | 11 => -398
  | 12 => -6176
  | _ => 0
def mostN : Int → Int
  | 1 => 5
  | 2 => 120
  | 3 => 104
  | 4 => 971
  | 5 => 16271
  | 6 => 16143
  | 7 => 90
  | 8 => 369
  | 9 => 6111
  | 10 => 90
  | 11 => 369
  | 12 => 6111
  | _ => 0
def payN : Int → Int
  | 1 => 9
  | 2 => 6
  | 3 => 22
  | 4 => 51
  | 5 => 111
  | 6 => 239
  | 7 => 6
  | 8 => 15
  | 9 => 33
  | 10 => 6
  | 11 => 15
  | 12 => 33
  | _ => 0
def denseN (n : Int) : Bool := decide (10 ≤ n ∧ n ≤ 12)
def nameN : Int → ByteArray
  | 1 => ⟨#[72, 97, 108, 102]⟩
  | 2 => ⟨#[66, 114, 97, 105, 110]⟩
  | 3 => ⟨#[83, 105, 110, 103, 108, 101]⟩
  | 4 => ⟨#[68, 111, 117, 98, 108, 101]⟩
  | 5 => ⟨#[81, 117, 97, 100]⟩
  | 6 => ⟨#[79, 99, 116, 111]⟩
  | 7 => ⟨#[80, 108, 97, 105, 110, 51, 50]⟩
  | 8 => ⟨#[80, 108, 97, 105, 110, 54, 52]⟩
  | 9 => ⟨#[80, 108, 97, 105, 110, 49, 50, 56]⟩
  | 10 => ⟨#[68, 101, 110, 115, 101, 51, 50]⟩
  | 11 => ⟨#[68, 101, 110, 115, 101, 54, 52]⟩
  | 12 => ⟨#[68, 101, 110, 115, 101, 49, 50, 56]⟩
  | _ => ⟨#[]⟩
theorem fields_none {n : Int} (h : ¬ okN n) : numN n = 0 ∧ nameN n = ⟨#[]⟩ ∧ baseN n = 0 ∧ widthN n = 0 ∧ precN n = 0 ∧ expN n = 0 ∧ leastN n = 0 ∧ mostN n = 0 ∧ payN n = 0 ∧ denseN n = false := by
  refine ⟨if_neg h, ?_, ?_, ?_, ?_, ?_, ?_, ?_, ?_, ?_⟩
  · unfold nameN okN at *; split <;> first | rfl | omega
  · unfold baseN okN at *; split <;> first | rfl | omega
  · unfold widthN okN at *; split <;> first | rfl | omega
  · unfold precN okN at *; split <;> first | rfl | omega
  · unfold expN okN at *; split <;> first | rfl | omega
  · unfold leastN okN at *; split <;> first | rfl | omega
  · unfold mostN okN at *; split <;> first | rfl | omega
  · unfold payN okN at *; split <;> first | rfl | omega
  · unfold denseN okN at *; simp only [decide_eq_false_iff_not]; omega
theorem infoV_eq (n : Int) : infoV n = #[.int .i64 (numN n), .string (nameN n), .int .i64 (baseN n), .int .i64 (widthN n), .int .i64 (precN n), .int .i64 (expN n), .int .i64 (leastN n), .int .i64 (mostN n), .int .i64 (payN n), .bool (denseN n)] := by
  by_cases h : okN n
  · rcases okN_cases h with rfl | rfl | rfl | rfl | rfl | rfl | rfl | rfl | rfl | rfl | rfl | rfl <;> rfl
  · obtain ⟨h0, h1, h2, h3, h4, h5, h6, h7, h8, h9⟩ := fields_none h
    rw [infoV_none h, h0, h1, h2, h3, h4, h5, h6, h7, h8, h9]
/-- what is between what bounds -/
theorem fields_bounds (n : Int) : (0 ≤ baseN n ∧ baseN n ≤ 10) ∧ (0 ≤ widthN n ∧ widthN n ≤ 256) ∧ (0 ≤ precN n ∧ precN n ≤ 241) ∧ (-17000 ≤ leastN n ∧ leastN n ≤ 0) ∧ (0 ≤ mostN n ∧ mostN n ≤ 17000) := by
  by_cases h : okN n
  · rcases okN_cases h with rfl | rfl | rfl | rfl | rfl | rfl | rfl | rfl | rfl | rfl | rfl | rfl <;> decide
  · obtain ⟨h0, h1, h2, h3, h4, h5, h6, h7, h8, h9⟩ := fields_none h
    rw [h2, h3, h4, h6, h7]; decide
theorem ofv_any (n : Int) (w : World) (hT : Tab w) :
    Calls Tryd.prog 52 #[.int .i64 n] w fun e w' => e = .returned (.tuple #[.agg #[.int .i64 (numN n), .string (nameN n), .int .i64 (baseN n), .int .i64 (widthN n), .int .i64 (precN n), .int .i64 (expN n), .int .i64 (leastN n), .int .i64 (mostN n), .int .i64 (payN n), .bool (denseN n)], .int .i64 (infoE n)]) ∧ Below w.heap.size w w' :=
  infoV_eq n ▸ dof_any n w hT
theorem rofv_any (n : Int) (w : World) :
    Calls Tryd.prog 47 #[.int .i64 n] w fun e w' => e = .returned (.tuple #[.agg #[.int .i64 (numN n), .string (nameN n), .int .i64 (baseN n), .int .i64 (widthN n), .int .i64 (precN n), .int .i64 (expN n), .int .i64 (leastN n), .int .i64 (mostN n), .int .i64 (payN n), .bool (denseN n)], .int .i64 (infoE n)]) ∧ Below w.heap.size w w' :=
  infoV_eq n ▸ rof_any n w
set_option maxHeartbeats 400000 in
def holdsP (f g : Int) : Prop := okN f ∧ okN g ∧ baseN f = baseN g ∧ precN f ≤ precN g ∧ leastN g ≤ leastN f ∧ mostN f + precN f ≤ mostN g + precN g
instance (f g : Int) : Decidable (holdsP f g) := inferInstanceAs (Decidable (_ ∧ _))
theorem holds_ways (f g : Int) (R : Bool → Prop)
    (h1 : infoE f = 1 → R false) (h2 : infoE f = 0 → infoE g = 1 → R false) (h3 : infoE f = 0 → infoE g = 0 → (baseN f == baseN g) = false → R false)
    (h4 : infoE f = 0 → infoE g = 0 → (baseN f == baseN g) = true → precN g < precN f → R false)
    (h5 : infoE f = 0 → infoE g = 0 → (baseN f == baseN g) = true → precN f ≤ precN g → leastN f < leastN g → R false)
    (h6 : infoE f = 0 → infoE g = 0 → (baseN f == baseN g) = true → precN f ≤ precN g → leastN g ≤ leastN f → mostN g + precN g < mostN f + precN f → R false)
    (h7 : infoE f = 0 → infoE g = 0 → (baseN f == baseN g) = true → precN f ≤ precN g → leastN g ≤ leastN f → mostN f + precN f ≤ mostN g + precN g → R true) : R (decide (holdsP f g)) := by
  have e0 : ∀ n, okN n → infoE n = 0 := fun n h => if_pos h
  have e1 : ∀ n, ¬ okN n → infoE n = 1 := fun n h => if_neg h
  by_cases k1 : okN f
  · by_cases k2 : okN g
    · by_cases k3 : baseN f = baseN g
      · have b3 : (baseN f == baseN g) = true := by simpa using k3
        by_cases k4 : precN f ≤ precN g
        · by_cases k5 : leastN g ≤ leastN f
          · by_cases k6 : mostN f + precN f ≤ mostN g + precN g
            · rw [decide_eq_true (p := holdsP f g) ⟨k1, k2, k3, k4, k5, k6⟩]; exact h7 (e0 _ k1) (e0 _ k2) b3 k4 k5 k6
            · rw [decide_eq_false (p := holdsP f g) (fun h => k6 h.2.2.2.2.2)]; exact h6 (e0 _ k1) (e0 _ k2) b3 k4 k5 (by omega)
          · rw [decide_eq_false (p := holdsP f g) (fun h => k5 h.2.2.2.2.1)]; exact h5 (e0 _ k1) (e0 _ k2) b3 k4 (by omega)
        · rw [decide_eq_false (p := holdsP f g) (fun h => k4 h.2.2.2.1)]; exact h4 (e0 _ k1) (e0 _ k2) b3 (by omega)
      · rw [decide_eq_false (p := holdsP f g) (fun h => k3 h.2.2.1)]; exact h3 (e0 _ k1) (e0 _ k2) (by simpa using k3)
    · rw [decide_eq_false (p := holdsP f g) (fun h => k2 h.2.1)]; exact h2 (e0 _ k1) (e1 _ k2)
  · rw [decide_eq_false (p := holdsP f g) (fun h => k1 h.1)]; exact h1 (e1 _ k1)
theorem lt_allocI {W w3 : World} {o : Obj} {n : Nat} (hb : Below n (W.alloc o) w3) : W.heap.size < w3.heap.size := by
  have h := hb.size
  have h2 : (W.alloc o).heap.size = W.heap.size + 1 := World.size_alloc W o
  omega
theorem cell_allocI {W w3 : World} {cs : Array Value} {t : TypeId} {k : Nat} (hb : Below (W.alloc (.cells cs t)).heap.size (W.alloc (.cells cs t)) w3) : w3.cell? ⟨W.heap.size, k, none⟩ = cs[k]? :=
  (hb.cell (p := ⟨W.heap.size, k, none⟩) (by simp)).trans (World.cell?_alloc_new ..)
theorem four_cells {W w3 : World} {v0 v1 v2 v3 v4 v5 v6 v7 v8 v9 : Value} {t : TypeId} (hb : Below (W.alloc (.cells #[v0, v1, v2, v3, v4, v5, v6, v7, v8, v9] t)).heap.size (W.alloc (.cells #[v0, v1, v2, v3, v4, v5, v6, v7, v8, v9] t)) w3) :
    w3.cell? ⟨W.heap.size, 2, none⟩ = some v2 ∧ w3.cell? ⟨W.heap.size, 4, none⟩ = some v4 ∧ w3.cell? ⟨W.heap.size, 6, none⟩ = some v6 ∧ w3.cell? ⟨W.heap.size, 7, none⟩ = some v7 :=
  ⟨cell_allocI hb, cell_allocI hb, cell_allocI hb, cell_allocI hb⟩
set_option maxHeartbeats 1000000 in
set_option maxHeartbeats 1000000 in
theorem holdsP_self (f : Int) : holdsP f f ↔ okN f := ⟨fun h => h.1, fun h => ⟨h, h, rfl, Int.le_refl _, Int.le_refl _, Int.le_refl _⟩⟩
theorem holdsP_trans {f g h : Int} (h1 : holdsP f g) (h2 : holdsP g h) : holdsP f h := by
  obtain ⟨a1, a2, a3, a4, a5, a6⟩ := h1
  obtain ⟨b1, b2, b3, b4, b5, b6⟩ := h2
  exact ⟨a1, b2, a3.trans b3, Int.le_trans a4 b4, Int.le_trans b5 a5, Int.le_trans a6 b6⟩
end Go.Proofs.YthcndcanahhbcaaDoor

/-
  From the row's condition to the formats' table in block 0.
-/
set_option linter.unusedVariables false
set_option linter.unusedSimpArgs false
set_option maxRecDepth 20000
set_option linter.unusedSectionVars false
namespace Go.Proofs.YthcndcanahhbcaaDoor
open Go.RowKit

section
variable {H : Type} {enc : TypeId × Value → H} {W : World} {base : Nat} {sp : Nat → Bool} {held : Bool}
theorem u59 : ∃ a b c d, Tryd.prog.underlying 106 = some (.struct #[a, b, c, d]) ∧ a.offset = 0 ∧ b.offset = 1 ∧ c.offset = 2 ∧ d.offset = 3 ∧ a.type = 9 ∧ b.type = 3 ∧ c.type = 3 ∧ d.type = 3 :=
  ⟨_, _, _, _, Tryd.underlying106, rfl, rfl, rfl, rfl, rfl, rfl, rfl, rfl⟩
theorem c9 : Tryd.prog.cellsOf 9 = 1 := by kernel_rfl
theorem c3 : Tryd.prog.cellsOf 3 = 1 := by kernel_rfl
theorem c59 : Tryd.prog.cellsOf 106 = 4 := by kernel_rfl
theorem c60 : Tryd.prog.cellsOf 107 = 48 := by kernel_rfl
theorem u60 : Tryd.prog.underlying 107 = some (.array 12 106) := by kernel_rfl
theorem row_cells {fuel : Nat} {cs : List Value} {nm : List UInt8} {a b c : Int} {p : DataW H × List MemPlace} (hp : p.1 = .agg [.lit (.string nm), .lit (.int .i64 a), .lit (.int .i64 b), .lit (.int .i64 c)])
    (h : DataW.trod enc Tryd.prog W base sp held fuel 106 cs = some p) : cs = [.string ⟨nm.toArray⟩, .int .i64 a, .int .i64 b, .int .i64 c] := by
  obtain ⟨f0, f1, f2, f3, hu, o0, o1, o2, o3, t0, t1, t2, t3⟩ := u59
  obtain ⟨y0, y1, y2, y3, n, rfl, hl, h0, h1, h2, h3⟩ := Joins.trod_struct4 hu h
  rw [o0, t0, c9] at h0
  rw [o1, t1, c3] at h1
  rw [o2, t2, c3] at h2
  rw [o3, t3, c3] at h3
  obtain ⟨s, hs, rfl, _⟩ := DataW.trod_string Tryd.underlying9 h0
  obtain ⟨z1, hz1, rfl, _⟩ := DataW.trod_int Tryd.underlying3 h1
  obtain ⟨z2, hz2, rfl, _⟩ := DataW.trod_int Tryd.underlying3 h2
  obtain ⟨z3, hz3, rfl, _⟩ := DataW.trod_int Tryd.underlying3 h3
  simp only [DataW.agg.injEq, List.cons.injEq, DataW.lit.injEq, Lit.string.injEq, Lit.int.injEq, true_and, and_true] at hp
  obtain ⟨rfl, rfl, rfl, rfl⟩ := hp
  rw [c59] at hl
  match cs, hl with
  | [v0, v1, v2, v3], _ =>
    simp at hs hz1 hz2 hz3
    subst hs hz1 hz2 hz3
    rfl
theorem row_at {cs : List Value} {i : Nat} {v0 v1 v2 v3 : Value} (h : (cs.drop (i * 4)).take 4 = [v0, v1, v2, v3]) : cs[i * 4]? = some v0 ∧ cs[i * 4 + 1]? = some v1 ∧ cs[i * 4 + 2]? = some v2 ∧ cs[i * 4 + 3]? = some v3 := by
  have g : ∀ k, k < 4 → cs[i * 4 + k]? = [v0, v1, v2, v3][k]? := fun k hk => by
    rw [← h, List.getElem?_take_of_lt hk, List.getElem?_drop]
  exact ⟨g 0 (by decide), g 1 (by decide), g 2 (by decide), g 3 (by decide)⟩
theorem tab_of_trod {fuel : Nat} {cs : List Value} {p : List MemPlace} (h : DataW.trod enc Tryd.prog W base sp held fuel 107 cs = some (Rows.laid_caliper_desc_rows, p)) :
    ∀ i k, i < 12 → k < 4 → cs[i * 4 + k]? = some (rowV i k) := by
  cases fuel with
  | zero => simp [DataW.trod] at h
  | succ fuel =>
    simp only [DataW.trod, u60, c59, c60] at h
    split at h
    · rename_i hl
      obtain ⟨xs, hm, hx⟩ := Option.map_eq_some_iff.1 h
      have hxs := congrArg Prod.fst hx
      simp only [Rows.laid_caliper_desc_rows, DataW.agg.injEq] at hxs
      intro i k hi hk
      obtain ⟨b, hb, hf⟩ := Lib.mapM_at hm i i (by simp [hi])
      have hd : (xs.map (·.1))[i]? = some b.1 := by simp [hb]
      rw [hxs] at hd
      have key : ∀ (nm : List UInt8) (x y z : Int), b.1 = .agg [.lit (.string nm), .lit (.int .i64 x), .lit (.int .i64 y), .lit (.int .i64 z)] → cs[i * 4]? = some (.string ⟨nm.toArray⟩) ∧ cs[i * 4 + 1]? = some (.int .i64 x) ∧ cs[i * 4 + 2]? = some (.int .i64 y) ∧ cs[i * 4 + 3]? = some (.int .i64 z) :=
        fun nm x y z e => row_at (row_cells e hf)
      have hk' : k = 0 ∨ k = 1 ∨ k = 2 ∨ k = 3 := by omega
      have hi' : i = 0 ∨ i = 1 ∨ i = 2 ∨ i = 3 ∨ i = 4 ∨ i = 5 ∨ i = 6 ∨ i = 7 ∨ i = 8 ∨ i = 9 ∨ i = 10 ∨ i = 11 := by omega
      rcases hi' with rfl | rfl | rfl | rfl | rfl | rfl | rfl | rfl | rfl | rfl | rfl | rfl
      all_goals
        obtain ⟨q0, q1, q2, q3⟩ := key _ _ _ _ (Option.some.inj hd).symm
        rcases hk' with rfl | rfl | rfl | rfl
        · exact q0
        · exact q1
        · exact q2
        · exact q3
    · cases h
end
theorem tab_of_laid {W : World} {rest : List (String × DataW Unit)} (h : laidMet Tryd.prog (("caliper/desc.rows", Rows.laid_caliper_desc_rows) :: rest) W) : Tab W := by
  obtain ⟨ps, ⟨g', t', cs, fuel, p, q, hg', ht', hvar, hd, _, _⟩, _⟩ := h
  have hg : Tryd.prog.globalNamed "caliper/desc.rows" = some 0 := by kernel_rfl
  have hty : (Tryd.prog.globals[0]?).map (·.type) = some 107 := by kernel_rfl
  obtain rfl := Option.some.inj (hg.symm.trans hg')
  obtain rfl := Option.some.inj (hty.symm.trans ht')
  have hc := tab_of_trod hd
  have hcell : ∀ i k, i < 12 → k < 4 → W.cell? ⟨0, i * 4 + k, none⟩ = some (rowV i k) := fun i k hi hk => by
    have := World.var?_cell hg hvar (i * 4 + k)
    rw [this, ← hc i k hi hk]
    simp
  refine ⟨?_, hcell⟩
  have h0 := hcell 0 0 (by decide) (by decide)
  by_cases hz : 0 < W.heap.size
  · exact hz
  · have : W.heap[0]? = none := Array.getElem?_eq_none (by omega)
    simp [World.cell?, this] at h0
end Go.Proofs.YthcndcanahhbcaaDoor

/-
  A world for the witness, with the listed variable laid.
-/
set_option linter.unusedVariables false
set_option maxRecDepth 20000
set_option linter.unusedSectionVars false
set_option linter.unusedSimpArgs false
namespace Go.Proofs.YthcndcanahhbcaaDoor
open Go.ChangeShapes Go.WideShapes Go.ChangeAt Go.RowKit

theorem Tryd.own : ownKnob Tryd.prog.godebug = none := by kernel_rfl
theorem Tryd.laidOut : laidOutB Tryd.prog = true := by kernel_rfl
def tabCells : Array Value := ((List.range 12).flatMap fun i => (List.range 4).map fun k => rowV i k).toArray
def layCells (c : Array Value) : Obj → Obj
  | .cells _ t frozen => .cells c t frozen
  | o => o
noncomputable def laidWorld (os : Os) : World :=
  { World.holding Tryd.prog os ⟨#[], #[], []⟩ with heap := (World.holding Tryd.prog os ⟨#[], #[], []⟩).heap.modify 0 (layCells tabCells) }
end Go.Proofs.YthcndcanahhbcaaDoor
