/-
  Texts that the proof leans on.
-/
import Derived.Test.YtehgnckgmdkfmaaGreatDoorRows
import Derived.WalkKit
import Derived.WalkSpells
import Derived.WalkLawsBesides
import Derived.Below
import Derived.RegionTactic
import Derived.ChangeAlike
import Derived.Laws.ResultCell
import Derived.LaidLaws
import Derived.Lib.LaidTab
import Derived.StillTail
import Derived.Lib.SmallJoins
import Derived.ProofKit
import Derived.OpenShut
import Derived.Carry
import Derived.Deep.DeepHandedRow
set_option linter.unusedVariables false
set_option linter.unusedSimpArgs false
set_option linter.unusedSectionVars false
set_option maxRecDepth 20000
namespace Go.Proofs.YtehgnckgmdkfmaaGreatDoor
open Go.RowKit
section
/-- the table's cells, as they are written down -/
def rowV : Nat → Nat → Value
  | 0, 0 => .string ⟨#[72, 97, 108, 102]⟩
  | 0, 1 => .int .i64 16
  | 0, 2 => .int .i64 11
  | 0, 3 => .int .i64 5
  | 1, 0 => .string ⟨#[66, 114, 97, 105, 110]⟩
  | 1, 1 => .int .i64 16
  | 1, 2 => .int .i64 8
  | 1, 3 => .int .i64 8
  | 2, 0 => .string ⟨#[83, 105, 110, 103, 108, 101]⟩
  | 2, 1 => .int .i64 32
  | 2, 2 => .int .i64 24
  | 2, 3 => .int .i64 8
  | 3, 0 => .string ⟨#[68, 111, 117, 98, 108, 101]⟩
  | 3, 1 => .int .i64 64
  | 3, 2 => .int .i64 53
  | 3, 3 => .int .i64 11
  | 4, 0 => .string ⟨#[81, 117, 97, 100]⟩
  | 4, 1 => .int .i64 128
  | 4, 2 => .int .i64 113
  | 4, 3 => .int .i64 15
  | 5, 0 => .string ⟨#[79, 99, 116, 111]⟩
  | 5, 1 => .int .i64 256
  | 5, 2 => .int .i64 241
  | 5, 3 => .int .i64 15
  | 6, 0 => .string ⟨#[80, 108, 97, 105, 110, 51, 50]⟩
  | 6, 1 => .int .i64 32
  | 6, 2 => .int .i64 7
  | 6, 3 => .int .i64 96
  | 7, 0 => .string ⟨#[80, 108, 97, 105, 110, 54, 52]⟩
  | 7, 1 => .int .i64 64
  | 7, 2 => .int .i64 16
  | 7, 3 => .int .i64 384
  | 8, 0 => .string ⟨#[80, 108, 97, 105, 110, 49, 50, 56]⟩
  | 8, 1 => .int .i64 128
  | 8, 2 => .int .i64 34
  | 8, 3 => .int .i64 6144
  | 9, 0 => .string ⟨#[68, 101, 110, 115, 101, 51, 50]⟩
  | 9, 1 => .int .i64 32
  | 9, 2 => .int .i64 7
  | 9, 3 => .int .i64 96
  | 10, 0 => .string ⟨#[68, 101, 110, 115, 101, 54, 52]⟩
  | 10, 1 => .int .i64 64
  | 10, 2 => .int .i64 16
  | 10, 3 => .int .i64 384
  | 11, 0 => .string ⟨#[68, 101, 110, 115, 101, 49, 50, 56]⟩
  | 11, 1 => .int .i64 128
  | 11, 2 => .int .i64 34
  | 11, 3 => .int .i64 6144
  | _, _ => .int .i64 0
/-- the formats' table lies in block 0 -/
def Tab (w : World) : Prop := 0 < w.heap.size ∧ ∀ i k, i < 12 → k < 4 → w.cell? ⟨0, i * 4 + k, none⟩ = some (rowV i k)
theorem Tab.next {B : Nat} {w w' : World} (h : Tab w) (hb : Below B w w') (hB : 0 < B) : Tab w' :=
  ⟨Nat.lt_of_lt_of_le h.1 hb.size, fun i k hi hk => (hb.cell (p := ⟨0, i * 4 + k, none⟩) hB).trans (h.2 i k hi hk)⟩
theorem Tab.go {w w' : World} (h : Tab w) (hb : Below w.heap.size w w') : Tab w' := h.next hb h.1
theorem Tab.drew {w : World} (h : Tab w) : Tab w.drew := h
theorem Tab.alloc {w : World} (h : Tab w) (o : Obj) : Tab (w.alloc o) := h.go ((Below.refl _ _).alloc (Nat.le_refl _) o)

/-- what Of tells -/
def infoV : Int → Array Value
  | 1 => #[.int .i64 1, .string ⟨#[72, 97, 108, 102]⟩, .int .i64 2, .int .i64 16, .int .i64 11, .int .i64 5, .int .i64 (-24), .int .i64 5, .int .i64 9, .bool false]
  | 2 => #[.int .i64 2, .string ⟨#[66, 114, 97, 105, 110]⟩, .int .i64 2, .int .i64 16, .int .i64 8, .int .i64 8, .int .i64 (-133), .int .i64 120, .int .i64 6, .bool false]
  | 3 => #[.int .i64 3, .string ⟨#[83, 105, 110, 103, 108, 101]⟩, .int .i64 2, .int .i64 32, .int .i64 24, .int .i64 8, .int .i64 (-149), .int .i64 104, .int .i64 22, .bool false]
  | 4 => #[.int .i64 4, .string ⟨#[68, 111, 117, 98, 108, 101]⟩, .int .i64 2, .int .i64 64, .int .i64 53, .int .i64 11, .int .i64 (-1074), .int .i64 971, .int .i64 51, .bool false]
  | 5 => #[.int .i64 5, .string ⟨#[81, 117, 97, 100]⟩, .int .i64 2, .int .i64 128, .int .i64 113, .int .i64 15, .int .i64 (-16494), .int .i64 16271, .int .i64 111, .bool false]
  | 6 => #[.int .i64 6, .string ⟨#[79, 99, 116, 111]⟩, .int .i64 2, .int .i64 256, .int .i64 241, .int .i64 15, .int .i64 (-16622), .int .i64 16143, .int .i64 239, .bool false]
  | 7 => #[.int .i64 7, .string ⟨#[80, 108, 97, 105, 110, 51, 50]⟩, .int .i64 10, .int .i64 32, .int .i64 7, .int .i64 96, .int .i64 (-101), .int .i64 90, .int .i64 6, .bool false]
  | 8 => #[.int .i64 8, .string ⟨#[80, 108, 97, 105, 110, 54, 52]⟩, .int .i64 10, .int .i64 64, .int .i64 16, .int .i64 384, .int .i64 (-398), .int .i64 369, .int .i64 15, .bool false]
  | 9 => #[.int .i64 9, .string ⟨#[80, 108, 97, 105, 110, 49, 50, 56]⟩, .int .i64 10, .int .i64 128, .int .i64 34, .int .i64 6144, .int .i64 (-6176), .int .i64 6111, .int .i64 33, .bool false]
  | 10 => #[.int .i64 10, .string ⟨#[68, 101, 110, 115, 101, 51, 50]⟩, .int .i64 10, .int .i64 32, .int .i64 7, .int .i64 96, .int .i64 (-101), .int .i64 90, .int .i64 6, .bool true]
  | 11 => #[.int .i64 11, .string ⟨#[68, 101, 110, 115, 101, 54, 52]⟩, .int .i64 10, .int .i64 64, .int .i64 16, .int .i64 384, .int .i64 (-398), .int .i64 369, .int .i64 15, .bool true]
  | 12 => #[.int .i64 12, .string ⟨#[68, 101, 110, 115, 101, 49, 50, 56]⟩, .int .i64 10, .int .i64 128, .int .i64 34, .int .i64 6144, .int .i64 (-6176), .int .i64 6111, .int .i64 33, .bool true]
  | _ => #[.int .i64 0, .string ⟨#[]⟩, .int .i64 0, .int .i64 0, .int .i64 0, .int .i64 0, .int .i64 0, .int .i64 0, .int .i64 0, .bool false]
def okN (n : Int) : Prop := 1 ≤ n ∧ n ≤ 12
instance (n : Int) : Decidable (okN n) := inferInstanceAs (Decidable (_ ∧ _))
def infoE (n : Int) : Int := if okN n then 0 else 1
theorem infoV_none {n : Int} (h : ¬ okN n) : infoV n = #[.int .i64 0, .string ⟨#[]⟩, .int .i64 0, .int .i64 0, .int .i64 0, .int .i64 0, .int .i64 0, .int .i64 0, .int .i64 0, .bool false] := by
  unfold infoV okN at *
  split <;> first | rfl | omega
theorem okN_cases {n : Int} (h : okN n) : n = 1 ∨ n = 2 ∨ n = 3 ∨ n = 4 ∨ n = 5 ∨ n = 6 ∨ n = 7 ∨ n = 8 ∨ n = 9 ∨ n = 10 ∨ n = 11 ∨ n = 12 := by unfold okN at h; omega

theorem below1' (w : World) (a : Obj) : Below w.heap.size w (w.alloc a) := (Below.refl _ _).alloc (Nat.le_refl _) a
theorem below2' (w : World) (a b : Obj) : Below w.heap.size w ((w.alloc a).alloc b) := (below1' w a).alloc (by simp) b
theorem below3' (w : World) (a b c : Obj) : Below w.heap.size w (((w.alloc a).alloc b).alloc c) := (below2' w a b).alloc (by simp; omega) c
set_option maxHeartbeats 400000 in
theorem of_1 (w : World) (hT : Tab w) :
    Calls Tryz.prog 34 #[.int .i64 1] w fun e w' => e = .returned (.tuple #[.agg (infoV 1), .int .i64 0]) ∧ Below w.heap.size w w' := by
  have hs := hT.1
  have h0 := hT.2 0 0 (by decide) (by decide)
  have h1 := hT.2 0 1 (by decide) (by decide)
  have h2 := hT.2 0 2 (by decide) (by decide)
  have h3 := hT.2 0 3 (by decide) (by decide)
  simp only [Nat.reduceMul, Nat.reduceAdd, rowV] at h0 h1 h2 h3
  show Calls Tryz.prog 34 #[.int .i64 1] w fun e w' => e = .returned (.tuple #[.agg #[.int .i64 1, .string ⟨#[72, 97, 108, 102]⟩, .int .i64 2, .int .i64 16, .int .i64 11, .int .i64 5, .int .i64 (-24), .int .i64 5, .int .i64 9, .bool false], .int .i64 0]) ∧ Below w.heap.size w w'
  clear hT
  go_enter Tryz.func34, Tryz.ntmps34
  go_wp2
  go_region
  go_wp2
  exact bodyPost_ret (v := .tuple #[.agg #[.int .i64 1, .string ⟨#[72, 97, 108, 102]⟩, .int .i64 2, .int .i64 16, .int .i64 11, .int .i64 5, .int .i64 (-24), .int .i64 5, .int .i64 9, .bool false], .int .i64 0]) (by rw [results_cell_tmp rfl]; go_simp) rfl ⟨rfl, (below3' _ _ _ _).drew⟩
set_option maxHeartbeats 400000 in
theorem of_2 (w : World) (hT : Tab w) :
    Calls Tryz.prog 34 #[.int .i64 2] w fun e w' => e = .returned (.tuple #[.agg (infoV 2), .int .i64 0]) ∧ Below w.heap.size w w' := by
  have hs := hT.1
  have h0 := hT.2 1 0 (by decide) (by decide)
  have h1 := hT.2 1 1 (by decide) (by decide)
  have h2 := hT.2 1 2 (by decide) (by decide)
  have h3 := hT.2 1 3 (by decide) (by decide)
  simp only [Nat.reduceMul, Nat.reduceAdd, rowV] at h0 h1 h2 h3
  show Calls Tryz.prog 34 #[.int .i64 2] w fun e w' => e = .returned (.tuple #[.agg #[.int .i64 2, .string ⟨#[66, 114, 97, 105, 110]⟩, .int .i64 2, .int .i64 16, .int .i64 8, .int .i64 8, .int .i64 (-133), .int .i64 120, .int .i64 6, .bool false], .int .i64 0]) ∧ Below w.heap.size w w'
  clear hT
  go_enter Tryz.func34, Tryz.ntmps34
  go_wp2
  go_region
  go_wp2
  exact bodyPost_ret (v := .tuple #[.agg #[.int .i64 2, .string ⟨#[66, 114, 97, 105, 110]⟩, .int .i64 2, .int .i64 16, .int .i64 8, .int .i64 8, .int .i64 (-133), .int .i64 120, .int .i64 6, .bool false], .int .i64 0]) (by rw [results_cell_tmp rfl]; go_simp) rfl ⟨rfl, (below3' _ _ _ _).drew⟩
set_option maxHeartbeats 400000 in
theorem of_3 (w : World) (hT : Tab w) :
    Calls Tryz.prog 34 #[.int .i64 3] w fun e w' => e = .returned (.tuple #[.agg (infoV 3), .int .i64 0]) ∧ Below w.heap.size w w' := by
  have hs := hT.1
  have h0 := hT.2 2 0 (by decide) (by decide)
  have h1 := hT.2 2 1 (by decide) (by decide)
  have h2 := hT.2 2 2 (by decide) (by decide)
  have h3 := hT.2 2 3 (by decide) (by decide)
  simp only [Nat.reduceMul, Nat.reduceAdd, rowV] at h0 h1 h2 h3
  show Calls Tryz.prog 34 #[.int .i64 3] w fun e w' => e = .returned (.tuple #[.agg #[.int .i64 3, .string ⟨#[83, 105, 110, 103, 108, 101]⟩, .int .i64 2, .int .i64 32, .int .i64 24, .int .i64 8, .int .i64 (-149), .int .i64 104, .int .i64 22, .bool false], .int .i64 0]) ∧ Below w.heap.size w w'
  clear hT
  go_enter Tryz.func34, Tryz.ntmps34
  go_wp2
  go_region
  go_wp2
  exact bodyPost_ret (v := .tuple #[.agg #[.int .i64 3, .string ⟨#[83, 105, 110, 103, 108, 101]⟩, .int .i64 2, .int .i64 32, .int .i64 24, .int .i64 8, .int .i64 (-149), .int .i64 104, .int .i64 22, .bool false], .int .i64 0]) (by rw [results_cell_tmp rfl]; go_simp) rfl ⟨rfl, (below3' _ _ _ _).drew⟩
set_option maxHeartbeats 400000 in
theorem of_4 (w : World) (hT : Tab w) :
    Calls Tryz.prog 34 #[.int .i64 4] w fun e w' => e = .returned (.tuple #[.agg (infoV 4), .int .i64 0]) ∧ Below w.heap.size w w' := by
  have hs := hT.1
  have h0 := hT.2 3 0 (by decide) (by decide)
  have h1 := hT.2 3 1 (by decide) (by decide)
  have h2 := hT.2 3 2 (by decide) (by decide)
  have h3 := hT.2 3 3 (by decide) (by decide)
  simp only [Nat.reduceMul, Nat.reduceAdd, rowV] at h0 h1 h2 h3
  show Calls Tryz.prog 34 #[.int .i64 4] w fun e w' => e = .returned (.tuple #[.agg #[.int .i64 4, .string ⟨#[68, 111, 117, 98, 108, 101]⟩, .int .i64 2, .int .i64 64, .int .i64 53, .int .i64 11, .int .i64 (-1074), .int .i64 971, .int .i64 51, .bool false], .int .i64 0]) ∧ Below w.heap.size w w'
  clear hT
  go_enter Tryz.func34, Tryz.ntmps34
  go_wp2
  go_region
  go_wp2
  exact bodyPost_ret (v := .tuple #[.agg #[.int .i64 4, .string ⟨#[68, 111, 117, 98, 108, 101]⟩, .int .i64 2, .int .i64 64, .int .i64 53, .int .i64 11, .int .i64 (-1074), .int .i64 971, .int .i64 51, .bool false], .int .i64 0]) (by rw [results_cell_tmp rfl]; go_simp) rfl ⟨rfl, (below3' _ _ _ _).drew⟩
set_option maxHeartbeats 400000 in
theorem of_5 (w : World) (hT : Tab w) :
    Calls Tryz.prog 34 #[.int .i64 5] w fun e w' => e = .returned (.tuple #[.agg (infoV 5), .int .i64 0]) ∧ Below w.heap.size w w' := by
  have hs := hT.1
  have h0 := hT.2 4 0 (by decide) (by decide)
  have h1 := hT.2 4 1 (by decide) (by decide)
  have h2 := hT.2 4 2 (by decide) (by decide)
  have h3 := hT.2 4 3 (by decide) (by decide)
  simp only [Nat.reduceMul, Nat.reduceAdd, rowV] at h0 h1 h2 h3
  show Calls Tryz.prog 34 #[.int .i64 5] w fun e w' => e = .returned (.tuple #[.agg #[.int .i64 5, .string ⟨#[81, 117, 97, 100]⟩, .int .i64 2, .int .i64 128, .int .i64 113, .int .i64 15, .int .i64 (-16494), .int .i64 16271, .int .i64 111, .bool false], .int .i64 0]) ∧ Below w.heap.size w w'
  clear hT
  go_enter Tryz.func34, Tryz.ntmps34
  go_wp2
  go_region
  go_wp2
  exact bodyPost_ret (v := .tuple #[.agg #[.int .i64 5, .string ⟨#[81, 117, 97, 100]⟩, .int .i64 2, .int .i64 128, .int .i64 113, .int .i64 15, .int .i64 (-16494), .int .i64 16271, .int .i64 111, .bool false], .int .i64 0]) (by rw [results_cell_tmp rfl]; go_simp) rfl ⟨rfl, (below3' _ _ _ _).drew⟩
set_option maxHeartbeats 400000 in
theorem of_6 (w : World) (hT : Tab w) :
    Calls Tryz.prog 34 #[.int .i64 6] w fun e w' => e = .returned (.tuple #[.agg (infoV 6), .int .i64 0]) ∧ Below w.heap.size w w' := by
  have hs := hT.1
  have h0 := hT.2 5 0 (by decide) (by decide)
  have h1 := hT.2 5 1 (by decide) (by decide)
  have h2 := hT.2 5 2 (by decide) (by decide)
  have h3 := hT.2 5 3 (by decide) (by decide)
  simp only [Nat.reduceMul, Nat.reduceAdd, rowV] at h0 h1 h2 h3
  show Calls Tryz.prog 34 #[.int .i64 6] w fun e w' => e = .returned (.tuple #[.agg #[.int .i64 6, .string ⟨#[79, 99, 116, 111]⟩, .int .i64 2, .int .i64 256, .int .i64 241, .int .i64 15, .int .i64 (-16622), .int .i64 16143, .int .i64 239, .bool false], .int .i64 0]) ∧ Below w.heap.size w w'
  clear hT
  go_enter Tryz.func34, Tryz.ntmps34
  go_wp2
  go_region
  go_wp2
  exact bodyPost_ret (v := .tuple #[.agg #[.int .i64 6, .string ⟨#[79, 99, 116, 111]⟩, .int .i64 2, .int .i64 256, .int .i64 241, .int .i64 15, .int .i64 (-16622), .int .i64 16143, .int .i64 239, .bool false], .int .i64 0]) (by rw [results_cell_tmp rfl]; go_simp) rfl ⟨rfl, (below3' _ _ _ _).drew⟩
set_option maxHeartbeats 400000 in
theorem of_7 (w : World) (hT : Tab w) :
    Calls Tryz.prog 34 #[.int .i64 7] w fun e w' => e = .returned (.tuple #[.agg (infoV 7), .int .i64 0]) ∧ Below w.heap.size w w' := by
  have hs := hT.1
  have h0 := hT.2 6 0 (by decide) (by decide)
  have h1 := hT.2 6 1 (by decide) (by decide)
  have h2 := hT.2 6 2 (by decide) (by decide)
  have h3 := hT.2 6 3 (by decide) (by decide)
  simp only [Nat.reduceMul, Nat.reduceAdd, rowV] at h0 h1 h2 h3
  show Calls Tryz.prog 34 #[.int .i64 7] w fun e w' => e = .returned (.tuple #[.agg #[.int .i64 7, .string ⟨#[80, 108, 97, 105, 110, 51, 50]⟩, .int .i64 10, .int .i64 32, .int .i64 7, .int .i64 96, .int .i64 (-101), .int .i64 90, .int .i64 6, .bool false], .int .i64 0]) ∧ Below w.heap.size w w'
  clear hT
  go_enter Tryz.func34, Tryz.ntmps34
  go_wp2
  go_region
  go_wp2
  exact bodyPost_ret (v := .tuple #[.agg #[.int .i64 7, .string ⟨#[80, 108, 97, 105, 110, 51, 50]⟩, .int .i64 10, .int .i64 32, .int .i64 7, .int .i64 96, .int .i64 (-101), .int .i64 90, .int .i64 6, .bool false], .int .i64 0]) (by rw [results_cell_tmp rfl]; go_simp) rfl ⟨rfl, (below3' _ _ _ _).drew⟩
set_option maxHeartbeats 400000 in
theorem of_8 (w : World) (hT : Tab w) :
    Calls Tryz.prog 34 #[.int .i64 8] w fun e w' => e = .returned (.tuple #[.agg (infoV 8), .int .i64 0]) ∧ Below w.heap.size w w' := by
  have hs := hT.1
  have h0 := hT.2 7 0 (by decide) (by decide)
  have h1 := hT.2 7 1 (by decide) (by decide)
  have h2 := hT.2 7 2 (by decide) (by decide)
  have h3 := hT.2 7 3 (by decide) (by decide)
  simp only [Nat.reduceMul, Nat.reduceAdd, rowV] at h0 h1 h2 h3
  show Calls Tryz.prog 34 #[.int .i64 8] w fun e w' => e = .returned (.tuple #[.agg #[.int .i64 8, .string ⟨#[80, 108, 97, 105, 110, 54, 52]⟩, .int .i64 10, .int .i64 64, .int .i64 16, .int .i64 384, .int .i64 (-398), .int .i64 369, .int .i64 15, .bool false], .int .i64 0]) ∧ Below w.heap.size w w'
  clear hT
  go_enter Tryz.func34, Tryz.ntmps34
  go_wp2
  go_region
  go_wp2
  exact bodyPost_ret (v := .tuple #[.agg #[.int .i64 8, .string ⟨#[80, 108, 97, 105, 110, 54, 52]⟩, .int .i64 10, .int .i64 64, .int .i64 16, .int .i64 384, .int .i64 (-398), .int .i64 369, .int .i64 15, .bool false], .int .i64 0]) (by rw [results_cell_tmp rfl]; go_simp) rfl ⟨rfl, (below3' _ _ _ _).drew⟩
set_option maxHeartbeats 400000 in
theorem of_9 (w : World) (hT : Tab w) :
    Calls Tryz.prog 34 #[.int .i64 9] w fun e w' => e = .returned (.tuple #[.agg (infoV 9), .int .i64 0]) ∧ Below w.heap.size w w' := by
  have hs := hT.1
  have h0 := hT.2 8 0 (by decide) (by decide)
  have h1 := hT.2 8 1 (by decide) (by decide)
  have h2 := hT.2 8 2 (by decide) (by decide)
  have h3 := hT.2 8 3 (by decide) (by decide)
  simp only [Nat.reduceMul, Nat.reduceAdd, rowV] at h0 h1 h2 h3
  show Calls Tryz.prog 34 #[.int .i64 9] w fun e w' => e = .returned (.tuple #[.agg #[.int .i64 9, .string ⟨#[80, 108, 97, 105, 110, 49, 50, 56]⟩, .int .i64 10, .int .i64 128, .int .i64 34, .int .i64 6144, .int .i64 (-6176), .int .i64 6111, .int .i64 33, .bool false], .int .i64 0]) ∧ Below w.heap.size w w'
  clear hT
  go_enter Tryz.func34, Tryz.ntmps34
  go_wp2
  go_region
  go_wp2
  exact bodyPost_ret (v := .tuple #[.agg #[.int .i64 9, .string ⟨#[80, 108, 97, 105, 110, 49, 50, 56]⟩, .int .i64 10, .int .i64 128, .int .i64 34, .int .i64 6144, .int .i64 (-6176), .int .i64 6111, .int .i64 33, .bool false], .int .i64 0]) (by rw [results_cell_tmp rfl]; go_simp) rfl ⟨rfl, (below3' _ _ _ _).drew⟩
set_option maxHeartbeats 400000 in
theorem of_10 (w : World) (hT : Tab w) :
    Calls Tryz.prog 34 #[.int .i64 10] w fun e w' => e = .returned (.tuple #[.agg (infoV 10), .int .i64 0]) ∧ Below w.heap.size w w' := by
  have hs := hT.1
  have h0 := hT.2 9 0 (by decide) (by decide)
  have h1 := hT.2 9 1 (by decide) (by decide)
  have h2 := hT.2 9 2 (by decide) (by decide)
  have h3 := hT.2 9 3 (by decide) (by decide)
  simp only [Nat.reduceMul, Nat.reduceAdd, rowV] at h0 h1 h2 h3
  show Calls Tryz.prog 34 #[.int .i64 10] w fun e w' => e = .returned (.tuple #[.agg #[.int .i64 10, .string ⟨#[68, 101, 110, 115, 101, 51, 50]⟩, .int .i64 10, .int .i64 32, .int .i64 7, .int .i64 96, .int .i64 (-101), .int .i64 90, .int .i64 6, .bool true], .int .i64 0]) ∧ Below w.heap.size w w'
  clear hT
  go_enter Tryz.func34, Tryz.ntmps34
  go_wp2
  go_region
  go_wp2
  exact bodyPost_ret (v := .tuple #[.agg #[.int .i64 10, .string ⟨#[68, 101, 110, 115, 101, 51, 50]⟩, .int .i64 10, .int .i64 32, .int .i64 7, .int .i64 96, .int .i64 (-101), .int .i64 90, .int .i64 6, .bool true], .int .i64 0]) (by rw [results_cell_tmp rfl]; go_simp) rfl ⟨rfl, (below3' _ _ _ _).drew⟩
set_option maxHeartbeats 400000 in
theorem of_11 (w : World) (hT : Tab w) :
    Calls Tryz.prog 34 #[.int .i64 11] w fun e w' => e = .returned (.tuple #[.agg (infoV 11), .int .i64 0]) ∧ Below w.heap.size w w' := by
  have hs := hT.1
  have h0 := hT.2 10 0 (by decide) (by decide)
  have h1 := hT.2 10 1 (by decide) (by decide)
  have h2 := hT.2 10 2 (by decide) (by decide)
  have h3 := hT.2 10 3 (by decide) (by decide)
  simp only [Nat.reduceMul, Nat.reduceAdd, rowV] at h0 h1 h2 h3
  show Calls Tryz.prog 34 #[.int .i64 11] w fun e w' => e = .returned (.tuple #[.agg #[.int .i64 11, .string ⟨#[68, 101, 110, 115, 101, 54, 52]⟩, .int .i64 10, .int .i64 64, .int .i64 16, .int .i64 384, .int .i64 (-398), .int .i64 369, .int .i64 15, .bool true], .int .i64 0]) ∧ Below w.heap.size w w'
  clear hT
  go_enter Tryz.func34, Tryz.ntmps34
  go_wp2
  go_region
  go_wp2
  exact bodyPost_ret (v := .tuple #[.agg #[.int .i64 11, .string ⟨#[68, 101, 110, 115, 101, 54, 52]⟩, .int .i64 10, .int .i64 64, .int .i64 16, .int .i64 384, .int .i64 (-398), .int .i64 369, .int .i64 15, .bool true], .int .i64 0]) (by rw [results_cell_tmp rfl]; go_simp) rfl ⟨rfl, (below3' _ _ _ _).drew⟩
set_option maxHeartbeats 400000 in
theorem of_12 (w : World) (hT : Tab w) :
    Calls Tryz.prog 34 #[.int .i64 12] w fun e w' => e = .returned (.tuple #[.agg (infoV 12), .int .i64 0]) ∧ Below w.heap.size w w' := by
  have hs := hT.1
  have h0 := hT.2 11 0 (by decide) (by decide)
  have h1 := hT.2 11 1 (by decide) (by decide)
  have h2 := hT.2 11 2 (by decide) (by decide)
  have h3 := hT.2 11 3 (by decide) (by decide)
  simp only [Nat.reduceMul, Nat.reduceAdd, rowV] at h0 h1 h2 h3
  show Calls Tryz.prog 34 #[.int .i64 12] w fun e w' => e = .returned (.tuple #[.agg #[.int .i64 12, .string ⟨#[68, 101, 110, 115, 101, 49, 50, 56]⟩, .int .i64 10, .int .i64 128, .int .i64 34, .int .i64 6144, .int .i64 (-6176), .int .i64 6111, .int .i64 33, .bool true], .int .i64 0]) ∧ Below w.heap.size w w'
  clear hT
  go_enter Tryz.func34, Tryz.ntmps34
  go_wp2
  go_region
  go_wp2
  exact bodyPost_ret (v := .tuple #[.agg #[.int .i64 12, .string ⟨#[68, 101, 110, 115, 101, 49, 50, 56]⟩, .int .i64 10, .int .i64 128, .int .i64 34, .int .i64 6144, .int .i64 (-6176), .int .i64 6111, .int .i64 33, .bool true], .int .i64 0]) (by rw [results_cell_tmp rfl]; go_simp) rfl ⟨rfl, (below3' _ _ _ _).drew⟩
set_option maxHeartbeats 400000 in
theorem of_none (n : Int) (w : World) (h : ¬ okN n) :
    Calls Tryz.prog 34 #[.int .i64 n] w fun e w' => e = .returned (.tuple #[.agg (infoV n), .int .i64 1]) ∧ Below w.heap.size w w' := by
  rw [infoV_none h]
  have key : n < 1 ∨ (1 ≤ n ∧ 12 < n) := by unfold okN at h; omega
  clear h
  rcases key with k1 | ⟨k1, k2⟩
  all_goals
    go_enter Tryz.func34, Tryz.ntmps34
    go_wp2
    exact bodyPost_ret (v := .tuple #[.agg #[.int .i64 0, .string ⟨#[]⟩, .int .i64 0, .int .i64 0, .int .i64 0, .int .i64 0, .int .i64 0, .int .i64 0, .int .i64 0, .bool false], .int .i64 1]) (by rw [results_cell_tmp rfl]; go_simp) rfl ⟨rfl, below1' _ _⟩
theorem dof_any (n : Int) (w : World) (hT : Tab w) :
    Calls Tryz.prog 34 #[.int .i64 n] w fun e w' => e = .returned (.tuple #[.agg (infoV n), .int .i64 (infoE n)]) ∧ Below w.heap.size w w' := by
  by_cases h : okN n
  · rcases okN_cases h with rfl | rfl | rfl | rfl | rfl | rfl | rfl | rfl | rfl | rfl | rfl | rfl
    · exact of_1 w hT
    · exact of_2 w hT
    · exact of_3 w hT
    · exact of_4 w hT
    · exact of_5 w hT
    · exact of_6 w hT
    · exact of_7 w hT
    · exact of_8 w hT
    · exact of_9 w hT
    · exact of_10 w hT
    · exact of_11 w hT
    · exact of_12 w hT
  · unfold infoE; rw [if_neg h]; exact of_none n w h
end
section
set_option maxHeartbeats 400000 in
theorem rof_1 (w : World) :
    Calls Tryz.prog 21 #[.int .i64 1] w fun e w' => e = .returned (.tuple #[.agg (infoV 1), .int .i64 0]) ∧ Below w.heap.size w w' := by
  show Calls Tryz.prog 21 #[.int .i64 1] w fun e w' => e = .returned (.tuple #[.agg #[.int .i64 1, .string ⟨#[72, 97, 108, 102]⟩, .int .i64 2, .int .i64 16, .int .i64 11, .int .i64 5, .int .i64 (-24), .int .i64 5, .int .i64 9, .bool false], .int .i64 0]) ∧ Below w.heap.size w w'
  go_enter Tryz.func21, Tryz.ntmps21
  go_wp2
  exact bodyPost_ret (v := .tuple #[.agg #[.int .i64 1, .string ⟨#[72, 97, 108, 102]⟩, .int .i64 2, .int .i64 16, .int .i64 11, .int .i64 5, .int .i64 (-24), .int .i64 5, .int .i64 9, .bool false], .int .i64 0]) (by rw [results_cell_tmp rfl]; go_simp) rfl ⟨rfl, below2' _ _ _⟩
set_option maxHeartbeats 400000 in
theorem rof_2 (w : World) :
    Calls Tryz.prog 21 #[.int .i64 2] w fun e w' => e = .returned (.tuple #[.agg (infoV 2), .int .i64 0]) ∧ Below w.heap.size w w' := by
  show Calls Tryz.prog 21 #[.int .i64 2] w fun e w' => e = .returned (.tuple #[.agg #[.int .i64 2, .string ⟨#[66, 114, 97, 105, 110]⟩, .int .i64 2, .int .i64 16, .int .i64 8, .int .i64 8, .int .i64 (-133), .int .i64 120, .int .i64 6, .bool false], .int .i64 0]) ∧ Below w.heap.size w w'
  go_enter Tryz.func21, Tryz.ntmps21
  go_wp2
  exact bodyPost_ret (v := .tuple #[.agg #[.int .i64 2, .string ⟨#[66, 114, 97, 105, 110]⟩, .int .i64 2, .int .i64 16, .int .i64 8, .int .i64 8, .int .i64 (-133), .int .i64 120, .int .i64 6, .bool false], .int .i64 0]) (by rw [results_cell_tmp rfl]; go_simp) rfl ⟨rfl, below2' _ _ _⟩
set_option maxHeartbeats 400000 in
theorem rof_3 (w : World) :
    Calls Tryz.prog 21 #[.int .i64 3] w fun e w' => e = .returned (.tuple #[.agg (infoV 3), .int .i64 0]) ∧ Below w.heap.size w w' := by
  show Calls Tryz.prog 21 #[.int .i64 3] w fun e w' => e = .returned (.tuple #[.agg #[.int .i64 3, .string ⟨#[83, 105, 110, 103, 108, 101]⟩, .int .i64 2, .int .i64 32, .int .i64 24, .int .i64 8, .int .i64 (-149), .int .i64 104, .int .i64 22, .bool false], .int .i64 0]) ∧ Below w.heap.size w w'
  go_enter Tryz.func21, Tryz.ntmps21
  go_wp2
  exact bodyPost_ret (v := .tuple #[.agg #[.int .i64 3, .string ⟨#[83, 105, 110, 103, 108, 101]⟩, .int .i64 2, .int .i64 32, .int .i64 24, .int .i64 8, .int .i64 (-149), .int .i64 104, .int .i64 22, .bool false], .int .i64 0]) (by rw [results_cell_tmp rfl]; go_simp) rfl ⟨rfl, below2' _ _ _⟩
set_option maxHeartbeats 400000 in
theorem rof_4 (w : World) :
    Calls Tryz.prog 21 #[.int .i64 4] w fun e w' => e = .returned (.tuple #[.agg (infoV 4), .int .i64 0]) ∧ Below w.heap.size w w' := by
  show Calls Tryz.prog 21 #[.int .i64 4] w fun e w' => e = .returned (.tuple #[.agg #[.int .i64 4, .string ⟨#[68, 111, 117, 98, 108, 101]⟩, .int .i64 2, .int .i64 64, .int .i64 53, .int .i64 11, .int .i64 (-1074), .int .i64 971, .int .i64 51, .bool false], .int .i64 0]) ∧ Below w.heap.size w w'
  go_enter Tryz.func21, Tryz.ntmps21
  go_wp2
  exact bodyPost_ret (v := .tuple #[.agg #[.int .i64 4, .string ⟨#[68, 111, 117, 98, 108, 101]⟩, .int .i64 2, .int .i64 64, .int .i64 53, .int .i64 11, .int .i64 (-1074), .int .i64 971, .int .i64 51, .bool false], .int .i64 0]) (by rw [results_cell_tmp rfl]; go_simp) rfl ⟨rfl, below2' _ _ _⟩
set_option maxHeartbeats 400000 in
theorem rof_5 (w : World) :
    Calls Tryz.prog 21 #[.int .i64 5] w fun e w' => e = .returned (.tuple #[.agg (infoV 5), .int .i64 0]) ∧ Below w.heap.size w w' := by
  show Calls Tryz.prog 21 #[.int .i64 5] w fun e w' => e = .returned (.tuple #[.agg #[.int .i64 5, .string ⟨#[81, 117, 97, 100]⟩, .int .i64 2, .int .i64 128, .int .i64 113, .int .i64 15, .int .i64 (-16494), .int .i64 16271, .int .i64 111, .bool false], .int .i64 0]) ∧ Below w.heap.size w w'
  go_enter Tryz.func21, Tryz.ntmps21
  go_wp2
  exact bodyPost_ret (v := .tuple #[.agg #[.int .i64 5, .string ⟨#[81, 117, 97, 100]⟩, .int .i64 2, .int .i64 128, .int .i64 113, .int .i64 15, .int .i64 (-16494), .int .i64 16271, .int .i64 111, .bool false], .int .i64 0]) (by rw [results_cell_tmp rfl]; go_simp) rfl ⟨rfl, below2' _ _ _⟩
set_option maxHeartbeats 400000 in
theorem rof_6 (w : World) :
    Calls Tryz.prog 21 #[.int .i64 6] w fun e w' => e = .returned (.tuple #[.agg (infoV 6), .int .i64 0]) ∧ Below w.heap.size w w' := by
  show Calls Tryz.prog 21 #[.int .i64 6] w fun e w' => e = .returned (.tuple #[.agg #[.int .i64 6, .string ⟨#[79, 99, 116, 111]⟩, .int .i64 2, .int .i64 256, .int .i64 241, .int .i64 15, .int .i64 (-16622), .int .i64 16143, .int .i64 239, .bool false], .int .i64 0]) ∧ Below w.heap.size w w'
  go_enter Tryz.func21, Tryz.ntmps21
  go_wp2
  exact bodyPost_ret (v := .tuple #[.agg #[.int .i64 6, .string ⟨#[79, 99, 116, 111]⟩, .int .i64 2, .int .i64 256, .int .i64 241, .int .i64 15, .int .i64 (-16622), .int .i64 16143, .int .i64 239, .bool false], .int .i64 0]) (by rw [results_cell_tmp rfl]; go_simp) rfl ⟨rfl, below2' _ _ _⟩
set_option maxHeartbeats 400000 in
theorem rof_7 (w : World) :
    Calls Tryz.prog 21 #[.int .i64 7] w fun e w' => e = .returned (.tuple #[.agg (infoV 7), .int .i64 0]) ∧ Below w.heap.size w w' := by
  show Calls Tryz.prog 21 #[.int .i64 7] w fun e w' => e = .returned (.tuple #[.agg #[.int .i64 7, .string ⟨#[80, 108, 97, 105, 110, 51, 50]⟩, .int .i64 10, .int .i64 32, .int .i64 7, .int .i64 96, .int .i64 (-101), .int .i64 90, .int .i64 6, .bool false], .int .i64 0]) ∧ Below w.heap.size w w'
  go_enter Tryz.func21, Tryz.ntmps21
  go_wp2
  exact bodyPost_ret (v := .tuple #[.agg #[.int .i64 7, .string ⟨#[80, 108, 97, 105, 110, 51, 50]⟩, .int .i64 10, .int .i64 32, .int .i64 7, .int .i64 96, .int .i64 (-101), .int .i64 90, .int .i64 6, .bool false], .int .i64 0]) (by rw [results_cell_tmp rfl]; go_simp; rfl) rfl ⟨rfl, below2' _ _ _⟩
set_option maxHeartbeats 400000 in
theorem rof_8 (w : World) :
    Calls Tryz.prog 21 #[.int .i64 8] w fun e w' => e = .returned (.tuple #[.agg (infoV 8), .int .i64 0]) ∧ Below w.heap.size w w' := by
  show Calls Tryz.prog 21 #[.int .i64 8] w fun e w' => e = .returned (.tuple #[.agg #[.int .i64 8, .string ⟨#[80, 108, 97, 105, 110, 54, 52]⟩, .int .i64 10, .int .i64 64, .int .i64 16, .int .i64 384, .int .i64 (-398), .int .i64 369, .int .i64 15, .bool false], .int .i64 0]) ∧ Below w.heap.size w w'
  go_enter Tryz.func21, Tryz.ntmps21
  go_wp2
  exact bodyPost_ret (v := .tuple #[.agg #[.int .i64 8, .string ⟨#[80, 108, 97, 105, 110, 54, 52]⟩, .int .i64 10, .int .i64 64, .int .i64 16, .int .i64 384, .int .i64 (-398), .int .i64 369, .int .i64 15, .bool false], .int .i64 0]) (by rw [results_cell_tmp rfl]; go_simp; rfl) rfl ⟨rfl, below2' _ _ _⟩
set_option maxHeartbeats 400000 in
theorem rof_9 (w : World) :
    Calls Tryz.prog 21 #[.int .i64 9] w fun e w' => e = .returned (.tuple #[.agg (infoV 9), .int .i64 0]) ∧ Below w.heap.size w w' := by
  show Calls Tryz.prog 21 #[.int .i64 9] w fun e w' => e = .returned (.tuple #[.agg #[.int .i64 9, .string ⟨#[80, 108, 97, 105, 110, 49, 50, 56]⟩, .int .i64 10, .int .i64 128, .int .i64 34, .int .i64 6144, .int .i64 (-6176), .int .i64 6111, .int .i64 33, .bool false], .int .i64 0]) ∧ Below w.heap.size w w'
  go_enter Tryz.func21, Tryz.ntmps21
  go_wp2
  exact bodyPost_ret (v := .tuple #[.agg #[.int .i64 9, .string ⟨#[80, 108, 97, 105, 110, 49, 50, 56]⟩, .int .i64 10, .int .i64 128, .int .i64 34, .int .i64 6144, .int .i64 (-6176), .int .i64 6111, .int .i64 33, .bool false], .int .i64 0]) (by rw [results_cell_tmp rfl]; go_simp; rfl) rfl ⟨rfl, below2' _ _ _⟩
set_option maxHeartbeats 400000 in
theorem rof_10 (w : World) :
    Calls Tryz.prog 21 #[.int .i64 10] w fun e w' => e = .returned (.tuple #[.agg (infoV 10), .int .i64 0]) ∧ Below w.heap.size w w' := by
  show Calls Tryz.prog 21 #[.int .i64 10] w fun e w' => e = .returned (.tuple #[.agg #[.int .i64 10, .string ⟨#[68, 101, 110, 115, 101, 51, 50]⟩, .int .i64 10, .int .i64 32, .int .i64 7, .int .i64 96, .int .i64 (-101), .int .i64 90, .int .i64 6, .bool true], .int .i64 0]) ∧ Below w.heap.size w w'
  go_enter Tryz.func21, Tryz.ntmps21
  go_wp2
  exact bodyPost_ret (v := .tuple #[.agg #[.int .i64 10, .string ⟨#[68, 101, 110, 115, 101, 51, 50]⟩, .int .i64 10, .int .i64 32, .int .i64 7, .int .i64 96, .int .i64 (-101), .int .i64 90, .int .i64 6, .bool true], .int .i64 0]) (by rw [results_cell_tmp rfl]; go_simp; rfl) rfl ⟨rfl, below2' _ _ _⟩
set_option maxHeartbeats 400000 in
theorem rof_11 (w : World) :
    Calls Tryz.prog 21 #[.int .i64 11] w fun e w' => e = .returned (.tuple #[.agg (infoV 11), .int .i64 0]) ∧ Below w.heap.size w w' := by
  show Calls Tryz.prog 21 #[.int .i64 11] w fun e w' => e = .returned (.tuple #[.agg #[.int .i64 11, .string ⟨#[68, 101, 110, 115, 101, 54, 52]⟩, .int .i64 10, .int .i64 64, .int .i64 16, .int .i64 384, .int .i64 (-398), .int .i64 369, .int .i64 15, .bool true], .int .i64 0]) ∧ Below w.heap.size w w'
  go_enter Tryz.func21, Tryz.ntmps21
  go_wp2
  exact bodyPost_ret (v := .tuple #[.agg #[.int .i64 11, .string ⟨#[68, 101, 110, 115, 101, 54, 52]⟩, .int .i64 10, .int .i64 64, .int .i64 16, .int .i64 384, .int .i64 (-398), .int .i64 369, .int .i64 15, .bool true], .int .i64 0]) (by rw [results_cell_tmp rfl]; go_simp; rfl) rfl ⟨rfl, below2' _ _ _⟩
set_option maxHeartbeats 400000 in
theorem rof_12 (w : World) :
    Calls Tryz.prog 21 #[.int .i64 12] w fun e w' => e = .returned (.tuple #[.agg (infoV 12), .int .i64 0]) ∧ Below w.heap.size w w' := by
  show Calls Tryz.prog 21 #[.int .i64 12] w fun e w' => e = .returned (.tuple #[.agg #[.int .i64 12, .string ⟨#[68, 101, 110, 115, 101, 49, 50, 56]⟩, .int .i64 10, .int .i64 128, .int .i64 34, .int .i64 6144, .int .i64 (-6176), .int .i64 6111, .int .i64 33, .bool true], .int .i64 0]) ∧ Below w.heap.size w w'
  go_enter Tryz.func21, Tryz.ntmps21
  go_wp2
  exact bodyPost_ret (v := .tuple #[.agg #[.int .i64 12, .string ⟨#[68, 101, 110, 115, 101, 49, 50, 56]⟩, .int .i64 10, .int .i64 128, .int .i64 34, .int .i64 6144, .int .i64 (-6176), .int .i64 6111, .int .i64 33, .bool true], .int .i64 0]) (by rw [results_cell_tmp rfl]; go_simp; rfl) rfl ⟨rfl, below2' _ _ _⟩
set_option maxHeartbeats 400000 in
theorem rof_none (n : Int) (w : World) (h : ¬ okN n) :
    Calls Tryz.prog 21 #[.int .i64 n] w fun e w' => e = .returned (.tuple #[.agg (infoV n), .int .i64 1]) ∧ Below w.heap.size w w' := by
  rw [infoV_none h]
  have e1 : (n == 1) = false := by unfold okN at h; simp only [beq_eq_false_iff_ne, ne_eq]; omega
  have e2 : (n == 2) = false := by unfold okN at h; simp only [beq_eq_false_iff_ne, ne_eq]; omega
  have e3 : (n == 3) = false := by unfold okN at h; simp only [beq_eq_false_iff_ne, ne_eq]; omega
  have e4 : (n == 4) = false := by unfold okN at h; simp only [beq_eq_false_iff_ne, ne_eq]; omega
  have e5 : (n == 5) = false := by unfold okN at h; simp only [beq_eq_false_iff_ne, ne_eq]; omega
  have e6 : (n == 6) = false := by unfold okN at h; simp only [beq_eq_false_iff_ne, ne_eq]; omega
  have e7 : (n == 7) = false := by unfold okN at h; simp only [beq_eq_false_iff_ne, ne_eq]; omega
  have e8 : (n == 8) = false := by unfold okN at h; simp only [beq_eq_false_iff_ne, ne_eq]; omega
  have e9 : (n == 9) = false := by unfold okN at h; simp only [beq_eq_false_iff_ne, ne_eq]; omega
  have e10 : (n == 10) = false := by unfold okN at h; simp only [beq_eq_false_iff_ne, ne_eq]; omega
  have e11 : (n == 11) = false := by unfold okN at h; simp only [beq_eq_false_iff_ne, ne_eq]; omega
  have e12 : (n == 12) = false := by unfold okN at h; simp only [beq_eq_false_iff_ne, ne_eq]; omega
  clear h
  go_enter Tryz.func21, Tryz.ntmps21
  go_wp2
  exact bodyPost_ret (v := .tuple #[.agg #[.int .i64 0, .string ⟨#[]⟩, .int .i64 0, .int .i64 0, .int .i64 0, .int .i64 0, .int .i64 0, .int .i64 0, .int .i64 0, .bool false], .int .i64 1]) (by rw [results_cell_tmp rfl]; go_simp) rfl ⟨rfl, below2' _ _ _⟩
theorem rof_any (n : Int) (w : World) :
    Calls Tryz.prog 21 #[.int .i64 n] w fun e w' => e = .returned (.tuple #[.agg (infoV n), .int .i64 (infoE n)]) ∧ Below w.heap.size w w' := by
  by_cases h : okN n
  · rcases okN_cases h with rfl | rfl | rfl | rfl | rfl | rfl | rfl | rfl | rfl | rfl | rfl | rfl
    · exact rof_1 w
    · exact rof_2 w
    · exact rof_3 w
    · exact rof_4 w
    · exact rof_5 w
    · exact rof_6 w
    · exact rof_7 w
    · exact rof_8 w
    · exact rof_9 w
    · exact rof_10 w
    · exact rof_11 w
    · exact rof_12 w
  · unfold infoE; rw [if_neg h]; exact rof_none n w h
end
section
def numN (n : Int) : Int := if okN n then n else 0
def baseN : Int → Int
  | 1 => 2
  | 2 => 2
  | 3 => 2
  | 4 => 2
  | 5 => 2
  | 6 => 2
  | 7 => 10
  | 8 => 10
  | 9 => 10
  | 10 => 10
  | 11 => 10
  | 12 => 10
  | _ => 0
def widthN : Int → Int
  | 1 => 16
  | 2 => 16
  | 3 => 32
  | 4 => 64
  | 5 => 128
  | 6 => 256
  | 7 => 32
  | 8 => 64
  | 9 => 128
  | 10 => 32
  | 11 => 64
  | 12 => 128
  | _ => 0
def precN : Int → Int
  | 1 => 11
  | 2 => 8
  | 3 => 24
  | 4 => 53
  | 5 => 113
  | 6 => 241
  | 7 => 7
  | 8 => 16
  | 9 => 34
  | 10 => 7
  | 11 => 16
  | 12 => 34
  | _ => 0
def expN : Int → Int
  | 1 => 5
  | 2 => 8
  | 3 => 8
  | 4 => 11
  | 5 => 15
  | 6 => 15
  | 7 => 96
  | 8 => 384
  | 9 => 6144
  | 10 => 96
  | 11 => 384
  | 12 => 6144
  | _ => 0
def leastN : Int → Int
  | 1 => -24
  | 2 => -133
  | 3 => -149
  | 4 => -1074
  | 5 => -16494
  | 6 => -16622
  | 7 => -101
  | 8 => -398
  | 9 => -6176
  | 10 => -101
  | 11 => -398
  | 12 => -6176
  | _ => 0
def mostN : Int → Int
  | 1 => 5
  | 2 => 120
  | 3 => 104
  | 4 => 971
  | 5 => 16271
  | 6 => 16143
  | 7 => 90
  | 8 => 369
  | 9 => 6111
  | 10 => 90
  | 11 => 369
  | 12 => 6111
  | _ => 0
def payN : Int → Int
  | 1 => 9
  | 2 => 6
  | 3 => 22
  | 4 => 51
  | 5 => 111
  | 6 => 239
  | 7 => 6
  | 8 => 15
  | 9 => 33
  | 10 => 6
  | 11 => 15
  | 12 => 33
  | _ => 0
def denseN (n : Int) : Bool := decide (10 ≤ n ∧ n ≤ 12)
def nameN : Int → ByteArray
  | 1 => ⟨#[72, 97, 108, 102]⟩
  | 2 => ⟨#[66, 114, 97, 105, 110]⟩
  | 3 => ⟨#[83, 105, 110, 103, 108, 101]⟩
  | 4 => ⟨#[68, 111, 117, 98, 108, 101]⟩
  | 5 => ⟨#[81, 117, 97, 100]⟩
  | 6 => ⟨#[79, 99, 116, 111]⟩
  | 7 => ⟨#[80, 108, 97, 105, 110, 51, 50]⟩
  | 8 => ⟨#[80, 108, 97, 105, 110, 54, 52]⟩
  | 9 => ⟨#[80, 108, 97, 105, 110, 49, 50, 56]⟩
  | 10 => ⟨#[68, 101, 110, 115, 101, 51, 50]⟩
  | 11 => ⟨#[68, 101, 110, 115, 101, 54, 52]⟩
  | 12 => ⟨#[68, 101, 110, 115, 101, 49, 50, 56]⟩
  | _ => ⟨#[]⟩
theorem fields_none {n : Int} (h : ¬ okN n) : numN n = 0 ∧ nameN n = ⟨#[]⟩ ∧ baseN n = 0 ∧ widthN n = 0 ∧ precN n = 0 ∧ expN n = 0 ∧ leastN n = 0 ∧ mostN n = 0 ∧ payN n = 0 ∧ denseN n = false := by
  refine ⟨if_neg h, ?_, ?_, ?_, ?_, ?_, ?_, ?_, ?_, ?_⟩
  · unfold nameN okN at *; split <;> first | rfl | omega
  · unfold baseN okN at *; split <;> first | rfl | omega
  · unfold widthN okN at *; split <;> first | rfl | omega
  · unfold precN okN at *; split <;> first | rfl | omega
  · unfold expN okN at *; split <;> first | rfl | omega
  · unfold leastN okN at *; split <;> first | rfl | omega
  · unfold mostN okN at *; split <;> first | rfl | omega
  · unfold payN okN at *; split <;> first | rfl | omega
  · unfold denseN okN at *; simp only [decide_eq_false_iff_not]; omega
theorem infoV_eq (n : Int) : infoV n = #[.int .i64 (numN n), .string (nameN n), .int .i64 (baseN n), .int .i64 (widthN n), .int .i64 (precN n), .int .i64 (expN n), .int .i64 (leastN n), .int .i64 (mostN n), .int .i64 (payN n), .bool (denseN n)] := by
  by_cases h : okN n
  · rcases okN_cases h with rfl | rfl | rfl | rfl | rfl | rfl | rfl | rfl | rfl | rfl | rfl | rfl <;> rfl
  · obtain ⟨h0, h1, h2, h3, h4, h5, h6, h7, h8, h9⟩ := fields_none h
    rw [infoV_none h, h0, h1, h2, h3, h4, h5, h6, h7, h8, h9]
/-- what is between what bounds -/
theorem fields_bounds (n : Int) : (0 ≤ baseN n ∧ baseN n ≤ 10) ∧ (0 ≤ widthN n ∧ widthN n ≤ 256) ∧ (0 ≤ precN n ∧ precN n ≤ 241) ∧ (-17000 ≤ leastN n ∧ leastN n ≤ 0) ∧ (0 ≤ mostN n ∧ mostN n ≤ 17000) := by
  by_cases h : okN n
  · rcases okN_cases h with rfl | rfl | rfl | rfl | rfl | rfl | rfl | rfl | rfl | rfl | rfl | rfl <;> decide
  · obtain ⟨h0, h1, h2, h3, h4, h5, h6, h7, h8, h9⟩ := fields_none h
    rw [h2, h3, h4, h6, h7]; decide
theorem ofv_any (n : Int) (w : World) (hT : Tab w) :
    Calls Tryz.prog 34 #[.int .i64 n] w fun e w' => e = .returned (.tuple #[.agg #[.int .i64 (numN n), .string (nameN n), .int .i64 (baseN n), .int .i64 (widthN n), .int .i64 (precN n), .int .i64 (expN n), .int .i64 (leastN n), .int .i64 (mostN n), .int .i64 (payN n), .bool (denseN n)], .int .i64 (infoE n)]) ∧ Below w.heap.size w w' :=
  infoV_eq n ▸ dof_any n w hT
theorem rofv_any (n : Int) (w : World) :
    Calls Tryz.prog 21 #[.int .i64 n] w fun e w' => e = .returned (.tuple #[.agg #[.int .i64 (numN n), .string (nameN n), .int .i64 (baseN n), .int .i64 (widthN n), .int .i64 (precN n), .int .i64 (expN n), .int .i64 (leastN n), .int .i64 (mostN n), .int .i64 (payN n), .bool (denseN n)], .int .i64 (infoE n)]) ∧ Below w.heap.size w w' :=
  infoV_eq n ▸ rof_any n w
set_option maxHeartbeats 400000 in
def holdsP (f g : Int) : Prop := okN f ∧ okN g ∧ baseN f = baseN g ∧ precN f ≤ precN g ∧ leastN g ≤ leastN f ∧ mostN f + precN f ≤ mostN g + precN g
instance (f g : Int) : Decidable (holdsP f g) := inferInstanceAs (Decidable (_ ∧ _))
end
section
section
variable {P : Program} {ops : Array Oper} {Q : Exit → Act → World → Prop} {md : Region.Mode}

/-- how many of the first n are still to come -/
def toCome (listed : Array Bool) : Nat → Nat
  | 0 => 0
  | n + 1 => toCome listed n + (if listed.getD n true then 0 else 1)
theorem toCome_out {listed : Array Bool} {i : Nat} : ∀ n, n ≤ i → toCome (listed.setIfInBounds i true) n = toCome listed n
  | 0, _ => rfl
  | n + 1, h => by unfold toCome; rw [toCome_out n (by omega), getD_set_ne true (by omega)]
theorem toCome_set {listed : Array Bool} {i : Nat} (hu : listed.getD i true = false) : ∀ n, i < n → toCome (listed.setIfInBounds i true) n + 1 = toCome listed n
  | 0, h => by omega
  | n + 1, h => by
    unfold toCome
    by_cases e : i = n
    · subst e
      have hlt : i < listed.size := by
        rcases Nat.lt_or_ge i listed.size with h' | h'
        · exact h'
        · simp [Array.getElem?_eq_none h'] at hu
      rw [toCome_out i (Nat.le_refl _), hu]
      simp [hlt]
    · rw [getD_set_ne true e]
      have := toCome_set hu n (by omega)
      omega
theorem toCome_zero {listed : Array Bool} : ∀ n, toCome listed n = 0 → ∀ i, i < n → listed.getD i true = true
  | 0, _, i, h => by omega
  | n + 1, h, i, hi => by
    unfold toCome at h
    by_cases e : i = n
    · subst e
      by_cases hl : listed.getD i true = true
      · exact hl
      · rw [if_neg hl] at h; omega
    · exact toCome_zero n (by omega) i (by omega)
theorem toCome_least {listed : Array Bool} : ∀ n, 0 < toCome listed n → ∃ i, i < n ∧ listed.getD i true = false ∧ ∀ j, j < i → listed.getD j true = true
  | 0, h => by simp [toCome] at h
  | n + 1, h => by
    by_cases h0 : 0 < toCome listed n
    · obtain ⟨i, h1, h2, h3⟩ := toCome_least n h0
      exact ⟨i, by omega, h2, h3⟩
    · unfold toCome at h
      have hz := toCome_zero (listed := listed) n (by omega)
      refine ⟨n, by omega, ?_, fun j hj => hz j hj⟩
      cases hl : listed.getD n true with
      | false => rfl
      | true => rw [hl, if_pos rfl] at h; omega

/-- of the first n each waits for earlier ones alone -/
def backB (md : Region.Mode) (ops : Array Oper) (n : Nat) : Bool :=
  (List.range n).all fun i => match ops[i]? with
    | some o => o.after.all fun e => !Region.binds md e || decide (e.on < i)
    | none => false
theorem backB_spec {n : Nat} (h : backB md ops n = true) (i : Nat) (hi : i < n) : ∃ o, ops[i]? = some o ∧ ∀ e ∈ o.after, Region.binds md e = true → e.on < i := by
  have h1 := List.all_eq_true.1 h i (List.mem_range.2 hi)
  cases ho : ops[i]? with
  | none => simp only [ho] at h1; cases h1
  | some o =>
    simp only [ho] at h1
    refine ⟨o, rfl, fun e he hb => ?_⟩
    have h2 := Array.all_eq_true_iff_forall_mem.1 h1 e he
    simpa [hb] using h2

theorem getD_true_in {listed : Array Bool} {i : Nat} (hi : i < listed.size) (h : listed.getD i true = true) : listed.getD i false = true := by
  simp [hi] at h ⊢; exact h

/-- what stands when the first n are done -/
def headDone (n m : Nat) : Array Bool := (List.replicate n true ++ List.replicate (m - n) false).toArray

theorem headDone_eq {n : Nat} {listed : Array Bool} (hn : n ≤ ops.size) (inv : HeadInv md ops n listed) (h : ∀ i, i < n → listed.getD i true = true) : listed = headDone n ops.size := by
  apply Array.ext
  · simp [headDone, inv.size]; omega
  · intro i h1 h2
    by_cases hi : i < n
    · have := h i hi
      simp [h1] at this
      rw [this]
      simp [headDone, List.getElem_append, hi]
    · have := inv.tail i (by omega) (by rw [← inv.size]; exact h1)
      simp [h1] at this
      rw [this]
      simp [headDone, List.getElem_append, hi]

theorem wpAny_inv {n : Nat} {B : Act → World → Prop} {R : Nat → Act → World → Prop} {tail : List Oper} (hs : Region.sinkB md ops n = true) (hc : Region.chainB md ops n = true) (hn : n < ops.size) (hb : backB md ops n = true)
    (htl : ∀ j, tail[j]? = ops[n + j]?) (hseq : Region.seqB md ops tail.length n (headDone n ops.size) = true)
    (hstep : ∀ i o a w, i < n → ops[i]? = some o → B a w → (∀ e ∈ o.after, Region.binds md e = true → R e.on a w) → wpOp P ops Q i (fun a' w' => B a' w' ∧ R i a' w' ∧ ∀ j, j < n → j ≠ i → R j a w → R j a' w') a w)
    (hend : ∀ a w, B a w → (∀ i, i < n → R i a w) → wpList P ops Q tail a w) :
    ∀ (f : Nat) (listed : Array Bool) (a : Act) (w : World), HeadInv md ops n listed → toCome listed n = f → B a w → (∀ i, i < n → listed.getD i false = true → R i a w) → wpAny P md ops Q (f + tail.length) listed a w
  | 0, listed, a, w, inv, hf, hB, hR => by
    have hz := toCome_zero n hf
    have he := headDone_eq (Nat.le_of_lt hn) inv hz
    have hw := hend a w hB fun i hi => hR i hi (getD_true_in (by rw [inv.size]; omega) (hz i hi))
    rw [Nat.zero_add, he]
    exact wpAny_of_seq tail n _ a w htl hseq hw
  | f + 1, listed, a, w, inv, hf, hB, hR => by
    obtain ⟨k, hk, hku, hkl⟩ := toCome_least (listed := listed) n (by omega)
    rw [show f + 1 + tail.length = (f + tail.length) + 1 by omega]
    refine ⟨fun h0 => ?_, fun i hi => ?_⟩
    · obtain ⟨o, ho, hlt⟩ := backB_spec hb k hk
      have : k ∈ Region.ready md ops listed := mem_ready.2 ⟨hku, o, ho, fun e he hbd => by
        have := hlt e he hbd
        exact getD_true_in (by rw [inv.size]; omega) (hkl _ this)⟩
      rw [h0] at this; cases this
    · have hin : i < n := by
        rcases Nat.lt_or_ge i n with h | h
        · exact h
        · exact absurd hi (tail_waits hs hc hn inv _ k rfl hk hku i h)
      obtain ⟨hu, o, ho, hall⟩ := mem_ready.1 hi
      obtain ⟨o', ho', hlt⟩ := backB_spec hb i hin
      have : o' = o := Option.some.inj (ho'.symm.trans ho)
      subst this
      refine wpOp_mono (fun a' w' h3 => ?_) (hstep i o' a w hin ho hB fun e he hbd => hR _ (by have := hlt e he hbd; omega) (hall e he hbd))
      refine wpAny_inv hs hc hn hb htl hseq hstep hend f _ a' w' (inv.set hi hin) (by have := toCome_set hu n hin; omega) h3.1 fun j hj hl => ?_
      by_cases e : j = i
      · subst e; exact h3.2.1
      · rw [getD_set_ne false (fun h => e h.symm)] at hl
        exact h3.2.2 j hj e (hR j hj hl)

theorem toCome_replicate (m : Nat) : ∀ n, n ≤ m → toCome (Array.replicate m false) n = n
  | 0, _ => rfl
  | n + 1, h => by unfold toCome; rw [toCome_replicate m n (by omega)]; simp [show n < m by omega]

/-- all the checks of a region in one -/
def invB (md : Region.Mode) (ops : Array Oper) (n : Nat) : Bool :=
  Region.sinkB md ops n && Region.chainB md ops n && decide (n < ops.size) && backB md ops n && Region.seqB md ops (ops.size - n) n (headDone n ops.size)

theorem wp_region_inv (n : Nat) (B : Act → World → Prop) (R : Nat → Act → World → Prop) {id : Nat} {l : List Oper} {a : Act} {w : World} (hm : P.follows .mixedOrders = true) (hI : invB .any l.toArray n = true)
    (h0 : B a w.drew)
    (hstep : ∀ i o a w, i < n → l[i]? = some o → B a w → (∀ e ∈ o.after, Region.binds .any e = true → R e.on a w) → wpOp P l.toArray Q i (fun a' w' => B a' w' ∧ R i a' w' ∧ ∀ j, j < n → j ≠ i → R j a w → R j a' w') a w)
    (hend : ∀ a w, B a w → (∀ i, i < n → R i a w) → wpList P l.toArray Q (l.drop n) a w) : (Code.region id l.toArray true).wp P Q a w := by
  simp only [invB, Bool.and_eq_true, decide_eq_true_eq] at hI
  obtain ⟨⟨⟨⟨hs, hc⟩, hn⟩, hb⟩, hseq⟩ := hI
  have hdl : (l.drop n).length = l.toArray.size - n := by simp
  refine wp_region_any hm ?_
  have H := wpAny_inv (P := P) (Q := Q) (md := .any) (ops := l.toArray) (n := n) (B := B) (R := R) (tail := l.drop n) hs hc hn hb (fun j => by simp [List.getElem?_drop]) (by rw [hdl]; exact hseq)
    (fun i o a w hi ho => hstep i o a w hi (by simpa using ho)) hend n (Array.replicate l.toArray.size false) a w.drew
    ⟨by simp, fun j oj _ hl => (by rw [getD_replicate_false] at hl; cases hl), fun t _ ht => getD_in (by simpa using ht) (getD_replicate_false _ _)⟩
    (toCome_replicate _ n (Nat.le_of_lt hn)) h0 (fun i hi hl => by rw [getD_replicate_false] at hl; cases hl)
  rw [hdl, show n + (l.toArray.size - n) = l.toArray.size by omega] at H
  exact H

/-- what slot t of a frame holds -/
abbrev slot (a : Act) (t : Nat) : Value := a.tmps[t]?.getD undef
theorem slot_put_ne {a : Act} {d t : Nat} {v : Value} (h : d ≠ t) : slot (a.put (some d) v) t = slot a t := by
  simp [slot, Act.put, Array.getElem?_setIfInBounds_ne h]
theorem slot_put {a : Act} {d : Nat} {v : Value} (h : d < a.tmps.size) : slot (a.put (some d) v) d = v := by
  simp [slot, Act.put, h]

/-- what is said of a value stays, whatever memory is made -/
def Stays (p : Value → World → Prop) : Prop := ∀ v w w', p v w → Below w.heap.size w w' → p v w'

/-- each of the first n writes a slot of its own -/
def dstG (l : List Oper) (D : List Nat) (n m : Nat) : Bool :=
  (List.range n).all fun i => (match l[i]? with
    | some o => o.dst == some (D.getD i 0)
    | none => false) && decide (D.getD i 0 < m) && (List.range n).all fun j => j == i || D.getD j 0 != D.getD i 0
theorem dstG_spec {l : List Oper} {D : List Nat} {n m : Nat} (h : dstG l D n m = true) (i : Nat) (hi : i < n) :
    ∃ o, l[i]? = some o ∧ o.dst = some (D.getD i 0) ∧ D.getD i 0 < m ∧ ∀ j, j < n → j ≠ i → D.getD j 0 ≠ D.getD i 0 := by
  have h1 := List.all_eq_true.1 h i (List.mem_range.2 hi)
  cases ho : l[i]? with
  | none => simp [ho] at h1
  | some o =>
    simp only [ho, Bool.and_eq_true, decide_eq_true_eq, beq_iff_eq, List.all_eq_true, Bool.or_eq_true, bne_iff_ne, List.mem_range] at h1
    exact ⟨o, rfl, h1.1.1, h1.1.2, fun j hj hne => (h1.2 j hj).resolve_left hne⟩
/-- what an operation's guard looks at is done ahead of it -/
def gdB (l : List Oper) (n : Nat) : Bool :=
  (List.range n).all fun i => match l[i]? with
    | some o => match o.guard with
      | none => true
      | some (j, _) => decide (j < n) && o.after.any fun e => Region.binds .any e && e.on == j
    | none => false
theorem gdB_spec {l : List Oper} {n : Nat} (h : gdB l n = true) (i : Nat) (hi : i < n) (o : Oper) (ho : l[i]? = some o) (j : Nat) (b : Bool) (hg : o.guard = some (j, b)) :
    j < n ∧ ∃ e ∈ o.after, Region.binds .any e = true ∧ e.on = j := by
  have h1 := List.all_eq_true.1 h i (List.mem_range.2 hi)
  simp only [ho, hg, Bool.and_eq_true, decide_eq_true_eq, Array.any_eq_true', beq_iff_eq] at h1
  obtain ⟨h1, e, he, h2, h3⟩ := h1
  exact ⟨h1, e, he, h2, h3⟩

/-- wp_region_vals, with guards that are known to be met -/
theorem wp_region_gvals (n m : Nat) (D : List Nat) (S : List (Value → World → Prop)) (C : World → Prop) {id : Nat} {l : List Oper} {a0 : Act} {w0 : World} (hm : P.follows .mixedOrders = true) (hI : invB .any l.toArray n = true) (hD : dstG l D n m = true) (hGd : gdB l n = true)
    (hsz : a0.tmps.size = m) (hS : ∀ p ∈ S, Stays p) (hC0 : C w0.drew) (hCn : ∀ w w', C w → Below w.heap.size w w' → C w')
    (hGv : ∀ i o j b, i < n → l[i]? = some o → o.guard = some (j, b) → ∀ v w, (S.getD j fun _ _ => True) v w → v = .bool b)
    (hstep : ∀ i o a w, i < n → l[i]? = some o → C w → (∀ t, (∀ i, i < n → D.getD i 0 ≠ t) → slot a t = slot a0 t) → (∀ e ∈ o.after, Region.binds .any e = true → (S.getD e.on fun _ _ => True) (slot a (D.getD e.on 0)) w) →
      o.wp P a w (fun a' w' => ∃ v, a' = a.put o.dst v ∧ (S.getD i fun _ _ => True) v w' ∧ Below w.heap.size w w') Q)
    (hend : ∀ a w, C w → a.tmps.size = m → a.defers = a0.defers → (∀ t, (∀ i, i < n → D.getD i 0 ≠ t) → slot a t = slot a0 t) → (∀ i, i < n → (S.getD i fun _ _ => True) (slot a (D.getD i 0)) w) → wpList P l.toArray Q (l.drop n) a w) :
    (Code.region id l.toArray true).wp P Q a0 w0 := by
  have hSt : ∀ i, Stays (S.getD i fun _ _ => True) := by
    intro i
    rcases Nat.lt_or_ge i S.length with h | h
    · rw [List.getD_eq_getElem?_getD, List.getElem?_eq_getElem h]; exact hS _ (List.getElem_mem h)
    · rw [List.getD_eq_getElem?_getD, List.getElem?_eq_none h]; exact fun _ _ _ _ _ => trivial
  refine wp_region_inv n (fun a w => C w ∧ a.tmps.size = m ∧ a.defers = a0.defers ∧ ∀ t, (∀ i, i < n → D.getD i 0 ≠ t) → slot a t = slot a0 t)
    (fun i a w => (S.getD i fun _ _ => True) (slot a (D.getD i 0)) w) hm hI ⟨hC0, hsz, rfl, fun _ _ => rfl⟩ ?_ (fun a w h hR => hend a w h.1 h.2.1 h.2.2.1 h.2.2.2 hR)
  intro i o a w hi ho hB hR
  obtain ⟨o', ho2, hd, hlt, hne⟩ := dstG_spec hD i hi
  have eo : o' = o := Option.some.inj (ho2.symm.trans ho)
  subst eo
  have hw := hstep i o' a w hi ho hB.1 hB.2.2.2 hR
  unfold wpOp
  have ho' : l.toArray[i]? = some o' := by simpa using ho
  simp only [ho']
  have hwant : Region.wanted o' (yielded l.toArray a.tmps) = true := by
    unfold Region.wanted
    cases hg : o'.guard with
    | none => rfl
    | some q =>
      obtain ⟨j, b⟩ := q
      obtain ⟨hj, e, he, hbd, hej⟩ := gdB_spec hGd i hi o' ho j b hg
      have hv := hR e he hbd
      rw [hej] at hv
      have hv2 := hGv i o' j b hi ho hg _ _ hv
      obtain ⟨oj, hoj, hdj, hltj, _⟩ := dstG_spec hD j hj
      have hoj' : l.toArray[j]? = some oj := by simpa using hoj
      have hs : D.getD j 0 < a.tmps.size := by rw [hB.2.1]; exact hltj
      have ht : a.tmps[D.getD j 0]? = some (.bool b) := by
        have h5 : a.tmps[D.getD j 0]? = some a.tmps[D.getD j 0] := Array.getElem?_eq_getElem hs
        have h6 : slot a (D.getD j 0) = a.tmps[D.getD j 0] := by unfold slot; rw [h5]; rfl
        rw [h5, ← h6, hv2]
      have hy : yielded l.toArray a.tmps j = some b := by
        unfold yielded
        simp only [hoj', Option.bind_some, hdj, ht]
      simp [hy]
  rw [if_pos hwant]
  refine Or.inl (Oper.wp_mono ?_ hw)
  rintro a' w' ⟨v, rfl, hv, hb⟩
  rw [hd]
  refine ⟨⟨hCn _ _ hB.1 hb, by simp [Act.put, hB.2.1], hB.2.2.1, fun t ht => ?_⟩, ?_, fun j hj hji hRj => ?_⟩
  · rw [slot_put_ne (ht i hi)]; exact hB.2.2.2 t ht
  · show (S.getD i fun _ _ => True) (slot (a.put (some (D.getD i 0)) v) (D.getD i 0)) w'
    rw [slot_put (by rw [hB.2.1]; exact hlt)]; exact hv
  · show (S.getD j fun _ _ => True) (slot (a.put (some (D.getD i 0)) v) (D.getD j 0)) w'
    rw [slot_put_ne (fun h => hne j hj hji h.symm)]
    exact hSt j _ _ _ hRj hb
end
end
section
section
variable {P : Program} {ops : Array Oper} {Q : Exit → Act → World → Prop} {md : Region.Mode}
/-- this value -/
def isV (u : Value) : Value → World → Prop := fun v _ => v = u
theorem isV.stays (u : Value) : Stays (isV u) := fun v w w' h _ => h
end
end
section
section
variable {P : Program} {ops : Array Oper} {Q : Exit → Act → World → Prop} {md : Region.Mode}
theorem listed_set {listed : Array Bool} {i : Nat} (hi : i < listed.size) : (fun j => (listed.setIfInBounds i true).getD j false = true) = (fun j => listed.getD j false = true ∨ j = i) := by
  funext j
  apply propext
  by_cases e : j = i
  · subst e
    simp [hi]
  · rw [getD_set_ne false (fun h => e h.symm)]
    simp [e]
/-- 'B L a w': what stands where just the operations of L are done -/
theorem wpAny_inv3 {n : Nat} {B : (Nat → Prop) → Act → World → Prop} {tail : List Oper} (hs : Region.sinkB md ops n = true) (hc : Region.chainB md ops n = true) (hn : n < ops.size) (hb : backB md ops n = true)
    (htl : ∀ j, tail[j]? = ops[n + j]?) (hseq : Region.seqB md ops tail.length n (headDone n ops.size) = true)
    (hstep : ∀ (L : Nat → Prop) i o a w, i < n → ops[i]? = some o → ¬ L i → (∀ j oj, ops[j]? = some oj → L j → ∀ e ∈ oj.after, Region.binds md e = true → L e.on) → (∀ e ∈ o.after, Region.binds md e = true → L e.on) → B L a w → wpOp P ops Q i (fun a' w' => B (fun j => L j ∨ j = i) a' w') a w)
    (hend : ∀ (L : Nat → Prop) a w, (∀ i, i < n → L i) → B L a w → wpList P ops Q tail a w) :
    ∀ (f : Nat) (listed : Array Bool) (a : Act) (w : World), HeadInv md ops n listed → toCome listed n = f → B (fun j => listed.getD j false = true) a w → wpAny P md ops Q (f + tail.length) listed a w
  | 0, listed, a, w, inv, hf, hB => by
    have hz := toCome_zero n hf
    have he := headDone_eq (Nat.le_of_lt hn) inv hz
    have hw := hend _ a w (fun i hi => getD_true_in (by rw [inv.size]; omega) (hz i hi)) hB
    rw [Nat.zero_add, he]
    exact wpAny_of_seq tail n _ a w htl hseq hw
  | f + 1, listed, a, w, inv, hf, hB => by
    obtain ⟨k, hk, hku, hkl⟩ := toCome_least (listed := listed) n (by omega)
    rw [show f + 1 + tail.length = (f + tail.length) + 1 by omega]
    refine ⟨fun h0 => ?_, fun i hi => ?_⟩
    · obtain ⟨o, ho, hlt⟩ := backB_spec hb k hk
      have : k ∈ Region.ready md ops listed := mem_ready.2 ⟨hku, o, ho, fun e he hbd => by
        have := hlt e he hbd
        exact getD_true_in (by rw [inv.size]; omega) (hkl _ this)⟩
      rw [h0] at this; cases this
    · have hin : i < n := by
        rcases Nat.lt_or_ge i n with h | h
        · exact h
        · exact absurd hi (tail_waits hs hc hn inv _ k rfl hk hku i h)
      obtain ⟨hu, o, ho, hall⟩ := mem_ready.1 hi
      refine wpOp_mono (fun a' w' h3 => ?_) (hstep (fun j => listed.getD j false = true) i o a w hin ho (by show ¬ (listed.getD i false = true); rw [getD_both hu]; decide) inv.closed hall hB)
      refine wpAny_inv3 hs hc hn hb htl hseq hstep hend f _ a' w' (inv.set hi hin) (by have := toCome_set hu n hin; omega) ?_
      rw [listed_set (by rw [inv.size]; omega)]
      exact h3
theorem wp_region_inv3 (n : Nat) (B : (Nat → Prop) → Act → World → Prop) {id : Nat} {l : List Oper} {a : Act} {w : World} (hm : P.follows .mixedOrders = true) (hI : invB .any l.toArray n = true)
    (h0 : B (fun _ => False) a w.drew)
    (hstep : ∀ (L : Nat → Prop) i o a w, i < n → l[i]? = some o → ¬ L i → (∀ j oj, l[j]? = some oj → L j → ∀ e ∈ oj.after, Region.binds .any e = true → L e.on) → (∀ e ∈ o.after, Region.binds .any e = true → L e.on) → B L a w → wpOp P l.toArray Q i (fun a' w' => B (fun j => L j ∨ j = i) a' w') a w)
    (hend : ∀ (L : Nat → Prop) a w, (∀ i, i < n → L i) → B L a w → wpList P l.toArray Q (l.drop n) a w) : (Code.region id l.toArray true).wp P Q a w := by
  simp only [invB, Bool.and_eq_true, decide_eq_true_eq] at hI
  obtain ⟨⟨⟨⟨hs, hc⟩, hn⟩, hb⟩, hseq⟩ := hI
  have hdl : (l.drop n).length = l.toArray.size - n := by simp
  refine wp_region_any hm ?_
  have hf0 : (fun j => (Array.replicate l.toArray.size false).getD j false = true) = fun _ => False := by
    funext j
    rw [getD_replicate_false]
    simp
  have H := wpAny_inv3 (P := P) (Q := Q) (md := .any) (ops := l.toArray) (n := n) (B := B) (tail := l.drop n) hs hc hn hb (fun j => by simp [List.getElem?_drop]) (by rw [hdl]; exact hseq)
    (fun L i o a w hi ho hL hcl he hB => hstep L i o a w hi (by simpa using ho) hL (fun j oj hj => hcl j oj (by simpa using hj)) he hB) hend n (Array.replicate l.toArray.size false) a w.drew
    ⟨by simp, fun j oj _ hl => (by rw [getD_replicate_false] at hl; cases hl), fun t _ ht => getD_in (by simpa using ht) (getD_replicate_false _ _)⟩
    (toCome_replicate _ n (by simpa using Nat.le_of_lt hn)) (by rw [hf0]; exact h0)
  rw [hdl] at H
  have : n + (l.toArray.size - n) = l.toArray.size := by omega
  rw [this] at H
  exact H
end
end
section
section
variable {P : Program} {Q : Exit → Act → World → Prop}
/-- the operation j writes its slot -/
def wrS (l : List Oper) (D : List Nat) (j : Nat) : Prop := (l[j]?).bind Oper.dst = some (D.getD j 0)
end
end
section
section
variable {P : Program} {Q : Exit → Act → World → Prop}
/-- each of the first n writes a slot of its own, or none -/
def dstE (l : List Oper) (D : List Nat) (n m : Nat) : Bool :=
  (List.range n).all fun i => (match l[i]? with
    | some o => (o.dst == none || (o.dst == some (D.getD i 0) && decide (D.getD i 0 < m)))
    | none => false) && (List.range n).all fun j => j == i || D.getD j 0 != D.getD i 0
theorem dstE_spec {l : List Oper} {D : List Nat} {n m : Nat} (h : dstE l D n m = true) (i : Nat) (hi : i < n) (o : Oper) (ho : l[i]? = some o) :
    (o.dst = none ∨ (o.dst = some (D.getD i 0) ∧ D.getD i 0 < m)) ∧ ∀ j, j < n → j ≠ i → D.getD j 0 ≠ D.getD i 0 := by
  have h1 := List.all_eq_true.1 h i (List.mem_range.2 hi)
  simp only [ho, Bool.and_eq_true, decide_eq_true_eq, beq_iff_eq, List.all_eq_true, Bool.or_eq_true, bne_iff_ne, List.mem_range] at h1
  exact ⟨h1.1, fun j hj hne => (h1.2 j hj).resolve_left hne⟩
/-- which of the first n are run (G), by their guards, whose values (V) are known -/
def gdE (l : List Oper) (D : List Nat) (n : Nat) (G : List Bool) (V : List (Option Bool)) : Bool :=
  (List.range n).all fun i => match l[i]? with
    | none => false
    | some o => match o.guard with
      | none => G.getD i true
      | some (j, b) => decide (j < n) && ((l[j]?).bind Oper.dst == some (D.getD j 0)) && (o.after.toList.any fun e => e.on == j && Region.binds .any e) && (match V.getD j none with | some c => G.getD i true == (c == b) | none => false)
theorem gdE_none {l : List Oper} {D : List Nat} {n : Nat} {G : List Bool} {V : List (Option Bool)} (h : gdE l D n G V = true) (i : Nat) (hi : i < n) (o : Oper) (ho : l[i]? = some o) (hg : o.guard = none) : G.getD i true = true := by
  have h1 := List.all_eq_true.1 h i (List.mem_range.2 hi)
  simp only [ho, hg] at h1
  exact h1
theorem gdE_some {l : List Oper} {D : List Nat} {n : Nat} {G : List Bool} {V : List (Option Bool)} (h : gdE l D n G V = true) (i : Nat) (hi : i < n) (o : Oper) (ho : l[i]? = some o) (j : Nat) (b : Bool) (hg : o.guard = some (j, b)) :
    j < n ∧ (l[j]?).bind Oper.dst = some (D.getD j 0) ∧ (∃ e ∈ o.after, e.on = j ∧ Region.binds .any e = true) ∧ ∃ c, V.getD j none = some c ∧ G.getD i true = (c == b) := by
  have h1 := List.all_eq_true.1 h i (List.mem_range.2 hi)
  simp only [ho, hg, Bool.and_eq_true, decide_eq_true_eq, beq_iff_eq, List.any_eq_true] at h1
  obtain ⟨⟨⟨h1, h2⟩, e, he, h3, h4⟩, h5⟩ := h1
  refine ⟨h1, h2, ⟨e, by simpa using he, h3, h4⟩, ?_⟩
  cases hv : V.getD j none with
  | none => rw [hv] at h5; cases h5
  | some c => rw [hv] at h5; exact ⟨c, rfl, by simpa using h5⟩
theorem wp_region_memg (n m : Nat) (D : List Nat) (S : List (Value → World → Prop)) (T : World → World → Prop) (M : (Nat → Prop) → (Nat → Value) → World → Prop) (G : List Bool) (V : List (Option Bool)) {id : Nat} {l : List Oper} {a0 : Act} {w0 : World} (hm : P.follows .mixedOrders = true) (hI : invB .any l.toArray n = true) (hD : dstE l D n m = true) (hG : gdE l D n G V = true)
    (hsz : a0.tmps.size = m) (hV : ∀ j c, j < n → V.getD j none = some c → ∀ v w, (S.getD j fun _ _ => True) v w → v = .bool c) (hT : ∀ w, T w w) (hS : ∀ p ∈ S, ∀ v w w', p v w → T w w' → p v w') (hSk : ∀ i, i < n → G.getD i true = false → ∀ v w, (S.getD i fun _ _ => True) v w) (hM0 : M (fun _ => False) (slot a0) w0.drew)
    (hskip : ∀ (L : Nat → Prop) i o a w, i < n → l[i]? = some o → G.getD i true = false → ¬ L i → M L (slot a) w → M (fun j => L j ∨ j = i) (fun t => if o.dst = some t then undef else slot a t) w)
    (hstep : ∀ (L : Nat → Prop) i o a w, i < n → l[i]? = some o → G.getD i true = true → ¬ L i → (∀ j oj, l[j]? = some oj → L j → ∀ e ∈ oj.after, Region.binds .any e = true → L e.on) → (∀ e ∈ o.after, Region.binds .any e = true → L e.on) → M L (slot a) w →
      (∀ t, (∀ i, i < n → D.getD i 0 ≠ t) → slot a t = slot a0 t) → (∀ j, j < n → wrS l D j → L j → (S.getD j fun _ _ => True) (slot a (D.getD j 0)) w) →
      o.wp P a w (fun a' w' => ∃ v, a' = a.put o.dst v ∧ (S.getD i fun _ _ => True) v w' ∧ T w w' ∧ M (fun j => L j ∨ j = i) (fun t => if o.dst = some t then v else slot a t) w') Q)
    (hend : ∀ (L : Nat → Prop) a w, (∀ i, i < n → L i) → M L (slot a) w → a.tmps.size = m → a.defers = a0.defers → (∀ t, (∀ i, i < n → D.getD i 0 ≠ t) → slot a t = slot a0 t) → (∀ i, i < n → wrS l D i → (S.getD i fun _ _ => True) (slot a (D.getD i 0)) w) → wpList P l.toArray Q (l.drop n) a w) :
    (Code.region id l.toArray true).wp P Q a0 w0 := by
  have hSt : ∀ i v w w', (S.getD i fun _ _ => True) v w → T w w' → (S.getD i fun _ _ => True) v w' := by
    intro i
    rcases Nat.lt_or_ge i S.length with h | h
    · rw [List.getD_eq_getElem?_getD, List.getElem?_eq_getElem h]; exact hS _ (List.getElem_mem h)
    · rw [List.getD_eq_getElem?_getD, List.getElem?_eq_none h]; exact fun _ _ _ _ _ => trivial
  refine wp_region_inv3 n (fun L a w => M L (slot a) w ∧ a.tmps.size = m ∧ a.defers = a0.defers ∧ (∀ t, (∀ i, i < n → D.getD i 0 ≠ t) → slot a t = slot a0 t) ∧ ∀ j, j < n → wrS l D j → L j → (S.getD j fun _ _ => True) (slot a (D.getD j 0)) w) hm hI
    ⟨hM0, hsz, rfl, fun _ _ => rfl, fun _ _ _ h => h.elim⟩ ?_ (fun L a w hL hB => hend L a w hL hB.1 hB.2.1 hB.2.2.1 hB.2.2.2.1 fun i hi hw => hB.2.2.2.2 i hi hw (hL i hi))
  intro L i o a w hi ho hL hcl he hB
  obtain ⟨hd, hne⟩ := dstE_spec hD i hi o ho
  have put_ok : ∀ v w', (S.getD i fun _ _ => True) v w' → T w w' → M (fun j => L j ∨ j = i) (fun t => if o.dst = some t then v else slot a t) w' →
      M (fun j => L j ∨ j = i) (slot (a.put o.dst v)) w' ∧ (a.put o.dst v).tmps.size = m ∧ (a.put o.dst v).defers = a0.defers ∧ (∀ t, (∀ i, i < n → D.getD i 0 ≠ t) → slot (a.put o.dst v) t = slot a0 t) ∧ ∀ j, j < n → wrS l D j → (L j ∨ j = i) → (S.getD j fun _ _ => True) (slot (a.put o.dst v) (D.getD j 0)) w' := by
    intro v w' hv hT hM
    rcases hd with hd | ⟨hd, hlt⟩
    · have ea : a.put o.dst v = a := by rw [hd]; rfl
      have em : (fun t => if o.dst = some t then v else slot a t) = slot a := by funext t; rw [hd]; simp
      rw [ea]
      rw [em] at hM
      refine ⟨hM, hB.2.1, hB.2.2.1, hB.2.2.2.1, fun j hj hwj hLj => ?_⟩
      rcases hLj with hLj | rfl
      · exact hSt j _ _ _ (hB.2.2.2.2 j hj hwj hLj) hT
      · unfold wrS at hwj; rw [ho] at hwj; simp [hd] at hwj
    · have em : (fun t => if o.dst = some t then v else slot a t) = slot (a.put o.dst v) := by
        funext t
        rw [hd]
        by_cases h : D.getD i 0 = t
        · subst h
          rw [if_pos rfl, slot_put (by rw [hB.2.1]; exact hlt)]
        · rw [if_neg (fun e => h (Option.some.inj e)), slot_put_ne h]
      rw [em] at hM
      refine ⟨hM, by rw [hd]; simp [Act.put, hB.2.1], by rw [hd]; exact hB.2.2.1, fun t ht => ?_, fun j hj hwj hLj => ?_⟩
      · rw [hd, slot_put_ne (ht i hi)]; exact hB.2.2.2.1 t ht
      · by_cases hji : j = i
        · subst hji
          rw [hd, slot_put (by rw [hB.2.1]; exact hlt)]; exact hv
        · rw [hd, slot_put_ne (fun h => hne j hj hji h.symm)]
          exact hSt j _ _ _ (hB.2.2.2.2 j hj hwj (hLj.resolve_right hji)) hT
  unfold wpOp
  have ho' : l.toArray[i]? = some o := by simpa using ho
  simp only [ho']
  have hwant : Region.wanted o (yielded l.toArray a.tmps) = G.getD i true := by
    cases hg : o.guard with
    | none =>
      rw [gdE_none hG i hi o ho hg]
      unfold Region.wanted
      rw [hg]
    | some q =>
      obtain ⟨j, b⟩ := q
      obtain ⟨hj, hdj, ⟨e, hea, hej, hbd⟩, c, hc, hGi⟩ := gdE_some hG i hi o ho j b hg
      have hLj : L j := hej ▸ he e hea hbd
      have hs0 := hV j c hj hc _ _ (hB.2.2.2.2 j hj hdj hLj)
      cases hoj : l[j]? with
      | none => rw [hoj] at hdj; cases hdj
      | some oj =>
        rw [hoj] at hdj
        have hdj' : oj.dst = some (D.getD j 0) := hdj
        have hoj' : l.toArray[j]? = some oj := by simpa using hoj
        have hltj : D.getD j 0 < m := by
          rcases (dstE_spec hD j hj oj hoj).1 with h | ⟨_, h⟩
          · rw [hdj'] at h; cases h
          · exact h
        have hs : D.getD j 0 < a.tmps.size := by rw [hB.2.1]; exact hltj
        have ht : a.tmps[D.getD j 0]? = some (.bool c) := by
          have h5 : a.tmps[D.getD j 0]? = some a.tmps[D.getD j 0] := Array.getElem?_eq_getElem hs
          have h6 : slot a (D.getD j 0) = a.tmps[D.getD j 0] := by unfold slot; rw [h5]; rfl
          rw [h5, ← h6, hs0]
        have hy : yielded l.toArray a.tmps j = some c := by
          unfold yielded
          simp only [hoj', Option.bind_some, hdj', ht]
        rw [hGi]
        unfold Region.wanted
        rw [hg]
        simp [hy]
  rw [hwant]
  cases hGi : G.getD i true with
  | false =>
    rw [if_neg (by decide)]
    exact put_ok undef w (hSk i hi hGi _ _) (hT w) (hskip L i o a w hi ho hGi hL hB.1)
  | true =>
    rw [if_pos rfl]
    refine Or.inl (Oper.wp_mono ?_ (hstep L i o a w hi ho hGi hL hcl he hB.1 hB.2.2.2.1 hB.2.2.2.2))
    rintro a' w' ⟨v, rfl, hv, hT', hM⟩
    exact put_ok v w' hv hT' hM
end
end
section
section
variable {H : Type} {enc : TypeId × Value → H} {W : World} {base : Nat} {sp : Nat → Bool} {held : Bool}
theorem u59 : ∃ a b c d, Tryz.prog.underlying 107 = some (.struct #[a, b, c, d]) ∧ a.offset = 0 ∧ b.offset = 1 ∧ c.offset = 2 ∧ d.offset = 3 ∧ a.type = 9 ∧ b.type = 3 ∧ c.type = 3 ∧ d.type = 3 :=
  ⟨_, _, _, _, Tryz.underlying107, rfl, rfl, rfl, rfl, rfl, rfl, rfl, rfl⟩
theorem c9 : Tryz.prog.cellsOf 9 = 1 := by kernel_rfl
theorem c3 : Tryz.prog.cellsOf 3 = 1 := by kernel_rfl
theorem c59 : Tryz.prog.cellsOf 107 = 4 := by kernel_rfl
theorem c60 : Tryz.prog.cellsOf 108 = 48 := by kernel_rfl
theorem u60 : Tryz.prog.underlying 108 = some (.array 12 107) := by kernel_rfl
theorem row_cells {fuel : Nat} {cs : List Value} {nm : List UInt8} {a b c : Int} {p : DataW H × List MemPlace} (hp : p.1 = .agg [.lit (.string nm), .lit (.int .i64 a), .lit (.int .i64 b), .lit (.int .i64 c)])
    (h : DataW.trod enc Tryz.prog W base sp held fuel 107 cs = some p) : cs = [.string ⟨nm.toArray⟩, .int .i64 a, .int .i64 b, .int .i64 c] := by
  obtain ⟨f0, f1, f2, f3, hu, o0, o1, o2, o3, t0, t1, t2, t3⟩ := u59
  obtain ⟨y0, y1, y2, y3, n, rfl, hl, h0, h1, h2, h3⟩ := Joins.trod_struct4 hu h
  rw [o0, t0, c9] at h0
  rw [o1, t1, c3] at h1
  rw [o2, t2, c3] at h2
  rw [o3, t3, c3] at h3
  obtain ⟨s, hs, rfl, _⟩ := DataW.trod_string Tryz.underlying9 h0
  obtain ⟨z1, hz1, rfl, _⟩ := DataW.trod_int Tryz.underlying3 h1
  obtain ⟨z2, hz2, rfl, _⟩ := DataW.trod_int Tryz.underlying3 h2
  obtain ⟨z3, hz3, rfl, _⟩ := DataW.trod_int Tryz.underlying3 h3
  simp only [DataW.agg.injEq, List.cons.injEq, DataW.lit.injEq, Lit.string.injEq, Lit.int.injEq, true_and, and_true] at hp
  obtain ⟨rfl, rfl, rfl, rfl⟩ := hp
  rw [c59] at hl
  match cs, hl with
  | [v0, v1, v2, v3], _ =>
    simp at hs hz1 hz2 hz3
    subst hs hz1 hz2 hz3
    rfl
theorem row_at {cs : List Value} {i : Nat} {v0 v1 v2 v3 : Value} (h : (cs.drop (i * 4)).take 4 = [v0, v1, v2, v3]) : cs[i * 4]? = some v0 ∧ cs[i * 4 + 1]? = some v1 ∧ cs[i * 4 + 2]? = some v2 ∧ cs[i * 4 + 3]? = some v3 := by
  have g : ∀ k, k < 4 → cs[i * 4 + k]? = [v0, v1, v2, v3][k]? := fun k hk => by
    rw [← h, List.getElem?_take_of_lt hk, List.getElem?_drop]
  exact ⟨g 0 (by decide), g 1 (by decide), g 2 (by decide), g 3 (by decide)⟩
theorem tab_of_trod {fuel : Nat} {cs : List Value} {p : List MemPlace} (h : DataW.trod enc Tryz.prog W base sp held fuel 108 cs = some (Rows.laid_caliper_desc_rows, p)) :
    ∀ i k, i < 12 → k < 4 → cs[i * 4 + k]? = some (rowV i k) := by
  cases fuel with
  | zero => simp [DataW.trod] at h
  | succ fuel =>
    simp only [DataW.trod, u60, c59, c60] at h
    split at h
    · rename_i hl
      obtain ⟨xs, hm, hx⟩ := Option.map_eq_some_iff.1 h
      have hxs := congrArg Prod.fst hx
      simp only [Rows.laid_caliper_desc_rows, DataW.agg.injEq] at hxs
      intro i k hi hk
      obtain ⟨b, hb, hf⟩ := Lib.mapM_at hm i i (by simp [hi])
      have hd : (xs.map (·.1))[i]? = some b.1 := by simp [hb]
      rw [hxs] at hd
      have key : ∀ (nm : List UInt8) (x y z : Int), b.1 = .agg [.lit (.string nm), .lit (.int .i64 x), .lit (.int .i64 y), .lit (.int .i64 z)] → cs[i * 4]? = some (.string ⟨nm.toArray⟩) ∧ cs[i * 4 + 1]? = some (.int .i64 x) ∧ cs[i * 4 + 2]? = some (.int .i64 y) ∧ cs[i * 4 + 3]? = some (.int .i64 z) :=
        fun nm x y z e => row_at (row_cells e hf)
      have hk' : k = 0 ∨ k = 1 ∨ k = 2 ∨ k = 3 := by omega
      have hi' : i = 0 ∨ i = 1 ∨ i = 2 ∨ i = 3 ∨ i = 4 ∨ i = 5 ∨ i = 6 ∨ i = 7 ∨ i = 8 ∨ i = 9 ∨ i = 10 ∨ i = 11 := by omega
      rcases hi' with rfl | rfl | rfl | rfl | rfl | rfl | rfl | rfl | rfl | rfl | rfl | rfl
      all_goals
        obtain ⟨q0, q1, q2, q3⟩ := key _ _ _ _ (Option.some.inj hd).symm
        rcases hk' with rfl | rfl | rfl | rfl
        · exact q0
        · exact q1
        · exact q2
        · exact q3
    · cases h
end
theorem tab_of_laid {W : World} {rest : List (String × DataW Unit)} (h : laidMet Tryz.prog (("caliper/desc.rows", Rows.laid_caliper_desc_rows) :: rest) W) : Tab W := by
  obtain ⟨ps, ⟨g', t', cs, fuel, p, q, hg', ht', hvar, hd, _, _⟩, _⟩ := h
  have hg : Tryz.prog.globalNamed "caliper/desc.rows" = some 0 := by kernel_rfl
  have hty : (Tryz.prog.globals[0]?).map (·.type) = some 108 := by kernel_rfl
  obtain rfl := Option.some.inj (hg.symm.trans hg')
  obtain rfl := Option.some.inj (hty.symm.trans ht')
  have hc := tab_of_trod hd
  have hcell : ∀ i k, i < 12 → k < 4 → W.cell? ⟨0, i * 4 + k, none⟩ = some (rowV i k) := fun i k hi hk => by
    have := World.var?_cell hg hvar (i * 4 + k)
    rw [this, ← hc i k hi hk]
    simp
  refine ⟨?_, hcell⟩
  have h0 := hcell 0 0 (by decide) (by decide)
  by_cases hz : 0 < W.heap.size
  · exact hz
  · have : W.heap[0]? = none := Array.getElem?_eq_none (by omega)
    simp [World.cell?, this] at h0
end
end Go.Proofs.YtehgnckgmdkfmaaGreatDoor

namespace Go.Proofs.YtehgnckgmdkfmaaGreatDoor
open Go.ChangeShapes Go.WideShapes Go.ChangeAt Go.RowKit

theorem Tryz.own : ownKnob Tryz.prog.godebug = none := by kernel_rfl
theorem Tryz.laidOut : laidOutB Tryz.prog = true := by kernel_rfl
def tabCells : Array Value := ((List.range 12).flatMap fun i => (List.range 4).map fun k => rowV i k).toArray
def layCells (c : Array Value) : Obj → Obj
  | .cells _ t frozen => .cells c t frozen
  | o => o
end Go.Proofs.YtehgnckgmdkfmaaGreatDoor
