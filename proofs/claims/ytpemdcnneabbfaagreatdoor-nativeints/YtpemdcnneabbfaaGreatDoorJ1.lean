/-
  Texts that the proof leans on.
-/
import Derived.Test.YtpemdcnneabbfaaGreatDoorRows
import Derived.WalkKit
import Derived.WalkSpells
import Derived.WalkLawsBesides
import Derived.Below
import Derived.RegionTactic
import Derived.ChangeAlike
import Derived.Laws.ResultCell
import Derived.LaidLaws
import Derived.Lib.LaidTab
set_option linter.unusedVariables false
set_option linter.unusedSimpArgs false
set_option linter.unusedSectionVars false
set_option maxRecDepth 20000
namespace Go.Proofs.YtpemdcnneabbfaaGreatDoor
open Go.RowKit
section
/-- the table's cells, as they are written down -/
def rowV : Nat → Nat → Value
  | 0, 0 => .string ⟨#[72, 97, 108, 102]⟩
  | 0, 1 => .int .i64 16
  | 0, 2 => .int .i64 11
  | 0, 3 => .int .i64 5
  | 1, 0 => .string ⟨#[66, 114, 97, 105, 110]⟩
  | 1, 1 => .int .i64 16
  | 1, 2 => .int .i64 8
  | 1, 3 => .int .i64 8
  | 2, 0 => .string ⟨#[83, 105, 110, 103, 108, 101]⟩
  | 2, 1 => .int .i64 32
  | 2, 2 => .int .i64 24
  | 2, 3 => .int .i64 8
  | 3, 0 => .string ⟨#[68, 111, 117, 98, 108, 101]⟩
  | 3, 1 => .int .i64 64
  | 3, 2 => .int .i64 53
  | 3, 3 => .int .i64 11
  | 4, 0 => .string ⟨#[81, 117, 97, 100]⟩
  | 4, 1 => .int .i64 128
  | 4, 2 => .int .i64 113
  | 4, 3 => .int .i64 15
  | 5, 0 => .string ⟨#[79, 99, 116, 111]⟩
  | 5, 1 => .int .i64 256
  | 5, 2 => .int .i64 241
  | 5, 3 => .int .i64 15
  | 6, 0 => .string ⟨#[80, 108, 97, 105, 110, 51, 50]⟩
  | 6, 1 => .int .i64 32
  | 6, 2 => .int .i64 7
  | 6, 3 => .int .i64 96
  | 7, 0 => .string ⟨#[80, 108, 97, 105, 110, 54, 52]⟩
  | 7, 1 => .int .i64 64
  | 7, 2 => .int .i64 16
  | 7, 3 => .int .i64 384
  | 8, 0 => .string ⟨#[80, 108, 97, 105, 110, 49, 50, 56]⟩
  | 8, 1 => .int .i64 128
  | 8, 2 => .int .i64 34
  | 8, 3 => .int .i64 6144
  | 9, 0 => .string ⟨#[68, 101, 110, 115, 101, 51, 50]⟩
  | 9, 1 => .int .i64 32
  | 9, 2 => .int .i64 7
  | 9, 3 => .int .i64 96
  | 10, 0 => .string ⟨#[68, 101, 110, 115, 101, 54, 52]⟩
  | 10, 1 => .int .i64 64
  | 10, 2 => .int .i64 16
  | 10, 3 => .int .i64 384
  | 11, 0 => .string ⟨#[68, 101, 110, 115, 101, 49, 50, 56]⟩
  | 11, 1 => .int .i64 128
  | 11, 2 => .int .i64 34
  | 11, 3 => .int .i64 6144
  | _, _ => .int .i64 0
/-- the formats' table lies in block 0 -/
def Tab (w : World) : Prop := 3 < w.heap.size ∧ ∀ i k, i < 12 → k < 4 → w.cell? ⟨3, i * 4 + k, none⟩ = some (rowV i k)
theorem Tab.next {B : Nat} {w w' : World} (h : Tab w) (hb : Below B w w') (hB : 3 < B) : Tab w' :=
  ⟨Nat.lt_of_lt_of_le h.1 hb.size, fun i k hi hk => (hb.cell (p := ⟨3, i * 4 + k, none⟩) hB).trans (h.2 i k hi hk)⟩
theorem Tab.go {w w' : World} (h : Tab w) (hb : Below w.heap.size w w') : Tab w' := h.next hb h.1
theorem Tab.drew {w : World} (h : Tab w) : Tab w.drew := h
theorem Tab.alloc {w : World} (h : Tab w) (o : Obj) : Tab (w.alloc o) := h.go ((Below.refl _ _).alloc (Nat.le_refl _) o)

/-- what Of tells -/
def infoV : Int → Array Value
  | 1 => #[.int .i64 1, .string ⟨#[72, 97, 108, 102]⟩, .int .i64 2, .int .i64 16, .int .i64 11, .int .i64 5, .int .i64 (-24), .int .i64 5, .int .i64 9, .bool false]
  | 2 => #[.int .i64 2, .string ⟨#[66, 114, 97, 105, 110]⟩, .int .i64 2, .int .i64 16, .int .i64 8, .int .i64 8, .int .i64 (-133), .int .i64 120, .int .i64 6, .bool false]
  | 3 => #[.int .i64 3, .string ⟨#[83, 105, 110, 103, 108, 101]⟩, .int .i64 2, .int .i64 32, .int .i64 24, .int .i64 8, .int .i64 (-149), .int .i64 104, .int .i64 22, .bool false]
  | 4 => #[.int .i64 4, .string ⟨#[68, 111, 117, 98, 108, 101]⟩, .int .i64 2, .int .i64 64, .int .i64 53, .int .i64 11, .int .i64 (-1074), .int .i64 971, .int .i64 51, .bool false]
  | 5 => #[.int .i64 5, .string ⟨#[81, 117, 97, 100]⟩, .int .i64 2, .int .i64 128, .int .i64 113, .int .i64 15, .int .i64 (-16494), .int .i64 16271, .int .i64 111, .bool false]
  | 6 => #[.int .i64 6, .string ⟨#[79, 99, 116, 111]⟩, .int .i64 2, .int .i64 256, .int .i64 241, .int .i64 15, .int .i64 (-16622), .int .i64 16143, .int .i64 239, .bool false]
  | 7 => #[.int .i64 7, .string ⟨#[80, 108, 97, 105, 110, 51, 50]⟩, .int .i64 10, .int .i64 32, .int .i64 7, .int .i64 96, .int .i64 (-101), .int .i64 90, .int .i64 6, .bool false]
  | 8 => #[.int .i64 8, .string ⟨#[80, 108, 97, 105, 110, 54, 52]⟩, .int .i64 10, .int .i64 64, .int .i64 16, .int .i64 384, .int .i64 (-398), .int .i64 369, .int .i64 15, .bool false]
  | 9 => #[.int .i64 9, .string ⟨#[80, 108, 97, 105, 110, 49, 50, 56]⟩, .int .i64 10, .int .i64 128, .int .i64 34, .int .i64 6144, .int .i64 (-6176), .int .i64 6111, .int .i64 33, .bool false]
  | 10 => #[.int .i64 10, .string ⟨#[68, 101, 110, 115, 101, 51, 50]⟩, .int .i64 10, .int .i64 32, .int .i64 7, .int .i64 96, .int .i64 (-101), .int .i64 90, .int .i64 6, .bool true]
  | 11 => #[.int .i64 11, .string ⟨#[68, 101, 110, 115, 101, 54, 52]⟩, .int .i64 10, .int .i64 64, .int .i64 16, .int .i64 384, .int .i64 (-398), .int .i64 369, .int .i64 15, .bool true]
  | 12 => #[.int .i64 12, .string ⟨#[68, 101, 110, 115, 101, 49, 50, 56]⟩, .int .i64 10, .int .i64 128, .int .i64 34, .int .i64 6144, .int .i64 (-6176), .int .i64 6111, .int .i64 33, .bool true]
  | _ => #[.int .i64 0, .string ⟨#[]⟩, .int .i64 0, .int .i64 0, .int .i64 0, .int .i64 0, .int .i64 0, .int .i64 0, .int .i64 0, .bool false]
def okN (n : Int) : Prop := 1 ≤ n ∧ n ≤ 12
instance (n : Int) : Decidable (okN n) := inferInstanceAs (Decidable (_ ∧ _))
def infoE (n : Int) : Int := if okN n then 0 else 1
theorem infoV_none {n : Int} (h : ¬ okN n) : infoV n = #[.int .i64 0, .string ⟨#[]⟩, .int .i64 0, .int .i64 0, .int .i64 0, .int .i64 0, .int .i64 0, .int .i64 0, .int .i64 0, .bool false] := by
  unfold infoV okN at *
  split <;> first | rfl | omega
theorem okN_cases {n : Int} (h : okN n) : n = 1 ∨ n = 2 ∨ n = 3 ∨ n = 4 ∨ n = 5 ∨ n = 6 ∨ n = 7 ∨ n = 8 ∨ n = 9 ∨ n = 10 ∨ n = 11 ∨ n = 12 := by unfold okN at h; omega

theorem below1' (w : World) (a : Obj) : Below w.heap.size w (w.alloc a) := (Below.refl _ _).alloc (Nat.le_refl _) a
theorem below2' (w : World) (a b : Obj) : Below w.heap.size w ((w.alloc a).alloc b) := (below1' w a).alloc (by simp) b
theorem below3' (w : World) (a b c : Obj) : Below w.heap.size w (((w.alloc a).alloc b).alloc c) := (below2' w a b).alloc (by simp; omega) c
set_option maxHeartbeats 400000 in
theorem of_1 (w : World) (hT : Tab w) :
    Calls Tryz.prog 40 #[.int .i64 1] w fun e w' => e = .returned (.tuple #[.agg (infoV 1), .int .i64 0]) ∧ Below w.heap.size w w' := by
  have hs := hT.1
  have h0 := hT.2 0 0 (by decide) (by decide)
  have h1 := hT.2 0 1 (by decide) (by decide)
  have h2 := hT.2 0 2 (by decide) (by decide)
  have h3 := hT.2 0 3 (by decide) (by decide)
  simp only [Nat.reduceMul, Nat.reduceAdd, rowV] at h0 h1 h2 h3
  show Calls Tryz.prog 40 #[.int .i64 1] w fun e w' => e = .returned (.tuple #[.agg #[.int .i64 1, .string ⟨#[72, 97, 108, 102]⟩, .int .i64 2, .int .i64 16, .int .i64 11, .int .i64 5, .int .i64 (-24), .int .i64 5, .int .i64 9, .bool false], .int .i64 0]) ∧ Below w.heap.size w w'
  clear hT
  go_enter Tryz.func40, Tryz.ntmps40
  go_wp2
  go_region
  go_wp2
  exact bodyPost_ret (v := .tuple #[.agg #[.int .i64 1, .string ⟨#[72, 97, 108, 102]⟩, .int .i64 2, .int .i64 16, .int .i64 11, .int .i64 5, .int .i64 (-24), .int .i64 5, .int .i64 9, .bool false], .int .i64 0]) (by rw [results_cell_tmp rfl]; go_simp) rfl ⟨rfl, (below3' _ _ _ _).drew⟩
set_option maxHeartbeats 400000 in
theorem of_2 (w : World) (hT : Tab w) :
    Calls Tryz.prog 40 #[.int .i64 2] w fun e w' => e = .returned (.tuple #[.agg (infoV 2), .int .i64 0]) ∧ Below w.heap.size w w' := by
  have hs := hT.1
  have h0 := hT.2 1 0 (by decide) (by decide)
  have h1 := hT.2 1 1 (by decide) (by decide)
  have h2 := hT.2 1 2 (by decide) (by decide)
  have h3 := hT.2 1 3 (by decide) (by decide)
  simp only [Nat.reduceMul, Nat.reduceAdd, rowV] at h0 h1 h2 h3
  show Calls Tryz.prog 40 #[.int .i64 2] w fun e w' => e = .returned (.tuple #[.agg #[.int .i64 2, .string ⟨#[66, 114, 97, 105, 110]⟩, .int .i64 2, .int .i64 16, .int .i64 8, .int .i64 8, .int .i64 (-133), .int .i64 120, .int .i64 6, .bool false], .int .i64 0]) ∧ Below w.heap.size w w'
  clear hT
  go_enter Tryz.func40, Tryz.ntmps40
  go_wp2
  go_region
  go_wp2
  exact bodyPost_ret (v := .tuple #[.agg #[.int .i64 2, .string ⟨#[66, 114, 97, 105, 110]⟩, .int .i64 2, .int .i64 16, .int .i64 8, .int .i64 8, .int .i64 (-133), .int .i64 120, .int .i64 6, .bool false], .int .i64 0]) (by rw [results_cell_tmp rfl]; go_simp) rfl ⟨rfl, (below3' _ _ _ _).drew⟩
set_option maxHeartbeats 400000 in
theorem of_3 (w : World) (hT : Tab w) :
    Calls Tryz.prog 40 #[.int .i64 3] w fun e w' => e = .returned (.tuple #[.agg (infoV 3), .int .i64 0]) ∧ Below w.heap.size w w' := by
  have hs := hT.1
  have h0 := hT.2 2 0 (by decide) (by decide)
  have h1 := hT.2 2 1 (by decide) (by decide)
  have h2 := hT.2 2 2 (by decide) (by decide)
  have h3 := hT.2 2 3 (by decide) (by decide)
  simp only [Nat.reduceMul, Nat.reduceAdd, rowV] at h0 h1 h2 h3
  show Calls Tryz.prog 40 #[.int .i64 3] w fun e w' => e = .returned (.tuple #[.agg #[.int .i64 3, .string ⟨#[83, 105, 110, 103, 108, 101]⟩, .int .i64 2, .int .i64 32, .int .i64 24, .int .i64 8, .int .i64 (-149), .int .i64 104, .int .i64 22, .bool false], .int .i64 0]) ∧ Below w.heap.size w w'
  clear hT
  go_enter Tryz.func40, Tryz.ntmps40
  go_wp2
  go_region
  go_wp2
  exact bodyPost_ret (v := .tuple #[.agg #[.int .i64 3, .string ⟨#[83, 105, 110, 103, 108, 101]⟩, .int .i64 2, .int .i64 32, .int .i64 24, .int .i64 8, .int .i64 (-149), .int .i64 104, .int .i64 22, .bool false], .int .i64 0]) (by rw [results_cell_tmp rfl]; go_simp) rfl ⟨rfl, (below3' _ _ _ _).drew⟩
set_option maxHeartbeats 400000 in
theorem of_4 (w : World) (hT : Tab w) :
    Calls Tryz.prog 40 #[.int .i64 4] w fun e w' => e = .returned (.tuple #[.agg (infoV 4), .int .i64 0]) ∧ Below w.heap.size w w' := by
  have hs := hT.1
  have h0 := hT.2 3 0 (by decide) (by decide)
  have h1 := hT.2 3 1 (by decide) (by decide)
  have h2 := hT.2 3 2 (by decide) (by decide)
  have h3 := hT.2 3 3 (by decide) (by decide)
  simp only [Nat.reduceMul, Nat.reduceAdd, rowV] at h0 h1 h2 h3
  show Calls Tryz.prog 40 #[.int .i64 4] w fun e w' => e = .returned (.tuple #[.agg #[.int .i64 4, .string ⟨#[68, 111, 117, 98, 108, 101]⟩, .int .i64 2, .int .i64 64, .int .i64 53, .int .i64 11, .int .i64 (-1074), .int .i64 971, .int .i64 51, .bool false], .int .i64 0]) ∧ Below w.heap.size w w'
  clear hT
  go_enter Tryz.func40, Tryz.ntmps40
  go_wp2
  go_region
  go_wp2
  exact bodyPost_ret (v := .tuple #[.agg #[.int .i64 4, .string ⟨#[68, 111, 117, 98, 108, 101]⟩, .int .i64 2, .int .i64 64, .int .i64 53, .int .i64 11, .int .i64 (-1074), .int .i64 971, .int .i64 51, .bool false], .int .i64 0]) (by rw [results_cell_tmp rfl]; go_simp) rfl ⟨rfl, (below3' _ _ _ _).drew⟩
set_option maxHeartbeats 400000 in
theorem of_5 (w : World) (hT : Tab w) :
    Calls Tryz.prog 40 #[.int .i64 5] w fun e w' => e = .returned (.tuple #[.agg (infoV 5), .int .i64 0]) ∧ Below w.heap.size w w' := by
  have hs := hT.1
  have h0 := hT.2 4 0 (by decide) (by decide)
  have h1 := hT.2 4 1 (by decide) (by decide)
  have h2 := hT.2 4 2 (by decide) (by decide)
  have h3 := hT.2 4 3 (by decide) (by decide)
  simp only [Nat.reduceMul, Nat.reduceAdd, rowV] at h0 h1 h2 h3
  show Calls Tryz.prog 40 #[.int .i64 5] w fun e w' => e = .returned (.tuple #[.agg #[.int .i64 5, .string ⟨#[81, 117, 97, 100]⟩, .int .i64 2, .int .i64 128, .int .i64 113, .int .i64 15, .int .i64 (-16494), .int .i64 16271, .int .i64 111, .bool false], .int .i64 0]) ∧ Below w.heap.size w w'
  clear hT
  go_enter Tryz.func40, Tryz.ntmps40
  go_wp2
  go_region
  go_wp2
  exact bodyPost_ret (v := .tuple #[.agg #[.int .i64 5, .string ⟨#[81, 117, 97, 100]⟩, .int .i64 2, .int .i64 128, .int .i64 113, .int .i64 15, .int .i64 (-16494), .int .i64 16271, .int .i64 111, .bool false], .int .i64 0]) (by rw [results_cell_tmp rfl]; go_simp) rfl ⟨rfl, (below3' _ _ _ _).drew⟩
set_option maxHeartbeats 400000 in
theorem of_6 (w : World) (hT : Tab w) :
    Calls Tryz.prog 40 #[.int .i64 6] w fun e w' => e = .returned (.tuple #[.agg (infoV 6), .int .i64 0]) ∧ Below w.heap.size w w' := by
  have hs := hT.1
  have h0 := hT.2 5 0 (by decide) (by decide)
  have h1 := hT.2 5 1 (by decide) (by decide)
  have h2 := hT.2 5 2 (by decide) (by decide)
  have h3 := hT.2 5 3 (by decide) (by decide)
  simp only [Nat.reduceMul, Nat.reduceAdd, rowV] at h0 h1 h2 h3
  show Calls Tryz.prog 40 #[.int .i64 6] w fun e w' => e = .returned (.tuple #[.agg #[.int .i64 6, .string ⟨#[79, 99, 116, 111]⟩, .int .i64 2, .int .i64 256, .int .i64 241, .int .i64 15, .int .i64 (-16622), .int .i64 16143, .int .i64 239, .bool false], .int .i64 0]) ∧ Below w.heap.size w w'
  clear hT
  go_enter Tryz.func40, Tryz.ntmps40
  go_wp2
  go_region
  go_wp2
  exact bodyPost_ret (v := .tuple #[.agg #[.int .i64 6, .string ⟨#[79, 99, 116, 111]⟩, .int .i64 2, .int .i64 256, .int .i64 241, .int .i64 15, .int .i64 (-16622), .int .i64 16143, .int .i64 239, .bool false], .int .i64 0]) (by rw [results_cell_tmp rfl]; go_simp) rfl ⟨rfl, (below3' _ _ _ _).drew⟩
set_option maxHeartbeats 400000 in
theorem of_7 (w : World) (hT : Tab w) :
    Calls Tryz.prog 40 #[.int .i64 7] w fun e w' => e = .returned (.tuple #[.agg (infoV 7), .int .i64 0]) ∧ Below w.heap.size w w' := by
  have hs := hT.1
  have h0 := hT.2 6 0 (by decide) (by decide)
  have h1 := hT.2 6 1 (by decide) (by decide)
  have h2 := hT.2 6 2 (by decide) (by decide)
  have h3 := hT.2 6 3 (by decide) (by decide)
  simp only [Nat.reduceMul, Nat.reduceAdd, rowV] at h0 h1 h2 h3
  show Calls Tryz.prog 40 #[.int .i64 7] w fun e w' => e = .returned (.tuple #[.agg #[.int .i64 7, .string ⟨#[80, 108, 97, 105, 110, 51, 50]⟩, .int .i64 10, .int .i64 32, .int .i64 7, .int .i64 96, .int .i64 (-101), .int .i64 90, .int .i64 6, .bool false], .int .i64 0]) ∧ Below w.heap.size w w'
  clear hT
  go_enter Tryz.func40, Tryz.ntmps40
  go_wp2
  go_region
  go_wp2
  exact bodyPost_ret (v := .tuple #[.agg #[.int .i64 7, .string ⟨#[80, 108, 97, 105, 110, 51, 50]⟩, .int .i64 10, .int .i64 32, .int .i64 7, .int .i64 96, .int .i64 (-101), .int .i64 90, .int .i64 6, .bool false], .int .i64 0]) (by rw [results_cell_tmp rfl]; go_simp) rfl ⟨rfl, (below3' _ _ _ _).drew⟩
set_option maxHeartbeats 400000 in
theorem of_8 (w : World) (hT : Tab w) :
    Calls Tryz.prog 40 #[.int .i64 8] w fun e w' => e = .returned (.tuple #[.agg (infoV 8), .int .i64 0]) ∧ Below w.heap.size w w' := by
  have hs := hT.1
  have h0 := hT.2 7 0 (by decide) (by decide)
  have h1 := hT.2 7 1 (by decide) (by decide)
  have h2 := hT.2 7 2 (by decide) (by decide)
  have h3 := hT.2 7 3 (by decide) (by decide)
  simp only [Nat.reduceMul, Nat.reduceAdd, rowV] at h0 h1 h2 h3
  show Calls Tryz.prog 40 #[.int .i64 8] w fun e w' => e = .returned (.tuple #[.agg #[.int .i64 8, .string ⟨#[80, 108, 97, 105, 110, 54, 52]⟩, .int .i64 10, .int .i64 64, .int .i64 16, .int .i64 384, .int .i64 (-398), .int .i64 369, .int .i64 15, .bool false], .int .i64 0]) ∧ Below w.heap.size w w'
  clear hT
  go_enter Tryz.func40, Tryz.ntmps40
  go_wp2
  go_region
  go_wp2
  exact bodyPost_ret (v := .tuple #[.agg #[.int .i64 8, .string ⟨#[80, 108, 97, 105, 110, 54, 52]⟩, .int .i64 10, .int .i64 64, .int .i64 16, .int .i64 384, .int .i64 (-398), .int .i64 369, .int .i64 15, .bool false], .int .i64 0]) (by rw [results_cell_tmp rfl]; go_simp) rfl ⟨rfl, (below3' _ _ _ _).drew⟩
set_option maxHeartbeats 400000 in
theorem of_9 (w : World) (hT : Tab w) :
    Calls Tryz.prog 40 #[.int .i64 9] w fun e w' => e = .returned (.tuple #[.agg (infoV 9), .int .i64 0]) ∧ Below w.heap.size w w' := by
  have hs := hT.1
  have h0 := hT.2 8 0 (by decide) (by decide)
  have h1 := hT.2 8 1 (by decide) (by decide)
  have h2 := hT.2 8 2 (by decide) (by decide)
  have h3 := hT.2 8 3 (by decide) (by decide)
  simp only [Nat.reduceMul, Nat.reduceAdd, rowV] at h0 h1 h2 h3
  show Calls Tryz.prog 40 #[.int .i64 9] w fun e w' => e = .returned (.tuple #[.agg #[.int .i64 9, .string ⟨#[80, 108, 97, 105, 110, 49, 50, 56]⟩, .int .i64 10, .int .i64 128, .int .i64 34, .int .i64 6144, .int .i64 (-6176), .int .i64 6111, .int .i64 33, .bool false], .int .i64 0]) ∧ Below w.heap.size w w'
  clear hT
  go_enter Tryz.func40, Tryz.ntmps40
  go_wp2
  go_region
  go_wp2
  exact bodyPost_ret (v := .tuple #[.agg #[.int .i64 9, .string ⟨#[80, 108, 97, 105, 110, 49, 50, 56]⟩, .int .i64 10, .int .i64 128, .int .i64 34, .int .i64 6144, .int .i64 (-6176), .int .i64 6111, .int .i64 33, .bool false], .int .i64 0]) (by rw [results_cell_tmp rfl]; go_simp) rfl ⟨rfl, (below3' _ _ _ _).drew⟩
set_option maxHeartbeats 400000 in
theorem of_10 (w : World) (hT : Tab w) :
    Calls Tryz.prog 40 #[.int .i64 10] w fun e w' => e = .returned (.tuple #[.agg (infoV 10), .int .i64 0]) ∧ Below w.heap.size w w' := by
  have hs := hT.1
  have h0 := hT.2 9 0 (by decide) (by decide)
  have h1 := hT.2 9 1 (by decide) (by decide)
  have h2 := hT.2 9 2 (by decide) (by decide)
  have h3 := hT.2 9 3 (by decide) (by decide)
  simp only [Nat.reduceMul, Nat.reduceAdd, rowV] at h0 h1 h2 h3
  show Calls Tryz.prog 40 #[.int .i64 10] w fun e w' => e = .returned (.tuple #[.agg #[.int .i64 10, .string ⟨#[68, 101, 110, 115, 101, 51, 50]⟩, .int .i64 10, .int .i64 32, .int .i64 7, .int .i64 96, .int .i64 (-101), .int .i64 90, .int .i64 6, .bool true], .int .i64 0]) ∧ Below w.heap.size w w'
  clear hT
  go_enter Tryz.func40, Tryz.ntmps40
  go_wp2
  go_region
  go_wp2
  exact bodyPost_ret (v := .tuple #[.agg #[.int .i64 10, .string ⟨#[68, 101, 110, 115, 101, 51, 50]⟩, .int .i64 10, .int .i64 32, .int .i64 7, .int .i64 96, .int .i64 (-101), .int .i64 90, .int .i64 6, .bool true], .int .i64 0]) (by rw [results_cell_tmp rfl]; go_simp) rfl ⟨rfl, (below3' _ _ _ _).drew⟩
set_option maxHeartbeats 400000 in
theorem of_11 (w : World) (hT : Tab w) :
    Calls Tryz.prog 40 #[.int .i64 11] w fun e w' => e = .returned (.tuple #[.agg (infoV 11), .int .i64 0]) ∧ Below w.heap.size w w' := by
  have hs := hT.1
  have h0 := hT.2 10 0 (by decide) (by decide)
  have h1 := hT.2 10 1 (by decide) (by decide)
  have h2 := hT.2 10 2 (by decide) (by decide)
  have h3 := hT.2 10 3 (by decide) (by decide)
  simp only [Nat.reduceMul, Nat.reduceAdd, rowV] at h0 h1 h2 h3
  show Calls Tryz.prog 40 #[.int .i64 11] w fun e w' => e = .returned (.tuple #[.agg #[.int .i64 11, .string ⟨#[68, 101, 110, 115, 101, 54, 52]⟩, .int .i64 10, .int .i64 64, .int .i64 16, .int .i64 384, .int .i64 (-398), .int .i64 369, .int .i64 15, .bool true], .int .i64 0]) ∧ Below w.heap.size w w'
  clear hT
  go_enter Tryz.func40, Tryz.ntmps40
  go_wp2
  go_region
  go_wp2
  exact bodyPost_ret (v := .tuple #[.agg #[.int .i64 11, .string ⟨#[68, 101, 110, 115, 101, 54, 52]⟩, .int .i64 10, .int .i64 64, .int .i64 16, .int .i64 384, .int .i64 (-398), .int .i64 369, .int .i64 15, .bool true], .int .i64 0]) (by rw [results_cell_tmp rfl]; go_simp) rfl ⟨rfl, (below3' _ _ _ _).drew⟩
set_option maxHeartbeats 400000 in
theorem of_12 (w : World) (hT : Tab w) :
    Calls Tryz.prog 40 #[.int .i64 12] w fun e w' => e = .returned (.tuple #[.agg (infoV 12), .int .i64 0]) ∧ Below w.heap.size w w' := by
  have hs := hT.1
  have h0 := hT.2 11 0 (by decide) (by decide)
  have h1 := hT.2 11 1 (by decide) (by decide)
  have h2 := hT.2 11 2 (by decide) (by decide)
  have h3 := hT.2 11 3 (by decide) (by decide)
  simp only [Nat.reduceMul, Nat.reduceAdd, rowV] at h0 h1 h2 h3
  show Calls Tryz.prog 40 #[.int .i64 12] w fun e w' => e = .returned (.tuple #[.agg #[.int .i64 12, .string ⟨#[68, 101, 110, 115, 101, 49, 50, 56]⟩, .int .i64 10, .int .i64 128, .int .i64 34, .int .i64 6144, .int .i64 (-6176), .int .i64 6111, .int .i64 33, .bool true], .int .i64 0]) ∧ Below w.heap.size w w'
  clear hT
  go_enter Tryz.func40, Tryz.ntmps40
  go_wp2
  go_region
  go_wp2
  exact bodyPost_ret (v := .tuple #[.agg #[.int .i64 12, .string ⟨#[68, 101, 110, 115, 101, 49, 50, 56]⟩, .int .i64 10, .int .i64 128, .int .i64 34, .int .i64 6144, .int .i64 (-6176), .int .i64 6111, .int .i64 33, .bool true], .int .i64 0]) (by rw [results_cell_tmp rfl]; go_simp) rfl ⟨rfl, (below3' _ _ _ _).drew⟩
set_option maxHeartbeats 400000 in
theorem of_none (n : Int) (w : World) (h : ¬ okN n) :
    Calls Tryz.prog 40 #[.int .i64 n] w fun e w' => e = .returned (.tuple #[.agg (infoV n), .int .i64 1]) ∧ Below w.heap.size w w' := by
  rw [infoV_none h]
  have key : n < 1 ∨ (1 ≤ n ∧ 12 < n) := by unfold okN at h; omega
  clear h
  rcases key with k1 | ⟨k1, k2⟩
  all_goals
    go_enter Tryz.func40, Tryz.ntmps40
    go_wp2
    exact bodyPost_ret (v := .tuple #[.agg #[.int .i64 0, .string ⟨#[]⟩, .int .i64 0, .int .i64 0, .int .i64 0, .int .i64 0, .int .i64 0, .int .i64 0, .int .i64 0, .bool false], .int .i64 1]) (by rw [results_cell_tmp rfl]; go_simp) rfl ⟨rfl, below1' _ _⟩
theorem dof_any (n : Int) (w : World) (hT : Tab w) :
    Calls Tryz.prog 40 #[.int .i64 n] w fun e w' => e = .returned (.tuple #[.agg (infoV n), .int .i64 (infoE n)]) ∧ Below w.heap.size w w' := by
  by_cases h : okN n
  · rcases okN_cases h with rfl | rfl | rfl | rfl | rfl | rfl | rfl | rfl | rfl | rfl | rfl | rfl
    · exact of_1 w hT
    · exact of_2 w hT
    · exact of_3 w hT
    · exact of_4 w hT
    · exact of_5 w hT
    · exact of_6 w hT
    · exact of_7 w hT
    · exact of_8 w hT
    · exact of_9 w hT
    · exact of_10 w hT
    · exact of_11 w hT
    · exact of_12 w hT
  · unfold infoE; rw [if_neg h]; exact of_none n w h
end
end Go.Proofs.YtpemdcnneabbfaaGreatDoor
