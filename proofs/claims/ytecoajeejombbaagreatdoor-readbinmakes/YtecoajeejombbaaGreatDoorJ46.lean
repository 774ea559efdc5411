/-
  Texts that the proof leans on, joined: Lift, Lfw, Lfd, Lk.
-/
import Derived.Test.YtecoajeejombbaaGreatDoorJ42
import Derived.ProofKit
import Derived.OpenShut
import Derived.Carry
import Derived.Deep.DeepHandedRow
import Derived.Test.YtecoajeejombbaaGreatDoorJ3
import Derived.Test.YtecoajeejombbaaGreatDoorJ2
import Derived.Test.YtecoajeejombbaaGreatDoorJ17
import Derived.Test.YtecoajeejombbaaGreatDoorJ31
import Derived.Test.YtecoajeejombbaaGreatDoorRows
import Derived.LaidLaws
import Derived.ChangeMaps5
set_option linter.unusedVariables false
set_option maxRecDepth 20000
set_option linter.unusedSectionVars false
set_option linter.unusedSimpArgs false
namespace Go.Proofs.YtecoajeejombbaaGreatDoor
open Go.ChangeShapes Go.WideShapes Go.ChangeAt Go.RowKit

theorem Tryz.own : ownKnob Tryz.prog.godebug = none := by kernel_rfl
theorem Tryz.laidOut : laidOutB Tryz.prog = true := by kernel_rfl
def tabCells : Array Value := ((List.range 12).flatMap fun i => (List.range 4).map fun k => rowV i k).toArray
def layCells (c : Array Value) : Obj → Obj
  | .cells _ t frozen => .cells c t frozen
  | o => o
end Go.Proofs.YtecoajeejombbaaGreatDoor

set_option maxRecDepth 100000
set_option maxRecDepth 20000
namespace Go.Proofs.YtecoajeejombbaaGreatDoor
open Go.ChangeShapes Go.WideShapes Go.ChangeAt Go.RowKit

section
variable {H : Type} {enc : TypeId × Value → H} {W : World} {r : Reach} {base b : Nat} {sp : Nat → Bool} {held : Bool} {t : TypeId} {n : Nat} {v : Value} {d : DataW H} {p : List MemPlace}
end
end Go.Proofs.YtecoajeejombbaaGreatDoor

set_option maxRecDepth 100000
namespace Go.Proofs.YtecoajeejombbaaGreatDoor
open Go.ChangeShapes Go.WideShapes Go.ChangeAt Go.RowKit

section
variable {H : Type} {enc : TypeId × Value → H} {W : World} {r : Reach} {base b : Nat} {sp : Nat → Bool} {held : Bool} {t : TypeId} {n : Nat} {v : Value} {d : DataW H} {p : List MemPlace}
end
end Go.Proofs.YtecoajeejombbaaGreatDoor

namespace Go.Proofs.YtecoajeejombbaaGreatDoor
open Go.ChangeShapes Go.WideShapes Go.ChangeAt Go.RowKit

/-- Go's tables, as cells -/
def firstCells : Array Value := (((List.replicate 128 240 ++ List.replicate 66 241 ++ List.replicate 30 2 ++ [19] ++ List.replicate 12 3 ++ [35] ++ List.replicate 2 3 ++ [52] ++ List.replicate 3 4 ++ [68] ++ List.replicate 11 241 : List Int)).map fun n => Value.int .u8 n).toArray
def rangeCells : Array Value := ((([128, 191, 160, 191, 128, 159, 144, 191, 128, 143] ++ List.replicate 22 0 : List Int)).map fun n => Value.int .u8 n).toArray
def db32Cells : Array Value := (([0, 1, 28, 2, 29, 14, 24, 3, 30, 22, 20, 15, 25, 17, 4, 8, 31, 27, 13, 23, 21, 19, 16, 7, 26, 12, 18, 6, 11, 5, 10, 9] : List Int).map fun n => Value.int .u8 n).toArray
def db64Cells : Array Value := ((([0, 1, 56, 2, 57, 49, 28, 3, 61, 58, 42, 50, 38, 29, 17, 4, 62, 47, 59, 36, 45, 43, 51, 22, 53, 39, 33, 30, 24, 18, 12, 5] ++ [63, 55, 48, 27, 60, 41, 37, 16, 46, 35, 44, 21, 52, 32, 23, 11, 54, 26, 40, 15, 34, 20, 31, 10, 25, 14, 19, 9, 13, 8, 7, 6] : List Int)).map fun n => Value.int .u8 n).toArray
def pow10Cells : Array Value := ((List.range 20).map fun k => Value.int .u64 ((10 ^ k : Nat) : Int)).toArray
noncomputable def laidWorld8 (os : Os) : World :=
  { World.holding Tryz.prog os ⟨#[], #[], []⟩ with heap := ((((((World.holding Tryz.prog os ⟨#[], #[], []⟩).heap.modify 0 (layCells tabCells)).modify 3 (layCells pow10Cells)).modify 4 (layCells db32Cells)).modify 5 (layCells db64Cells)).modify 6 (layCells firstCells)).modify 7 (layCells rangeCells) }
theorem Tryz.cells31 : Tryz.prog.cellsOf 31 = 5 := by kernel_rfl
theorem Tryz.cells3' : Tryz.prog.cellsOf 3 = 1 := by kernel_rfl
theorem Tryz.cells4' : Tryz.prog.cellsOf 4 = 1 := by kernel_rfl
theorem Tryz.cells9' : Tryz.prog.cellsOf 9 = 1 := by kernel_rfl
theorem Tryz.rec31 : Tryz.prog.readableRec 31 = true := by kernel_rfl
theorem Tryz.row31 : (31 : TypeId) < Tryz.prog.types.size := of_decide_eq_true (by kernel_rfl)
theorem laid_tail {P : Program} {W : World} {x : String × DataW Unit} {r : List (String × DataW Unit)} (h : laidMet P (x :: r) W) : laidMet P r W := by
  obtain ⟨ps, ⟨g, t, cs, fuel, p, q, _, _, _, _, hr, rfl⟩, hn, hc⟩ := h
  refine ⟨q, hr, ?_, fun b off hm => hc b off (by simp [hm])⟩
  exact (List.nodup_append.1 hn).2.1
theorem pw10_of_list {W : World} {x y : String × DataW Unit} {r : List (String × DataW Unit)} (h : laidMet Tryz.prog (x :: y :: ("internal/strconv.uint64pow10", Lib.tabData .u64 Lib.pow10Tab) :: r) W) : Tb10 W :=
  Lib.tabIs_of_head (P := Tryz.prog) (name := "internal/strconv.uint64pow10") (k := .u64) (zs := Lib.pow10Tab) (g := 3) (t := 188) (e := 23) (n := 20) (by kernel_rfl) (by kernel_rfl) (by kernel_rfl) (by kernel_rfl) (by kernel_rfl) (by kernel_rfl) (laid_tail (laid_tail h))
theorem tab_of_list {W : World} {x0 x1 x2 x3 : String × DataW Unit} {r : List (String × DataW Unit)} (h : laidMet Tryz.prog (x0 :: x1 :: x2 :: x3 :: ("caliper/desc.rows", Rows.laid_caliper_desc_rows) :: r) W) : Tab W :=
  tab_of_laid (laid_tail (laid_tail (laid_tail (laid_tail h))))
section
variable {H : Type} {enc : TypeId × Value → H} {W : World} {r : Reach} {base b : Nat} {sp : Nat → Bool} {held : Bool} {t : TypeId} {n : Nat} {v : Value} {d : DataW H} {p : List MemPlace}
theorem open_parts (hok : Value.okWide Tryz.prog W r base 31 v) (h : DataW.Trod enc Tryz.prog W b sp held 31 v d p) : ∃ P : Prt, (-9223372036854775808 ≤ P.ex ∧ P.ex ≤ 9223372036854775807) ∧ v = P.v ∧ p = [] := by
  obtain ⟨cs, rfl, hcs⟩ := okWide_struct Tryz.underlying31 hok
  rw [Tryz.cells31] at hcs
  obtain ⟨fuel, hf⟩ := h
  obtain ⟨xs, n, _, hx, hl, hlen, hfi⟩ := DataW.trod_struct Tryz.underlying31 hf
  have g0 : DataW.trod enc Tryz.prog W b sp held n 3 (((Value.agg cs).cells.toList.drop 0).take (Tryz.prog.cellsOf 3)) = xs[0]? := hfi 0 _ rfl
  have g1 : DataW.trod enc Tryz.prog W b sp held n 4 (((Value.agg cs).cells.toList.drop 1).take (Tryz.prog.cellsOf 4)) = xs[1]? := hfi 1 _ rfl
  have g2 : DataW.trod enc Tryz.prog W b sp held n 4 (((Value.agg cs).cells.toList.drop 2).take (Tryz.prog.cellsOf 4)) = xs[2]? := hfi 2 _ rfl
  have g3 : DataW.trod enc Tryz.prog W b sp held n 9 (((Value.agg cs).cells.toList.drop 3).take (Tryz.prog.cellsOf 9)) = xs[3]? := hfi 3 _ rfl
  have g4 : DataW.trod enc Tryz.prog W b sp held n 3 (((Value.agg cs).cells.toList.drop 4).take (Tryz.prog.cellsOf 3)) = xs[4]? := hfi 4 _ rfl
  match xs, hlen with
  | [y0, y1, y2, y3, y4], _ =>
    obtain ⟨l0, rfl⟩ : ∃ l : List Value, cs = l.toArray := ⟨cs.toList, by simp⟩
    match l0, hcs with
    | [v0, v1, v2, v3, v4], _ =>
      rw [Tryz.cells3'] at g0 g4
      rw [Tryz.cells4'] at g1 g2
      rw [Tryz.cells9'] at g3
      obtain ⟨z0, e0, q0, _⟩ := DataW.trod_int Tryz.underlying3 g0
      obtain ⟨b1, e1, q1⟩ := DataW.trod_bool Tryz.underlying4 g1
      obtain ⟨b2, e2, q2⟩ := DataW.trod_bool Tryz.underlying4 g2
      obtain ⟨s3, e3, q3, _⟩ := DataW.trod_string Tryz.underlying9 g3
      obtain ⟨z4, e4, q4, w4⟩ := DataW.trod_int Tryz.underlying3 g4
      simp [Value.cells] at e0 e1 e2 e3 e4
      subst e0 e1 e2 e3 e4
      refine ⟨⟨z0, b1, b2, s3.data.toList, z4⟩, bounds_i64 w4, ?_, ?_⟩
      · show _ = PV _ _ _ _ _
        unfold PV
        dsimp only
        rw [B_of]
      · have hp := congrArg Prod.snd hx
        simp only [List.flatMap_cons, List.flatMap_nil] at hp
        rw [show p = _ from hp]
        rw [q0, q1, q2, q3, q4]
        rfl
end
end Go.Proofs.YtecoajeejombbaaGreatDoor
