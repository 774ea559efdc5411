/-
  Texts that the proof leans on, joined: Xv, Lift, Lk.
-/
import Derived.Test.YtecoajeejombbaaGreatDoorT9
import Derived.Test.YtecoajeejombbaaGreatDoorT10
import Derived.Test.YtecoajeejombbaaGreatDoorT5
import Derived.ProofKit
import Derived.OpenShut
import Derived.Carry
import Derived.Deep.DeepHandedRow
import Derived.Test.YtecoajeejombbaaGreatDoorT2
import Derived.Test.YtecoajeejombbaaGreatDoorJ17
import Derived.Test.YtecoajeejombbaaGreatDoorJ3
import Derived.Test.YtecoajeejombbaaGreatDoorJ2
import Derived.Test.YtecoajeejombbaaGreatDoorRows
import Derived.LaidLaws
import Derived.ChangeMaps5
import Derived.Test.YtecoajeejombbaaGreatDoorTE
set_option linter.unusedVariables false
set_option linter.unusedSectionVars false
set_option linter.unusedSimpArgs false
set_option maxRecDepth 20000
namespace Go.Proofs.YtecoajeejombbaaGreatDoor
open Go.RowKit

theorem readbinTurns_any (n d : Int) (s : ByteArray) (w : World) (hT : Tab w) (hT10 : Tb10 w) :
    Calls Tryz.prog 8 #[.int .i64 n, .int .i64 d, .string s] w fun r w' => r = .returned (.bool true) ∧ Below w.heap.size w w' := by
  rw [← B_of s]
  generalize s.data.toList = l
  by_cases h : (3000 : Int) < (B l).size
  · exact trn_long n d l w hT hT10 h
  · by_cases hb : binN n
    · have c22 := fun W => bin_true hb W
      by_cases hk : knB d
      · have c15 := fun W => dir_true hk W
        cases l with
        | nil => exact trn_nil n d w hT hT10 c22 c15
        | cons c r =>
          have hl : (r.length : Int) + 1 ≤ 3000 := by rw [B_size, List.length_cons] at h; omega
          by_cases hc : (c.toNat : Int) = 45 ∨ (c.toNat : Int) = 43
          · exact trn_sg n d w hT hT10 c22 c15 c r hl hc
          · have h45 : (c.toNat : Int) ≠ 45 := fun e => hc (Or.inl e)
            have h43 : (c.toNat : Int) ≠ 43 := fun e => hc (Or.inr e)
            have l1 : (c :: r).length ≤ 3000 := by rw [List.length_cons]; omega
            have l2 : (45 :: c :: r).length ≤ 3001 := by rw [List.length_cons]; omega
            have hk' := (kn_turn d).2 hk
            rcases cut_neg ⟨h45, h43⟩ l1 with ⟨_, _, p, p1, p2⟩ | ⟨e1, e2⟩
            · obtain ⟨t1, t2, t3⟩ := mk_turn d p hb
              obtain ⟨g1, g2, Dc, Dg, Dx, Dk, u1, u2⟩ := un_turn hb t3
              rw [← t1] at g2 u2
              have c24 := fun W => runpack_any n (mkV n d (p.at false)) W (good_256 g1)
              have c24t := fun W => runpack_any n (mkV n (othD d) (p.at true)) W (good_256 g2)
              rw [u1, show unE n (mkV n d (p.at false)) = 0 from if_pos g1] at c24
              rw [u2, show unE n (mkV n (othD d) (p.at true)) = 0 from if_pos g2] at c24t
              exact trn_k n d w hT hT10 c22 c15 c r hl h45 h43 _ rfl _ _ _ Dc Dx Dg Dk (fun W hW => read_v hb hk p1 (by omega) W (hT.go hW) (hT10.next hW)) (fun W hW => by have := read_v hb hk' p2 l2 W (hT.go hW) (hT10.next hW); rw [t2] at this; exact this) c24 c24t
            · exact trn_e n d w hT hT10 c22 c15 c r hl h45 h43 _ rfl _ _ _ 2 (by decide) (fun W hW => read_2 hb hk e1 (by omega) W (hT.go hW) (hT10.next hW)) (fun W hW => read_2 hb hk' e2 l2 W (hT.go hW) (hT10.next hW))
      · refine trn_nd n d l w hT hT10 h c22 (fun W => ?_)
        have := rdir_any d W
        rw [decide_eq_false hk] at this
        exact this
    · refine trn_nb n d l w hT hT10 h (fun W => ?_)
      have := rbinary_any n W
      rw [decide_eq_false hb] at this
      exact this.mono fun _ _ ⟨h1, h2⟩ => ⟨h1, h2.symm⟩
end Go.Proofs.YtecoajeejombbaaGreatDoor

namespace Go.Proofs.YtecoajeejombbaaGreatDoor
open Go.ChangeShapes Go.WideShapes Go.ChangeAt Go.RowKit

theorem Tryz.own : ownKnob Tryz.prog.godebug = none := by kernel_rfl
def tabCells : Array Value := ((List.range 12).flatMap fun i => (List.range 4).map fun k => rowV i k).toArray
def layCells (c : Array Value) : Obj → Obj
  | .cells _ t frozen => .cells c t frozen
  | o => o
end Go.Proofs.YtecoajeejombbaaGreatDoor

set_option maxRecDepth 100000
namespace Go.Proofs.YtecoajeejombbaaGreatDoor
open Go.ChangeShapes Go.WideShapes Go.ChangeAt Go.RowKit

/-- Go's tables, as cells -/
def firstCells : Array Value := (((List.replicate 128 240 ++ List.replicate 66 241 ++ List.replicate 30 2 ++ [19] ++ List.replicate 12 3 ++ [35] ++ List.replicate 2 3 ++ [52] ++ List.replicate 3 4 ++ [68] ++ List.replicate 11 241 : List Int)).map fun n => Value.int .u8 n).toArray
def rangeCells : Array Value := ((([128, 191, 160, 191, 128, 159, 144, 191, 128, 143] ++ List.replicate 22 0 : List Int)).map fun n => Value.int .u8 n).toArray
def db32Cells : Array Value := (([0, 1, 28, 2, 29, 14, 24, 3, 30, 22, 20, 15, 25, 17, 4, 8, 31, 27, 13, 23, 21, 19, 16, 7, 26, 12, 18, 6, 11, 5, 10, 9] : List Int).map fun n => Value.int .u8 n).toArray
def db64Cells : Array Value := ((([0, 1, 56, 2, 57, 49, 28, 3, 61, 58, 42, 50, 38, 29, 17, 4, 62, 47, 59, 36, 45, 43, 51, 22, 53, 39, 33, 30, 24, 18, 12, 5] ++ [63, 55, 48, 27, 60, 41, 37, 16, 46, 35, 44, 21, 52, 32, 23, 11, 54, 26, 40, 15, 34, 20, 31, 10, 25, 14, 19, 9, 13, 8, 7, 6] : List Int)).map fun n => Value.int .u8 n).toArray
def pow10Cells : Array Value := ((List.range 20).map fun k => Value.int .u64 ((10 ^ k : Nat) : Int)).toArray
noncomputable def laidWorld8 (os : Os) : World :=
  { World.holding Tryz.prog os ⟨#[], #[], []⟩ with heap := ((((((World.holding Tryz.prog os ⟨#[], #[], []⟩).heap.modify 0 (layCells tabCells)).modify 3 (layCells pow10Cells)).modify 4 (layCells db32Cells)).modify 5 (layCells db64Cells)).modify 6 (layCells firstCells)).modify 7 (layCells rangeCells) }
theorem laid_tail {P : Program} {W : World} {x : String × DataW Unit} {r : List (String × DataW Unit)} (h : laidMet P (x :: r) W) : laidMet P r W := by
  obtain ⟨ps, ⟨g, t, cs, fuel, p, q, _, _, _, _, hr, rfl⟩, hn, hc⟩ := h
  refine ⟨q, hr, ?_, fun b off hm => hc b off (by simp [hm])⟩
  exact (List.nodup_append.1 hn).2.1
theorem pw10_of_list {W : World} {x y : String × DataW Unit} {r : List (String × DataW Unit)} (h : laidMet Tryz.prog (x :: y :: ("internal/strconv.uint64pow10", Lib.tabData .u64 Lib.pow10Tab) :: r) W) : Tb10 W :=
  Lib.tabIs_of_head (P := Tryz.prog) (name := "internal/strconv.uint64pow10") (k := .u64) (zs := Lib.pow10Tab) (g := 3) (t := 188) (e := 23) (n := 20) (by kernel_rfl) (by kernel_rfl) (by kernel_rfl) (by kernel_rfl) (by kernel_rfl) (by kernel_rfl) (laid_tail (laid_tail h))
theorem tab_of_list {W : World} {x0 x1 x2 x3 : String × DataW Unit} {r : List (String × DataW Unit)} (h : laidMet Tryz.prog (x0 :: x1 :: x2 :: x3 :: ("caliper/desc.rows", Rows.laid_caliper_desc_rows) :: r) W) : Tab W :=
  tab_of_laid (laid_tail (laid_tail (laid_tail (laid_tail h))))
section
variable {H : Type} {enc : TypeId × Value → H} {W : World} {r : Reach} {base b : Nat} {sp : Nat → Bool} {held : Bool} {t : TypeId} {n : Nat} {v : Value} {d : DataW H} {p : List MemPlace}
end
end Go.Proofs.YtecoajeejombbaaGreatDoor
