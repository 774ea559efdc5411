/-
  Parts, opened; and the table of powers of ten, from the listed variables.
-/
import Derived.Test.YtgjdhfmpemionaaDoorGv
import Derived.Test.YtgjdhfmpemionaaDoorLf
import Derived.Test.YtgjdhfmpemionaaDoorRows
set_option linter.unusedVariables false
set_option linter.unusedSimpArgs false
set_option maxRecDepth 100000
namespace Go.Proofs.YtgjdhfmpemionaaDoor
open Go.ChangeShapes Go.WideShapes Go.ChangeAt Go.RowKit

abbrev Pw10 (w : World) : Prop := Tb10 w
theorem Tryd.cells28 : Tryd.prog.cellsOf 28 = 5 := by kernel_rfl
theorem Tryd.cells3 : Tryd.prog.cellsOf 3 = 1 := by kernel_rfl
theorem Tryd.cells4 : Tryd.prog.cellsOf 4 = 1 := by kernel_rfl
theorem Tryd.cells9 : Tryd.prog.cellsOf 9 = 1 := by kernel_rfl
theorem Tryd.rec28 : Tryd.prog.readableRec 28 = true := by kernel_rfl
theorem Tryd.row28 : (28 : TypeId) < Tryd.prog.types.size := of_decide_eq_true (by kernel_rfl)
theorem laid_tail {P : Program} {W : World} {x : String × DataW Unit} {r : List (String × DataW Unit)} (h : laidMet P (x :: r) W) : laidMet P r W := by
  obtain ⟨ps, ⟨g, t, cs, fuel, p, q, _, _, _, _, hr, rfl⟩, hn, hc⟩ := h
  refine ⟨q, hr, ?_, fun b off hm => hc b off (by simp [hm])⟩
  exact (List.nodup_append.1 hn).2.1
theorem pw10_of_list {W : World} {x y : String × DataW Unit} {r : List (String × DataW Unit)} (h : laidMet Tryd.prog (x :: y :: ("internal/strconv.uint64pow10", Lib.tabData .u64 Lib.pow10Tab) :: r) W) : Tb10 W :=
  Lib.tabIs_of_head (P := Tryd.prog) (name := "internal/strconv.uint64pow10") (k := .u64) (zs := Lib.pow10Tab) (g := 0) (t := 90) (e := 39) (n := 20) (by kernel_rfl) (by kernel_rfl) (by kernel_rfl) (by kernel_rfl) (by kernel_rfl) (by kernel_rfl) (laid_tail (laid_tail h))
section
variable {H : Type} {enc : TypeId × Value → H} {W : World} {r : Reach} {base b : Nat} {sp : Nat → Bool} {held : Bool} {t : TypeId} {n : Nat} {v : Value} {d : DataW H} {p : List MemPlace}
theorem open_parts (hok : Value.okWide Tryd.prog W r base 28 v) (h : DataW.Trod enc Tryd.prog W b sp held 28 v d p) : ∃ P : Prt, (-9223372036854775808 ≤ P.ex ∧ P.ex ≤ 9223372036854775807) ∧ v = P.v ∧ p = [] := by
  obtain ⟨cs, rfl, hcs⟩ := okWide_struct Tryd.underlying28 hok
  rw [Tryd.cells28] at hcs
  obtain ⟨fuel, hf⟩ := h
  obtain ⟨xs, n, _, hx, hl, hlen, hfi⟩ := DataW.trod_struct Tryd.underlying28 hf
  have g0 : DataW.trod enc Tryd.prog W b sp held n 3 (((Value.agg cs).cells.toList.drop 0).take (Tryd.prog.cellsOf 3)) = xs[0]? := hfi 0 _ rfl
  have g1 : DataW.trod enc Tryd.prog W b sp held n 4 (((Value.agg cs).cells.toList.drop 1).take (Tryd.prog.cellsOf 4)) = xs[1]? := hfi 1 _ rfl
  have g2 : DataW.trod enc Tryd.prog W b sp held n 4 (((Value.agg cs).cells.toList.drop 2).take (Tryd.prog.cellsOf 4)) = xs[2]? := hfi 2 _ rfl
  have g3 : DataW.trod enc Tryd.prog W b sp held n 9 (((Value.agg cs).cells.toList.drop 3).take (Tryd.prog.cellsOf 9)) = xs[3]? := hfi 3 _ rfl
  have g4 : DataW.trod enc Tryd.prog W b sp held n 3 (((Value.agg cs).cells.toList.drop 4).take (Tryd.prog.cellsOf 3)) = xs[4]? := hfi 4 _ rfl
  match xs, hlen with
  | [y0, y1, y2, y3, y4], _ =>
    obtain ⟨l0, rfl⟩ : ∃ l : List Value, cs = l.toArray := ⟨cs.toList, by simp⟩
    match l0, hcs with
    | [v0, v1, v2, v3, v4], _ =>
      rw [Tryd.cells3] at g0 g4
      rw [Tryd.cells4] at g1 g2
      rw [Tryd.cells9] at g3
      obtain ⟨z0, e0, q0, _⟩ := DataW.trod_int Tryd.underlying3 g0
      obtain ⟨b1, e1, q1⟩ := DataW.trod_bool Tryd.underlying4 g1
      obtain ⟨b2, e2, q2⟩ := DataW.trod_bool Tryd.underlying4 g2
      obtain ⟨s3, e3, q3, _⟩ := DataW.trod_string Tryd.underlying9 g3
      obtain ⟨z4, e4, q4, w4⟩ := DataW.trod_int Tryd.underlying3 g4
      simp [Value.cells] at e0 e1 e2 e3 e4
      subst e0 e1 e2 e3 e4
      refine ⟨⟨z0, b1, b2, s3.data.toList, z4⟩, bounds_i64 w4, ?_, ?_⟩
      · show _ = PV _ _ _ _ _
        unfold PV
        dsimp only
        rw [B_of]
      · have hp := congrArg Prod.snd hx
        simp only [List.flatMap_cons, List.flatMap_nil] at hp
        rw [show p = _ from hp]
        rw [q0, q1, q2, q3, q4]
        rfl
end
end Go.Proofs.YtgjdhfmpemionaaDoor
