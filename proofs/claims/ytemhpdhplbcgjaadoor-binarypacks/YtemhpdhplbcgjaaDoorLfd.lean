/-
  Patterns and data, opened and shut again.
-/
import Derived.Test.YtemhpdhplbcgjaaDoorBt
import Derived.Test.YtemhpdhplbcgjaaDoorLfw
set_option linter.unusedSectionVars false
set_option linter.unusedVariables false
set_option linter.unusedSimpArgs false
set_option maxRecDepth 100000
namespace Go.Proofs.YtemhpdhplbcgjaaDoor
open Go.ChangeShapes Go.WideShapes Go.ChangeAt Go.RowKit

theorem Tryd.cells27 : Tryd.prog.cellsOf 27 = 8 := by kernel_rfl
theorem Tryd.cells3 : Tryd.prog.cellsOf 3 = 1 := by kernel_rfl
theorem Tryd.cells4 : Tryd.prog.cellsOf 4 = 1 := by kernel_rfl
theorem Tryd.rec27 : Tryd.prog.readableRec 27 = true := by kernel_rfl
theorem Tryd.row27 : (27 : TypeId) < Tryd.prog.types.size := of_decide_eq_true (by kernel_rfl)
/-- words by their number -/
theorem words_of {x : Nat → Int} (hx : Words x) : ∃ A, A < 2 ^ 256 ∧ ∀ i, i < 4 → x i = W4 A i := by
  obtain ⟨A, hA, _, hv⟩ := words_A4 hx
  exact ⟨A, hA, val_inj hx (W4_words A) 4 (by rw [W4_val4 hA]; exact hv)⟩

section
variable {H : Type} {enc : TypeId × Value → H} {W : World} {r : Reach} {base b : Nat} {sp : Nat → Bool} {held : Bool} {t : TypeId} {n : Nat} {v : Value} {d : DataW H} {p : List MemPlace}
theorem open_bits (hok : Value.okWide Tryd.prog W r base 24 v) (h : DataW.Trod enc Tryd.prog W b sp held 24 v d p) : ∃ A, A < 2 ^ 256 ∧ v = A4 A ∧ p = [] := by
  obtain ⟨x, hx, rfl, hp⟩ := open_words Tryd.underlying24 (by kernel_rfl) hok h
  obtain ⟨A, hA, he, _⟩ := words_A4 hx
  exact ⟨A, hA, he, hp⟩
theorem open_dat (hok : Value.okWide Tryd.prog W r base 27 v) (h : DataW.Trod enc Tryd.prog W b sp held 27 v d p) : ∃ D : Dat, D.k < 2 ^ 256 ∧ v = D.v ∧ p = [] := by
  obtain ⟨cs, rfl, hcs⟩ := okWide_struct Tryd.underlying27 hok
  rw [Tryd.cells27] at hcs
  obtain ⟨fuel, hf⟩ := h
  obtain ⟨xs, n, _, hx, hl, hlen, hfi⟩ := DataW.trod_struct Tryd.underlying27 hf
  have g0 : DataW.trod enc Tryd.prog W b sp held n 3 (((Value.agg cs).cells.toList.drop 0).take (Tryd.prog.cellsOf 3)) = xs[0]? := hfi 0 _ rfl
  have g1 : DataW.trod enc Tryd.prog W b sp held n 4 (((Value.agg cs).cells.toList.drop 1).take (Tryd.prog.cellsOf 4)) = xs[1]? := hfi 1 _ rfl
  have g2 : DataW.trod enc Tryd.prog W b sp held n 4 (((Value.agg cs).cells.toList.drop 2).take (Tryd.prog.cellsOf 4)) = xs[2]? := hfi 2 _ rfl
  have g3 : DataW.trod enc Tryd.prog W b sp held n 3 (((Value.agg cs).cells.toList.drop 3).take (Tryd.prog.cellsOf 3)) = xs[3]? := hfi 3 _ rfl
  have g4 : DataW.trod enc Tryd.prog W b sp held n 24 (((Value.agg cs).cells.toList.drop 4).take (Tryd.prog.cellsOf 24)) = xs[4]? := hfi 4 _ rfl
  match xs, hlen with
  | [y0, y1, y2, y3, y4], _ =>
    obtain ⟨l0, rfl⟩ : ∃ l : List Value, cs = l.toArray := ⟨cs.toList, by simp⟩
    match l0, hcs with
    | [v0, v1, v2, v3, v4, v5, v6, v7], _ =>
      rw [Tryd.cells3] at g0 g3
      rw [Tryd.cells4] at g1 g2
      obtain ⟨z0, e0, q0, _⟩ := DataW.trod_int Tryd.underlying3 g0
      obtain ⟨b1, e1, q1⟩ := DataW.trod_bool Tryd.underlying4 g1
      obtain ⟨b2, e2, q2⟩ := DataW.trod_bool Tryd.underlying4 g2
      obtain ⟨z3, e3, q3, _⟩ := DataW.trod_int Tryd.underlying3 g3
      obtain ⟨us, m, _, hu, _, hul, hui⟩ := DataW.trod_array Tryd.underlying24 g4
      match us, hul with
      | [u0, u1, u2, u3], _ =>
        have k0 := hui 0 (by decide)
        have k1 := hui 1 (by decide)
        have k2 := hui 2 (by decide)
        have k3 := hui 3 (by decide)
        rw [show Tryd.prog.cellsOf 22 = 1 by kernel_rfl] at k0 k1 k2 k3
        rw [show Tryd.prog.cellsOf 24 = 4 by kernel_rfl] at k0 k1 k2 k3
        obtain ⟨a0, f0, r0, w0⟩ := DataW.trod_int Tryd.underlying22 k0
        obtain ⟨a1, f1, r1, w1⟩ := DataW.trod_int Tryd.underlying22 k1
        obtain ⟨a2, f2, r2, w2⟩ := DataW.trod_int Tryd.underlying22 k2
        obtain ⟨a3, f3, r3, w3⟩ := DataW.trod_int Tryd.underlying22 k3
        simp [Value.cells] at e0 e1 e2 e3 f0 f1 f2 f3
        subst e0 e1 e2 e3 f0 f1 f2 f3
        have hw : Words (fun i => match i with | 0 => a0 | 1 => a1 | 2 => a2 | 3 => a3 | _ => 0) := fun i => by
          match i with
          | 0 => exact bounds_u64 w0
          | 1 => exact bounds_u64 w1
          | 2 => exact bounds_u64 w2
          | 3 => exact bounds_u64 w3
          | (j + 4) => exact ⟨Int.le_refl _, (by decide : (0 : Int) ≤ 18446744073709551615)⟩
        obtain ⟨A, hA, hi⟩ := words_of hw
        have i0 : a0 = W4 A 0 := hi 0 (by decide)
        have i1 : a1 = W4 A 1 := hi 1 (by decide)
        have i2 : a2 = W4 A 2 := hi 2 (by decide)
        have i3 : a3 = W4 A 3 := hi 3 (by decide)
        refine ⟨⟨z0, b1, b2, z3, A⟩, hA, ?_, ?_⟩
        · unfold Dat.v DV
          dsimp only
          rw [← i0, ← i1, ← i2, ← i3]
        · have hp := congrArg Prod.snd hx
          simp only [List.flatMap_cons, List.flatMap_nil] at hp
          simp at q0 q1 q2 q3 hu r0 r1 r2 r3
          rw [show p = _ from hp]
          rw [q0, q1, q2, q3, hu, r0, r1, r2, r3]
          rfl
theorem bits_stay {W' : World} {sp' : Nat → Bool} (h : DataW.Trod enc Tryd.prog W 0 (fun _ => true) true 24 v d []) : DataW.Trod enc Tryd.prog W' 0 sp' true 24 v d [] :=
  WideElems.Trod_stays Tryd.laidOut (by kernel_rfl) (of_decide_eq_true (by kernel_rfl)) h (by simp) (by simp)
theorem dat_stay {W' : World} {sp' : Nat → Bool} (h : DataW.Trod enc Tryd.prog W 0 (fun _ => true) true 27 v d []) : DataW.Trod enc Tryd.prog W' 0 sp' true 27 v d [] :=
  WideElems.Trod_stays Tryd.laidOut Tryd.rec27 Tryd.row27 h (by simp) (by simp)
end
end Go.Proofs.YtemhpdhplbcgjaaDoor
