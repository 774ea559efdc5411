/-
  The law BinaryUnpacks: it returns true.
-/
import Derived.Test.YtemhpdhplbcgjaaDoorRv
import Derived.Test.YtemhpdhplbcgjaaDoorLb
set_option linter.unusedVariables false
set_option linter.unusedSectionVars false
set_option linter.unusedSimpArgs false
set_option maxRecDepth 20000
namespace Go.Proofs.YtemhpdhplbcgjaaDoor
open Go.RowKit
attribute [local irreducible] W4

section
variable (n : Int) (B : Nat) (w : World) (hT : Tab w) (Xc Xx E : Int) (Xs Xg : Bool) (Xk : Nat)
set_option maxHeartbeats 2000000 in
theorem unpacks_v
    (c10 : ∀ w, Tab w → Calls Tryd.prog 10 #[.int .i64 n, A4 B] w fun x w' => x = .returned (.tuple #[DV Xc Xs Xg Xx Xk, .int .i64 E]) ∧ Below w.heap.size w w')
    (c11 : ∀ w, Calls Tryd.prog 11 #[.int .i64 n, A4 B] w fun x w' => x = .returned (.tuple #[DV Xc Xs Xg Xx Xk, .int .i64 E]) ∧ Below w.heap.size w w') (hT : Tab w) :
    Calls Tryd.prog 3 #[.int .i64 n, A4 B] w fun x w' => x = .returned (.bool true) ∧ Below w.heap.size w w' := by
  have h27 := DV_self Xc Xs Xg Xx Xk
  go_enter Tryd.func3, Tryd.ntmps3
  go_wp2_with (first
    | (go_at_call 9; refine (awake_any _ (hT.alloc _)).mono ?_; rintro x w1 ⟨rfl, hb1⟩; obtain ⟨hc1, hf1⟩ := bcell hb1; have hz1_0 : w.heap.size < w1.heap.size := lt_below hb1 (by first | with_reducible assumption | (simp; done) | (simp; omega)); have hl1_0 := Nat.le_of_lt hz1_0; have hA1 := bnext (w0 := w) (by (repeat (first | with_reducible assumption | with_reducible exact Below.refl _ _ | with_reducible refine Below.setCell ?_ (by first | omega | (dsimp only; omega) | (simp <;> omega)) _ | with_reducible refine Below.alloc ?_ (by first | omega | (simp <;> omega)) _ | with_reducible refine Below.drew ?_))) hb1; have hs1 := hA1.size; clear hb1)
    | (go_at_call 10; refine (c10 _ (hT.go hA1)).mono ?_; rintro x w2 ⟨rfl, hb2⟩; obtain ⟨hc2, hf2⟩ := bcell hb2; have hz2_0 : w.heap.size < w2.heap.size := lt_below hb2 (by first | with_reducible assumption | (simp; done) | (simp; omega)); have hl2_0 := Nat.le_of_lt hz2_0; have hA2 := bnext (w0 := w) (by (repeat (first | with_reducible assumption | with_reducible exact Below.refl _ _ | with_reducible refine Below.setCell ?_ (by first | omega | (dsimp only; omega) | (simp <;> omega)) _ | with_reducible refine Below.alloc ?_ (by first | omega | (simp <;> omega)) _ | with_reducible refine Below.drew ?_))) hb2; have hs2 := hA2.size; clear hb2)
    | (go_at_call 11; refine (c11 _).mono ?_; rintro x w3 ⟨rfl, hb3⟩; obtain ⟨hc3, hf3⟩ := bcell hb3; have hz3_0 : w.heap.size < w3.heap.size := lt_below hb3 (by first | with_reducible assumption | (simp; done) | (simp; omega)); have hl3_0 := Nat.le_of_lt hz3_0; have hz3_1 : w2.heap.size < w3.heap.size := lt_below hb3 (by first | with_reducible assumption | (simp; done) | (simp; omega)); have hl3_1 := Nat.le_of_lt hz3_1; have hA3 := bnext (w0 := w) (by (repeat (first | with_reducible assumption | with_reducible exact Below.refl _ _ | with_reducible refine Below.setCell ?_ (by first | omega | (dsimp only; omega) | (simp <;> omega)) _ | with_reducible refine Below.alloc ?_ (by first | omega | (simp <;> omega)) _ | with_reducible refine Below.drew ?_))) hb3; have hs3 := hA3.size; clear hb3))
  go_ret
  exact ⟨rfl, by (repeat (first | with_reducible assumption | with_reducible exact Below.refl _ _ | with_reducible refine Below.setCell ?_ (by first | omega | (dsimp only; omega) | (simp <;> omega)) _ | with_reducible refine Below.alloc ?_ (by first | omega | (simp <;> omega)) _ | with_reducible refine Below.drew ?_))⟩
end
theorem binaryUnpacks_any (n : Int) (B : Nat) (w : World) (hT : Tab w) (hB : B < 2 ^ 256) :
    Calls Tryd.prog 3 #[.int .i64 n, A4 B] w fun x w' => x = .returned (.bool true) ∧ Below w.heap.size w w' :=
  unpacks_v n B w _ _ _ _ _ _ (fun w hT => unpack_any n B w hT hB) (fun w => runpack_any n B w hB) hT
end Go.Proofs.YtemhpdhplbcgjaaDoor
