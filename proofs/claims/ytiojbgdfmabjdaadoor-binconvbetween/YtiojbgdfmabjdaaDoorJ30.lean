/-
  Texts that the proof leans on.
-/
import Derived.Test.YtiojbgdfmabjdaaDoorJ27
import Derived.StillTail
import Derived.Below
import Derived.WalkKit
import Derived.Deep.Cut
import Derived.Deep.CutRange
import Derived.Test.YtiojbgdfmabjdaaDoorJ4
set_option linter.unusedVariables false
set_option linter.unusedSectionVars false
set_option linter.unusedSimpArgs false
set_option maxRecDepth 20000
namespace Go.Proofs.YtiojbgdfmabjdaaDoor
open Go.RowKit
section
/-- a block holds four words of a number, from a place on -/
structure Four (w : World) (g o k : Nat) : Prop where
  cell : ∀ i, i < 4 → w.cell? ⟨g, o + i, none⟩ = some (.int .u64 (W4 k i))
theorem Four.of {w : World} {g o k : Nat} (h0 : w.cell? ⟨g, o + 0, none⟩ = some (.int .u64 (W4 k 0))) (h1 : w.cell? ⟨g, o + 1, none⟩ = some (.int .u64 (W4 k 1))) (h2 : w.cell? ⟨g, o + 2, none⟩ = some (.int .u64 (W4 k 2))) (h3 : w.cell? ⟨g, o + 3, none⟩ = some (.int .u64 (W4 k 3))) : Four w g o k :=
  ⟨fun i hi => by
    have : i = 0 ∨ i = 1 ∨ i = 2 ∨ i = 3 := by omega
    rcases this with rfl | rfl | rfl | rfl <;> assumption⟩
theorem Four.next {w w' : World} {g o k : Nat} (h : Four w g o k) (hg : g < w.heap.size) (hb : Below w.heap.size w w') : Four w' g o k :=
  ⟨fun i hi => by rw [hb.cell (p := ⟨g, o + i, none⟩) hg]; exact h.cell i hi⟩
/-- a block holds a datum -/
structure Dc (w : World) (g : Nat) (c : Int) (s b : Bool) (x : Int) (k : Nat) : Prop where
  c0 : w.cell? ⟨g, 0, none⟩ = some (.int .i64 c)
  c1 : w.cell? ⟨g, 1, none⟩ = some (.bool s)
  c2 : w.cell? ⟨g, 2, none⟩ = some (.bool b)
  c3 : w.cell? ⟨g, 3, none⟩ = some (.int .i64 x)
  c4 : w.cell? ⟨g, 4, none⟩ = some (.int .u64 (W4 k 0))
  c5 : w.cell? ⟨g, 5, none⟩ = some (.int .u64 (W4 k 1))
  c6 : w.cell? ⟨g, 6, none⟩ = some (.int .u64 (W4 k 2))
  c7 : w.cell? ⟨g, 7, none⟩ = some (.int .u64 (W4 k 3))
theorem Dc.next {w w' : World} {g : Nat} {c : Int} {s b : Bool} {x : Int} {k : Nat} (h : Dc w g c s b x k) (hg : g < w.heap.size) (hb : Below w.heap.size w w') : Dc w' g c s b x k :=
  ⟨by rw [hb.cell (p := ⟨g, 0, none⟩) hg, h.c0], by rw [hb.cell (p := ⟨g, 1, none⟩) hg, h.c1], by rw [hb.cell (p := ⟨g, 2, none⟩) hg, h.c2], by rw [hb.cell (p := ⟨g, 3, none⟩) hg, h.c3],
   by rw [hb.cell (p := ⟨g, 4, none⟩) hg, h.c4], by rw [hb.cell (p := ⟨g, 5, none⟩) hg, h.c5], by rw [hb.cell (p := ⟨g, 6, none⟩) hg, h.c6], by rw [hb.cell (p := ⟨g, 7, none⟩) hg, h.c7]⟩
/-- what stands in the words below i -/
def mo (A B i : Nat) : Bool := decide (val (W4 B) i < val (W4 A) i)
theorem mo_zero (A B : Nat) : mo A B 0 = false := by unfold mo; rfl
theorem mo_same {A B i : Nat} (h : W4 A i = W4 B i) : mo A B (i + 1) = mo A B i := by
  unfold mo
  simp only [val, h]
  congr 1
  simp
theorem mo_other {A B i : Nat} (h : W4 A i ≠ W4 B i) : mo A B (i + 1) = decide (W4 B i < W4 A i) := by
  unfold mo
  have a1 := val_bd (W4_words A) i
  have b1 := val_bd (W4_words B) i
  apply decide_eq_decide.2
  simp only [val]
  generalize (18446744073709551616 : Int) ^ i = P at *
  by_cases h1 : W4 B i < W4 A i
  · have : (W4 B i + 1) * P ≤ W4 A i * P := Int.mul_le_mul_of_nonneg_right (by omega) (by omega)
    rw [Int.add_mul] at this
    exact ⟨fun _ => h1, fun _ => by omega⟩
  · have : (W4 A i + 1) * P ≤ W4 B i * P := Int.mul_le_mul_of_nonneg_right (by omega) (by omega)
    rw [Int.add_mul] at this
    exact ⟨fun hh => by omega, fun hh => absurd hh h1⟩
theorem mo_four {A B : Nat} (hA : A < 2 ^ 256) (hB : B < 2 ^ 256) : mo A B 4 = decide (B < A) := by
  unfold mo
  rw [W4_val4 hA, W4_val4 hB]
  simp
attribute [local irreducible] W4 mo
end
section
attribute [local irreducible] W4 NT NV

/-- a datum that does not signal -/
def hush (d : Dat) : Dat := ⟨d.c, d.s, false, d.x, d.k⟩
def quV (n : Int) (B : Nat) : Nat := if goodN n B then pkV n (hush (unD n B)) else 0
def quE (n : Int) (B : Nat) : Int := if goodN n B then pkE n (hush (unD n B)) else 1
end
section
attribute [local irreducible] W4 NT NV

section
variable (n : Int) (B R : Nat) (E Er : Int) (w : World) (c x : Int) (s g : Bool) (k : Nat)
variable (hT : Tab w)
include hT
set_option maxHeartbeats 1000000 in
theorem quiet_g
    (c11 : ∀ w, Tab w → Calls Tryd.prog 12 #[.int .i64 n, A4 B] w fun r w' => r = .returned (.tuple #[DV c s g x k, .int .i64 0]) ∧ Below w.heap.size w w')
    (c13 : ∀ w, Tab w → Calls Tryd.prog 17 #[.int .i64 n, DV c s false x k] w fun r w' => r = .returned (.tuple #[A4 R, .int .i64 Er]) ∧ Below w.heap.size w w')
    : Calls Tryd.prog 14 #[.int .i64 n, A4 B] w fun x w' => x = .returned (.tuple #[A4 R, .int .i64 Er]) ∧ Below w.heap.size w w' := by
  have hsm := cell_set_map
  go_enter Tryd.func14, Tryd.ntmps14
  go_wp2_with (first
    | (go_at_call 12; refine (c11 _ ((hT.alloc _).alloc _)).mono ?_; rintro x w1 ⟨rfl, hb1⟩; obtain ⟨hc1, hf1⟩ := bcell hb1; have hz1_0 : w.heap.size < w1.heap.size := lt_below hb1 ltg; have hl1_0 := Nat.le_of_lt hz1_0; have hz1_1 : w.heap.size + 1 < w1.heap.size := lt_below hb1 ltg; have hl1_1 := Nat.le_of_lt hz1_1; have hA1 := bnext (w0 := w) bgo hb1; have hs1 := hA1.size; clear hb1)
    | (go_at_call 17; refine (c13 _ (hT.go bgo)).mono ?_; rintro x w2 ⟨rfl, hb2⟩; obtain ⟨hc2, hf2⟩ := bcell hb2; have hz2_0 : w.heap.size < w2.heap.size := lt_below hb2 ltg; have hl2_0 := Nat.le_of_lt hz2_0; have hz2_1 : w.heap.size + 1 < w2.heap.size := lt_below hb2 ltg; have hl2_1 := Nat.le_of_lt hz2_1; have hz2_2 : w1.heap.size < w2.heap.size := lt_below hb2 ltg; have hl2_2 := Nat.le_of_lt hz2_2; have hA2 := bnext (w0 := w) bgo hb2; have hs2 := hA2.size; clear hb2))
  exact bodyPost_ret (v := .tuple #[A4 R, .int .i64 Er]) (by simp only [results, Tryd.results14]; go_simp) rfl ⟨rfl, bgo⟩
set_option maxHeartbeats 1000000 in
theorem quiet_b
    (c11 : ∀ w, Tab w → Calls Tryd.prog 12 #[.int .i64 n, A4 B] w fun r w' => r = .returned (.tuple #[DV c s g x k, .int .i64 1]) ∧ Below w.heap.size w w')
    : Calls Tryd.prog 14 #[.int .i64 n, A4 B] w fun x w' => x = .returned (.tuple #[Z4, .int .i64 1]) ∧ Below w.heap.size w w' := by
  have hsm := cell_set_map
  go_enter Tryd.func14, Tryd.ntmps14
  go_wp2_with (go_at_call 12; refine (c11 _ ((hT.alloc _).alloc _)).mono ?_; rintro x w1 ⟨rfl, hb1⟩; obtain ⟨hc1, hf1⟩ := bcell hb1; have hz1_0 : w.heap.size < w1.heap.size := lt_below hb1 ltg; have hl1_0 := Nat.le_of_lt hz1_0; have hz1_1 : w.heap.size + 1 < w1.heap.size := lt_below hb1 ltg; have hl1_1 := Nat.le_of_lt hz1_1; have hA1 := bnext (w0 := w) bgo hb1; have hs1 := hA1.size; clear hb1)
  exact bodyPost_ret (v := .tuple #[Z4, .int .i64 1]) (by simp only [results, Tryd.results14]; go_simp) rfl ⟨rfl, bgo⟩
end
theorem qu_any (n : Int) (B : Nat) (w : World) (hT : Tab w) (hB : B < 2 ^ 256) :
    Calls Tryd.prog 14 #[.int .i64 n, A4 B] w fun x w' => x = .returned (.tuple #[A4 (quV n B), .int .i64 (quE n B)]) ∧ Below w.heap.size w w' := by
  have c11 := fun w hT => unpack_any n B w hT hB
  unfold quV quE
  by_cases h : goodN n B
  · rw [if_pos h, if_pos h]
    rw [show unE n B = 0 from if_pos h] at c11
    have c13 := fun w hT => pack_any n (hush (unD n B)) w hT (unD_k n B)
    exact quiet_g n B _ _ w _ _ _ _ _ hT c11 c13
  · rw [if_neg h, if_neg h, Z4_eq]
    rw [show unE n B = 1 from if_neg h] at c11
    exact quiet_b n B w _ _ _ _ _ hT c11
end
end Go.Proofs.YtiojbgdfmabjdaaDoor
