/-
  Texts that the proof leans on.
-/
import Derived.Test.YtiojbgdfmabjdaaGreatDoorJ17
import Derived.Test.YtiojbgdfmabjdaaGreatDoorJ4
set_option linter.unusedVariables false
set_option linter.unusedSectionVars false
set_option linter.unusedSimpArgs false
set_option maxRecDepth 20000
namespace Go.Proofs.YtiojbgdfmabjdaaGreatDoor
open Go.RowKit
section
attribute [local irreducible] W4
/-- the exponent, brought within reach -/
def wiZ (f : Nat) (l m lead x : Int) : Int := min (max x (l - 2 - lead)) (m + ((f : Int) + 1) - lead)
set_option maxHeartbeats 1000000 in
theorem within_any (n : Int) (nm : ByteArray) (wd : Int) (f e : Nat) (l m lead x : Int) (w : World) (hf : f ≤ 300) (hl : -100000 ≤ l ∧ l ≤ 100000) (hm : -100000 ≤ m ∧ m ≤ 100000) (hd : -100000 ≤ lead ∧ lead ≤ 100000) :
    Calls Tryz.prog 57 #[DI n nm wd f e l m, .int .i64 lead, .int .i64 x] w fun r w' => r = .returned (.int .i64 (wiZ f l m lead x)) ∧ Below w.heap.size w w' := by
  go_enter Tryz.func57, Tryz.ntmps57
  go_wp2
  go_ret
  exact ⟨by first | rfl | simp [wiZ], bgo⟩
section
variable (n : Int) (nm : ByteArray) (wd : Int) (f e : Nat) (l m d : Int) (s : Bool) (R : Nat) (E : Int) (w : World) (hT : Tab w)
include hT
set_option maxHeartbeats 1000000 in
theorem overflow_i (h : inB d s = true)
    (c56 : ∀ W, Tab W → Calls Tryz.prog 11 #[.int .i64 n, .agg #[.int .i64 2, .bool s, .bool false, .int .i64 0, .int .u64 0, .int .u64 0, .int .u64 0, .int .u64 0]] W fun r w' => r = .returned (.tuple #[A4 R, .int .i64 E]) ∧ Below W.heap.size W w') :
    Calls Tryz.prog 61 #[DI n nm wd f e l m, .int .i64 d, .bool s] w fun r w' => r = .returned (.tuple #[A4 R, .int .i64 10, .int .i64 E]) ∧ Below w.heap.size w w' := by
  have hsm := cell_set_map
  have c64 := infinite_any d s
  rw [h] at c64
  go_enter Tryz.func61, Tryz.ntmps61
  go_wp2_with (first
    | (go_at_call 92; refine (c64 _).mono ?_; rintro r w0 ⟨rfl, rfl⟩)
    | (go_at_call 11; refine (c56 _ (hT.go bgo)).mono ?_; rintro r w1 ⟨rfl, hb1⟩; obtain ⟨hc1, hf1⟩ := bcell hb1; have hz1_0 : w.heap.size < w1.heap.size := lt_below hb1 ltg; have hl1_0 := Nat.le_of_lt hz1_0; have hz1_1 : w.heap.size + 1 < w1.heap.size := lt_below hb1 ltg; have hl1_1 := Nat.le_of_lt hz1_1; have hz1_2 : w.heap.size + 2 < w1.heap.size := lt_below hb1 ltg; have hl1_2 := Nat.le_of_lt hz1_2; have hz1_3 : w.heap.size + 1 + 1 < w1.heap.size := lt_below hb1 ltg; have hl1_3 := Nat.le_of_lt hz1_3; have hA1 := bnext (w0 := w) bgo hb1; have hs1 := hA1.size; clear hb1))
  exact bodyPost_ret (v := .tuple #[A4 R, .int .i64 10, .int .i64 E]) (by simp only [results, Tryz.results61]; go_simp) rfl ⟨rfl, bgo⟩
set_option maxHeartbeats 1000000 in
theorem overflow_l (h : inB d s = false)
    (c65 : ∀ W, Tab W → Calls Tryz.prog 93 #[.int .i64 n, .bool s] W fun r w' => r = .returned (.tuple #[A4 R, .int .i64 E]) ∧ Below W.heap.size W w') :
    Calls Tryz.prog 61 #[DI n nm wd f e l m, .int .i64 d, .bool s] w fun r w' => r = .returned (.tuple #[A4 R, .int .i64 10, .int .i64 E]) ∧ Below w.heap.size w w' := by
  have hsm := cell_set_map
  have c64 := infinite_any d s
  rw [h] at c64
  go_enter Tryz.func61, Tryz.ntmps61
  go_wp2_with (first
    | (go_at_call 92; refine (c64 _).mono ?_; rintro r w0 ⟨rfl, rfl⟩)
    | (go_at_call 93; refine (c65 _ (hT.go bgo)).mono ?_; rintro r w1 ⟨rfl, hb1⟩; obtain ⟨hc1, hf1⟩ := bcell hb1; have hz1_0 : w.heap.size < w1.heap.size := lt_below hb1 ltg; have hl1_0 := Nat.le_of_lt hz1_0; have hz1_1 : w.heap.size + 1 < w1.heap.size := lt_below hb1 ltg; have hl1_1 := Nat.le_of_lt hz1_1; have hz1_2 : w.heap.size + 2 < w1.heap.size := lt_below hb1 ltg; have hl1_2 := Nat.le_of_lt hz1_2; have hz1_3 : w.heap.size + 1 + 1 < w1.heap.size := lt_below hb1 ltg; have hl1_3 := Nat.le_of_lt hz1_3; have hA1 := bnext (w0 := w) bgo hb1; have hs1 := hA1.size; clear hb1))
  exact bodyPost_ret (v := .tuple #[A4 R, .int .i64 10, .int .i64 E]) (by simp only [results, Tryz.results61]; go_simp) rfl ⟨rfl, bgo⟩
end
/-- no format at all -/
abbrev IZ : Value := .agg #[.int .i64 0, .string ⟨#[]⟩, .int .i64 0, .int .i64 0, .int .i64 0, .int .i64 0, .int .i64 0, .int .i64 0, .int .i64 0, .bool false]
section
variable (n d : Int) (nm : ByteArray) (wd : Int) (f e : Nat) (l m : Int) (N D : Nat) (vn vd I : Value) (w : World) (hT : Tab w)
  (c26 : ∀ W, Below w.heap.size w W → Calls Tryz.prog 54 #[vn] W fun r w' => r = .returned (.int .i64 (bl N : Int)) ∧ W = w')
  (c26d : ∀ W, Below w.heap.size w W → Calls Tryz.prog 54 #[vd] W fun r w' => r = .returned (.int .i64 (bl D : Int)) ∧ W = w')
include hT c26 c26d
set_option maxHeartbeats 1000000 in
theorem check_k (hd : decide (knB d) = true) (hD : (((bl D : Nat) : Int) == 0) = false) (hN : ¬ (51200 : Int) < (bl N : Int)) (hDl : ¬ (51200 : Int) < (bl D : Int)) (c52 : ∀ W, Tab W → Calls Tryz.prog 23 #[.int .i64 n] W fun r w' => r = .returned (.tuple #[DI n nm wd f e l m, .int .i64 0]) ∧ Below W.heap.size W w') : Calls Tryz.prog 53 #[.int .i64 n, .int .i64 d, vn, vd] w fun r w' => r = .returned (.tuple #[DI n nm wd f e l m, .int .i64 0]) ∧ Below w.heap.size w w' := by
  have hsm := cell_set_map
  have c53 := known_any d
  rw [hd] at c53
  go_enter Tryz.func53, Tryz.ntmps53
  go_wp2_with (first
    | (go_at_call 23; refine (c52 _ (hT.go bgo)).mono ?_; rintro r w1 ⟨rfl, hb1⟩; obtain ⟨hc1, hf1⟩ := bcell hb1; have hz1_0 : w.heap.size < w1.heap.size := lt_below hb1 ltg; have hl1_0 := Nat.le_of_lt hz1_0; have hA1 := bnext (w0 := w) bgo hb1; have hs1 := hA1.size; clear hb1)
    | (go_at_call 24; refine (c53 _).mono ?_; rintro r w2 ⟨rfl, rfl⟩)
    | (go_at_call_of 54 vn; refine (c26 _ bgo).mono ?_; rintro r w3 ⟨rfl, rfl⟩)
    | (go_at_call_of 54 vd; refine (c26d _ bgo).mono ?_; rintro r w3 ⟨rfl, rfl⟩))
  exact bodyPost_ret (v := .tuple #[DI n nm wd f e l m, .int .i64 0]) (by simp only [results, Tryz.results53]; go_simp) rfl ⟨rfl, bgo⟩
end
end
end Go.Proofs.YtiojbgdfmabjdaaGreatDoor
