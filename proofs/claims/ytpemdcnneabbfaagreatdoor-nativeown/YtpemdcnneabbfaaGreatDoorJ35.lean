/-
  Texts that the proof leans on.
-/
import Derived.Test.YtpemdcnneabbfaaGreatDoorJ34
import Derived.Test.YtpemdcnneabbfaaGreatDoorJ3
import Derived.Deep.Cut
import Derived.Deep.CutRange
import Derived.Deep.RegionWith
set_option linter.unusedVariables false
set_option linter.unusedSectionVars false
set_option linter.unusedSimpArgs false
set_option maxRecDepth 20000
namespace Go.Proofs.YtpemdcnneabbfaaGreatDoor
open Go.RowKit
section
attribute [local irreducible] W4
/-- the exponent, brought within reach -/
def wiZ (f : Nat) (l m lead x : Int) : Int := min (max x (l - 2 - lead)) (m + ((f : Int) + 1) - lead)
set_option maxHeartbeats 1000000 in
theorem within_any (n : Int) (nm : ByteArray) (wd : Int) (f e : Nat) (l m lead x : Int) (w : World) (hf : f ≤ 300) (hl : -100000 ≤ l ∧ l ≤ 100000) (hm : -100000 ≤ m ∧ m ≤ 100000) (hd : -100000 ≤ lead ∧ lead ≤ 100000) :
    Calls Tryz.prog 58 #[DI n nm wd f e l m, .int .i64 lead, .int .i64 x] w fun r w' => r = .returned (.int .i64 (wiZ f l m lead x)) ∧ Below w.heap.size w w' := by
  go_enter Tryz.func58, Tryz.ntmps58
  go_wp2
  go_ret
  exact ⟨by first | rfl | simp [wiZ], bgo⟩
section
variable (n : Int) (nm : ByteArray) (wd : Int) (f e : Nat) (l m d : Int) (s : Bool) (R : Nat) (E : Int) (w : World) (hT : Tab w)
include hT
set_option maxHeartbeats 1000000 in
theorem overflow_i (h : inB d s = true)
    (c56 : ∀ W, Tab W → Calls Tryz.prog 48 #[.int .i64 n, .agg #[.int .i64 2, .bool s, .bool false, .int .i64 0, .int .u64 0, .int .u64 0, .int .u64 0, .int .u64 0]] W fun r w' => r = .returned (.tuple #[A4 R, .int .i64 E]) ∧ Below W.heap.size W w') :
    Calls Tryz.prog 62 #[DI n nm wd f e l m, .int .i64 d, .bool s] w fun r w' => r = .returned (.tuple #[A4 R, .int .i64 10, .int .i64 E]) ∧ Below w.heap.size w w' := by
  have hsm := cell_set_map
  have c64 := infinite_any d s
  rw [h] at c64
  go_enter Tryz.func62, Tryz.ntmps62
  go_wp2_with (first
    | (go_at_call 107; refine (c64 _).mono ?_; rintro r w0 ⟨rfl, rfl⟩)
    | (go_at_call 48; refine (c56 _ (hT.go bgo)).mono ?_; rintro r w1 ⟨rfl, hb1⟩; obtain ⟨hc1, hf1⟩ := bcell hb1; have hz1_0 : w.heap.size < w1.heap.size := lt_below hb1 ltg; have hl1_0 := Nat.le_of_lt hz1_0; have hz1_1 : w.heap.size + 1 < w1.heap.size := lt_below hb1 ltg; have hl1_1 := Nat.le_of_lt hz1_1; have hz1_2 : w.heap.size + 2 < w1.heap.size := lt_below hb1 ltg; have hl1_2 := Nat.le_of_lt hz1_2; have hz1_3 : w.heap.size + 1 + 1 < w1.heap.size := lt_below hb1 ltg; have hl1_3 := Nat.le_of_lt hz1_3; have hA1 := bnext (w0 := w) bgo hb1; have hs1 := hA1.size; clear hb1))
  exact bodyPost_ret (v := .tuple #[A4 R, .int .i64 10, .int .i64 E]) (by simp only [results, Tryz.results62]; go_simp) rfl ⟨rfl, bgo⟩
set_option maxHeartbeats 1000000 in
theorem overflow_l (h : inB d s = false)
    (c65 : ∀ W, Tab W → Calls Tryz.prog 108 #[.int .i64 n, .bool s] W fun r w' => r = .returned (.tuple #[A4 R, .int .i64 E]) ∧ Below W.heap.size W w') :
    Calls Tryz.prog 62 #[DI n nm wd f e l m, .int .i64 d, .bool s] w fun r w' => r = .returned (.tuple #[A4 R, .int .i64 10, .int .i64 E]) ∧ Below w.heap.size w w' := by
  have hsm := cell_set_map
  have c64 := infinite_any d s
  rw [h] at c64
  go_enter Tryz.func62, Tryz.ntmps62
  go_wp2_with (first
    | (go_at_call 107; refine (c64 _).mono ?_; rintro r w0 ⟨rfl, rfl⟩)
    | (go_at_call 108; refine (c65 _ (hT.go bgo)).mono ?_; rintro r w1 ⟨rfl, hb1⟩; obtain ⟨hc1, hf1⟩ := bcell hb1; have hz1_0 : w.heap.size < w1.heap.size := lt_below hb1 ltg; have hl1_0 := Nat.le_of_lt hz1_0; have hz1_1 : w.heap.size + 1 < w1.heap.size := lt_below hb1 ltg; have hl1_1 := Nat.le_of_lt hz1_1; have hz1_2 : w.heap.size + 2 < w1.heap.size := lt_below hb1 ltg; have hl1_2 := Nat.le_of_lt hz1_2; have hz1_3 : w.heap.size + 1 + 1 < w1.heap.size := lt_below hb1 ltg; have hl1_3 := Nat.le_of_lt hz1_3; have hA1 := bnext (w0 := w) bgo hb1; have hs1 := hA1.size; clear hb1))
  exact bodyPost_ret (v := .tuple #[A4 R, .int .i64 10, .int .i64 E]) (by simp only [results, Tryz.results62]; go_simp) rfl ⟨rfl, bgo⟩
end
/-- no format at all -/
abbrev IZ : Value := .agg #[.int .i64 0, .string ⟨#[]⟩, .int .i64 0, .int .i64 0, .int .i64 0, .int .i64 0, .int .i64 0, .int .i64 0, .int .i64 0, .bool false]
section
variable (n d : Int) (nm : ByteArray) (wd : Int) (f e : Nat) (l m : Int) (N D : Nat) (vn vd I : Value) (w : World) (hT : Tab w)
  (c26 : ∀ W, Below w.heap.size w W → Calls Tryz.prog 55 #[vn] W fun r w' => r = .returned (.int .i64 (bl N : Int)) ∧ W = w')
  (c26d : ∀ W, Below w.heap.size w W → Calls Tryz.prog 55 #[vd] W fun r w' => r = .returned (.int .i64 (bl D : Int)) ∧ W = w')
include hT c26 c26d
set_option maxHeartbeats 1000000 in
theorem check_e (i0 i3 i4 i5 i6 i7 i8 b E : Int) (i9 : Bool) (hE : (E != 0) = true) (c52 : ∀ W, Tab W → Calls Tryz.prog 40 #[.int .i64 n] W fun r w' => r = .returned (.tuple #[.agg #[.int .i64 i0, .string nm, .int .i64 b, .int .i64 i3, .int .i64 i4, .int .i64 i5, .int .i64 i6, .int .i64 i7, .int .i64 i8, .bool i9], .int .i64 E]) ∧ Below W.heap.size W w') : Calls Tryz.prog 54 #[.int .i64 n, .int .i64 d, vn, vd] w fun r w' => r = .returned (.tuple #[IZ, .int .i64 1]) ∧ Below w.heap.size w w' := by
  have hsm := cell_set_map
  have c53 := known_any d
  go_enter Tryz.func54, Tryz.ntmps54
  go_wp2_with (first
    | (go_at_call 40; refine (c52 _ (hT.go bgo)).mono ?_; rintro r w1 ⟨rfl, hb1⟩; obtain ⟨hc1, hf1⟩ := bcell hb1; have hz1_0 : w.heap.size < w1.heap.size := lt_below hb1 ltg; have hl1_0 := Nat.le_of_lt hz1_0; have hA1 := bnext (w0 := w) bgo hb1; have hs1 := hA1.size; clear hb1)
    | (go_at_call 41; refine (c53 _).mono ?_; rintro r w2 ⟨rfl, rfl⟩)
    | (go_at_call_of 55 vn; refine (c26 _ bgo).mono ?_; rintro r w3 ⟨rfl, rfl⟩)
    | (go_at_call_of 55 vd; refine (c26d _ bgo).mono ?_; rintro r w3 ⟨rfl, rfl⟩))
  exact bodyPost_ret (v := .tuple #[IZ, .int .i64 1]) (by simp only [results, Tryz.results54]; go_simp) rfl ⟨rfl, bgo⟩
set_option maxHeartbeats 1000000 in
theorem check_b (i0 i3 i4 i5 i6 i7 i8 b : Int) (i9 : Bool) (hE : (b != 2) = true) (c52 : ∀ W, Tab W → Calls Tryz.prog 40 #[.int .i64 n] W fun r w' => r = .returned (.tuple #[.agg #[.int .i64 i0, .string nm, .int .i64 b, .int .i64 i3, .int .i64 i4, .int .i64 i5, .int .i64 i6, .int .i64 i7, .int .i64 i8, .bool i9], .int .i64 0]) ∧ Below W.heap.size W w') : Calls Tryz.prog 54 #[.int .i64 n, .int .i64 d, vn, vd] w fun r w' => r = .returned (.tuple #[IZ, .int .i64 1]) ∧ Below w.heap.size w w' := by
  have hsm := cell_set_map
  have c53 := known_any d
  go_enter Tryz.func54, Tryz.ntmps54
  go_wp2_with (first
    | (go_at_call 40; refine (c52 _ (hT.go bgo)).mono ?_; rintro r w1 ⟨rfl, hb1⟩; obtain ⟨hc1, hf1⟩ := bcell hb1; have hz1_0 : w.heap.size < w1.heap.size := lt_below hb1 ltg; have hl1_0 := Nat.le_of_lt hz1_0; have hA1 := bnext (w0 := w) bgo hb1; have hs1 := hA1.size; clear hb1)
    | (go_at_call 41; refine (c53 _).mono ?_; rintro r w2 ⟨rfl, rfl⟩)
    | (go_at_call_of 55 vn; refine (c26 _ bgo).mono ?_; rintro r w3 ⟨rfl, rfl⟩)
    | (go_at_call_of 55 vd; refine (c26d _ bgo).mono ?_; rintro r w3 ⟨rfl, rfl⟩))
  exact bodyPost_ret (v := .tuple #[IZ, .int .i64 1]) (by simp only [results, Tryz.results54]; go_simp) rfl ⟨rfl, bgo⟩
set_option maxHeartbeats 1000000 in
theorem check_d (hd : decide (knB d) = false) (c52 : ∀ W, Tab W → Calls Tryz.prog 40 #[.int .i64 n] W fun r w' => r = .returned (.tuple #[DI n nm wd f e l m, .int .i64 0]) ∧ Below W.heap.size W w') : Calls Tryz.prog 54 #[.int .i64 n, .int .i64 d, vn, vd] w fun r w' => r = .returned (.tuple #[IZ, .int .i64 1]) ∧ Below w.heap.size w w' := by
  have hsm := cell_set_map
  have c53 := known_any d
  rw [hd] at c53
  go_enter Tryz.func54, Tryz.ntmps54
  go_wp2_with (first
    | (go_at_call 40; refine (c52 _ (hT.go bgo)).mono ?_; rintro r w1 ⟨rfl, hb1⟩; obtain ⟨hc1, hf1⟩ := bcell hb1; have hz1_0 : w.heap.size < w1.heap.size := lt_below hb1 ltg; have hl1_0 := Nat.le_of_lt hz1_0; have hA1 := bnext (w0 := w) bgo hb1; have hs1 := hA1.size; clear hb1)
    | (go_at_call 41; refine (c53 _).mono ?_; rintro r w2 ⟨rfl, rfl⟩)
    | (go_at_call_of 55 vn; refine (c26 _ bgo).mono ?_; rintro r w3 ⟨rfl, rfl⟩)
    | (go_at_call_of 55 vd; refine (c26d _ bgo).mono ?_; rintro r w3 ⟨rfl, rfl⟩))
  exact bodyPost_ret (v := .tuple #[IZ, .int .i64 1]) (by simp only [results, Tryz.results54]; go_simp) rfl ⟨rfl, bgo⟩
set_option maxHeartbeats 1000000 in
theorem check_z (hd : decide (knB d) = true) (hD : (((bl D : Nat) : Int) == 0) = true) (c52 : ∀ W, Tab W → Calls Tryz.prog 40 #[.int .i64 n] W fun r w' => r = .returned (.tuple #[DI n nm wd f e l m, .int .i64 0]) ∧ Below W.heap.size W w') : Calls Tryz.prog 54 #[.int .i64 n, .int .i64 d, vn, vd] w fun r w' => r = .returned (.tuple #[IZ, .int .i64 1]) ∧ Below w.heap.size w w' := by
  have hsm := cell_set_map
  have c53 := known_any d
  rw [hd] at c53
  go_enter Tryz.func54, Tryz.ntmps54
  go_wp2_with (first
    | (go_at_call 40; refine (c52 _ (hT.go bgo)).mono ?_; rintro r w1 ⟨rfl, hb1⟩; obtain ⟨hc1, hf1⟩ := bcell hb1; have hz1_0 : w.heap.size < w1.heap.size := lt_below hb1 ltg; have hl1_0 := Nat.le_of_lt hz1_0; have hA1 := bnext (w0 := w) bgo hb1; have hs1 := hA1.size; clear hb1)
    | (go_at_call 41; refine (c53 _).mono ?_; rintro r w2 ⟨rfl, rfl⟩)
    | (go_at_call_of 55 vn; refine (c26 _ bgo).mono ?_; rintro r w3 ⟨rfl, rfl⟩)
    | (go_at_call_of 55 vd; refine (c26d _ bgo).mono ?_; rintro r w3 ⟨rfl, rfl⟩))
  exact bodyPost_ret (v := .tuple #[IZ, .int .i64 1]) (by simp only [results, Tryz.results54]; go_simp) rfl ⟨rfl, bgo⟩
set_option maxHeartbeats 1000000 in
theorem check_n (hd : decide (knB d) = true) (hD : (((bl D : Nat) : Int) == 0) = false) (hN : (51200 : Int) < (bl N : Int)) (c52 : ∀ W, Tab W → Calls Tryz.prog 40 #[.int .i64 n] W fun r w' => r = .returned (.tuple #[DI n nm wd f e l m, .int .i64 0]) ∧ Below W.heap.size W w') : Calls Tryz.prog 54 #[.int .i64 n, .int .i64 d, vn, vd] w fun r w' => r = .returned (.tuple #[IZ, .int .i64 4]) ∧ Below w.heap.size w w' := by
  have hsm := cell_set_map
  have c53 := known_any d
  rw [hd] at c53
  go_enter Tryz.func54, Tryz.ntmps54
  go_wp2_with (first
    | (go_at_call 40; refine (c52 _ (hT.go bgo)).mono ?_; rintro r w1 ⟨rfl, hb1⟩; obtain ⟨hc1, hf1⟩ := bcell hb1; have hz1_0 : w.heap.size < w1.heap.size := lt_below hb1 ltg; have hl1_0 := Nat.le_of_lt hz1_0; have hA1 := bnext (w0 := w) bgo hb1; have hs1 := hA1.size; clear hb1)
    | (go_at_call 41; refine (c53 _).mono ?_; rintro r w2 ⟨rfl, rfl⟩)
    | (go_at_call_of 55 vn; refine (c26 _ bgo).mono ?_; rintro r w3 ⟨rfl, rfl⟩)
    | (go_at_call_of 55 vd; refine (c26d _ bgo).mono ?_; rintro r w3 ⟨rfl, rfl⟩))
  exact bodyPost_ret (v := .tuple #[IZ, .int .i64 4]) (by simp only [results, Tryz.results54]; go_simp) rfl ⟨rfl, bgo⟩
set_option maxHeartbeats 1000000 in
theorem check_l (hd : decide (knB d) = true) (hD : (((bl D : Nat) : Int) == 0) = false) (hN : ¬ (51200 : Int) < (bl N : Int)) (hDl : (51200 : Int) < (bl D : Int)) (c52 : ∀ W, Tab W → Calls Tryz.prog 40 #[.int .i64 n] W fun r w' => r = .returned (.tuple #[DI n nm wd f e l m, .int .i64 0]) ∧ Below W.heap.size W w') : Calls Tryz.prog 54 #[.int .i64 n, .int .i64 d, vn, vd] w fun r w' => r = .returned (.tuple #[IZ, .int .i64 4]) ∧ Below w.heap.size w w' := by
  have hsm := cell_set_map
  have c53 := known_any d
  rw [hd] at c53
  go_enter Tryz.func54, Tryz.ntmps54
  go_wp2_with (first
    | (go_at_call 40; refine (c52 _ (hT.go bgo)).mono ?_; rintro r w1 ⟨rfl, hb1⟩; obtain ⟨hc1, hf1⟩ := bcell hb1; have hz1_0 : w.heap.size < w1.heap.size := lt_below hb1 ltg; have hl1_0 := Nat.le_of_lt hz1_0; have hA1 := bnext (w0 := w) bgo hb1; have hs1 := hA1.size; clear hb1)
    | (go_at_call 41; refine (c53 _).mono ?_; rintro r w2 ⟨rfl, rfl⟩)
    | (go_at_call_of 55 vn; refine (c26 _ bgo).mono ?_; rintro r w3 ⟨rfl, rfl⟩)
    | (go_at_call_of 55 vd; refine (c26d _ bgo).mono ?_; rintro r w3 ⟨rfl, rfl⟩))
  exact bodyPost_ret (v := .tuple #[IZ, .int .i64 4]) (by simp only [results, Tryz.results54]; go_simp) rfl ⟨rfl, bgo⟩
set_option maxHeartbeats 1000000 in
theorem check_k (hd : decide (knB d) = true) (hD : (((bl D : Nat) : Int) == 0) = false) (hN : ¬ (51200 : Int) < (bl N : Int)) (hDl : ¬ (51200 : Int) < (bl D : Int)) (c52 : ∀ W, Tab W → Calls Tryz.prog 40 #[.int .i64 n] W fun r w' => r = .returned (.tuple #[DI n nm wd f e l m, .int .i64 0]) ∧ Below W.heap.size W w') : Calls Tryz.prog 54 #[.int .i64 n, .int .i64 d, vn, vd] w fun r w' => r = .returned (.tuple #[DI n nm wd f e l m, .int .i64 0]) ∧ Below w.heap.size w w' := by
  have hsm := cell_set_map
  have c53 := known_any d
  rw [hd] at c53
  go_enter Tryz.func54, Tryz.ntmps54
  go_wp2_with (first
    | (go_at_call 40; refine (c52 _ (hT.go bgo)).mono ?_; rintro r w1 ⟨rfl, hb1⟩; obtain ⟨hc1, hf1⟩ := bcell hb1; have hz1_0 : w.heap.size < w1.heap.size := lt_below hb1 ltg; have hl1_0 := Nat.le_of_lt hz1_0; have hA1 := bnext (w0 := w) bgo hb1; have hs1 := hA1.size; clear hb1)
    | (go_at_call 41; refine (c53 _).mono ?_; rintro r w2 ⟨rfl, rfl⟩)
    | (go_at_call_of 55 vn; refine (c26 _ bgo).mono ?_; rintro r w3 ⟨rfl, rfl⟩)
    | (go_at_call_of 55 vd; refine (c26d _ bgo).mono ?_; rintro r w3 ⟨rfl, rfl⟩))
  exact bodyPost_ret (v := .tuple #[DI n nm wd f e l m, .int .i64 0]) (by simp only [results, Tryz.results54]; go_simp) rfl ⟨rfl, bgo⟩
end
end
section
/-- a block holds a format -/
structure Ib (w : World) (g : Nat) (n : Int) (nm : ByteArray) (wd : Int) (f e : Nat) (l m : Int) : Prop where
  c0 : w.cell? ⟨g, 0, none⟩ = some (.int .i64 n)
  c1 : w.cell? ⟨g, 1, none⟩ = some (.string nm)
  c2 : w.cell? ⟨g, 2, none⟩ = some (.int .i64 2)
  c3 : w.cell? ⟨g, 3, none⟩ = some (.int .i64 wd)
  c4 : w.cell? ⟨g, 4, none⟩ = some (.int .i64 ((f : Int) + 1))
  c5 : w.cell? ⟨g, 5, none⟩ = some (.int .i64 e)
  c6 : w.cell? ⟨g, 6, none⟩ = some (.int .i64 l)
  c7 : w.cell? ⟨g, 7, none⟩ = some (.int .i64 m)
  c8 : w.cell? ⟨g, 8, none⟩ = some (.int .i64 ((f : Int) - 1))
  c9 : w.cell? ⟨g, 9, none⟩ = some (.bool false)
theorem Ib.next {w w' : World} {g : Nat} {n : Int} {nm : ByteArray} {wd : Int} {f e : Nat} {l m : Int} (h : Ib w g n nm wd f e l m) (hg : g < w.heap.size) (hb : Below w.heap.size w w') : Ib w' g n nm wd f e l m :=
  ⟨by rw [hb.cell (p := ⟨g, 0, none⟩) hg, h.c0], by rw [hb.cell (p := ⟨g, 1, none⟩) hg, h.c1], by rw [hb.cell (p := ⟨g, 2, none⟩) hg, h.c2], by rw [hb.cell (p := ⟨g, 3, none⟩) hg, h.c3], by rw [hb.cell (p := ⟨g, 4, none⟩) hg, h.c4], by rw [hb.cell (p := ⟨g, 5, none⟩) hg, h.c5], by rw [hb.cell (p := ⟨g, 6, none⟩) hg, h.c6], by rw [hb.cell (p := ⟨g, 7, none⟩) hg, h.c7], by rw [hb.cell (p := ⟨g, 8, none⟩) hg, h.c8], by rw [hb.cell (p := ⟨g, 9, none⟩) hg, h.c9]⟩
theorem zeros4 {w : World} {g : Nat} {v : Value} (h0 : w.cell? ⟨g, 0, none⟩ = some v) (h1 : w.cell? ⟨g, 1, none⟩ = some v) (h2 : w.cell? ⟨g, 2, none⟩ = some v) (h3 : w.cell? ⟨g, 3, none⟩ = some v) : ∀ i, i < 4 → w.cell? ⟨g, i, none⟩ = some v := fun i hi => by
  have : i = 0 ∨ i = 1 ∨ i = 2 ∨ i = 3 := by omega
  rcases this with rfl | rfl | rfl | rfl <;> assumption
attribute [local irreducible] W4 Nz Nt
section
variable (n d x : Int) (s : Bool) (vn vd : Value) (w : World) (hT : Tab w)
set_option maxHeartbeats 1000000 in
theorem binary_e (E : Int) (I : Value) (i0 b i3 i4 i5 i6 i7 i8 : Int) (nm : ByteArray) (i9 : Bool) (hE : (E != 0) = true)
    (c25 : ∀ W, Below w.heap.size w W → Calls Tryz.prog 54 #[.int .i64 n, .int .i64 d, vn, vd] W fun r w' => r = .returned (.tuple #[IZ, .int .i64 E]) ∧ Below W.heap.size W w') :
    Calls Tryz.prog 27 #[.int .i64 n, .int .i64 d, .bool s, vn, vd, .int .i64 x] w fun r w' => r = .returned (.tuple #[Z4, .int .i64 0, .int .i64 E]) ∧ Below w.heap.size w w' := by
  have hsm := cell_set_map
  go_enter Tryz.func27, Tryz.ntmps27
  go_wp2_with (go_at_call 54; refine (c25 _ bgo).mono ?_; rintro r w1 ⟨rfl, hb1⟩; obtain ⟨hc1, hf1⟩ := bcell hb1; have hz1_0 : w.heap.size < w1.heap.size := lt_below hb1 ltg; have hl1_0 := Nat.le_of_lt hz1_0; have hA1 := bnext (w0 := w) bgo hb1; have hs1 := hA1.size; clear hb1)
  exact bodyPost_ret (v := .tuple #[Z4, .int .i64 0, .int .i64 E]) (by simp only [results, Tryz.results27]; go_simp) rfl ⟨rfl, bgo⟩
variable (nm : ByteArray) (wd : Int) (f e : Nat) (l m : Int) (N C : Nat) (R : Nat) (E fl lead x1 q0 : Int) (ex : Bool)
  (c25 : ∀ W, Below w.heap.size w W → Calls Tryz.prog 54 #[.int .i64 n, .int .i64 d, vn, vd] W fun r w' => r = .returned (.tuple #[DI n nm wd f e l m, .int .i64 0]) ∧ Below W.heap.size W w')
  (c26 : ∀ W, Below w.heap.size w W → Calls Tryz.prog 55 #[vn] W fun r w' => r = .returned (.int .i64 (bl N : Int)) ∧ W = w')
include hT c25 c26
set_option maxHeartbeats 1000000 in
theorem binary_z (hN : (((bl N : Nat) : Int) == 0) = true)
    (c27 : ∀ W, Tab W → Calls Tryz.prog 56 #[DI n nm wd f e l m, .bool s, .slice none 0 0, .int .i64 l, .int .i64 0] W fun r w' => r = .returned (.tuple #[A4 R, .int .i64 0, .int .i64 E]) ∧ Below W.heap.size W w') :
    Calls Tryz.prog 27 #[.int .i64 n, .int .i64 d, .bool s, vn, vd, .int .i64 x] w fun r w' => r = .returned (.tuple #[A4 R, .int .i64 0, .int .i64 E]) ∧ Below w.heap.size w w' := by
  have hsm := cell_set_map
  go_enter Tryz.func27, Tryz.ntmps27
  go_wp2_with (first
    | (go_at_call 54; refine (c25 _ bgo).mono ?_; rintro r w1 ⟨rfl, hb1⟩; obtain ⟨hc1, hf1⟩ := bcell hb1; have hz1_0 : w.heap.size < w1.heap.size := lt_below hb1 ltg; have hl1_0 := Nat.le_of_lt hz1_0; have hA1 := bnext (w0 := w) bgo hb1; have hs1 := hA1.size; clear hb1)
    | (go_at_call 55; refine (c26 _ bgo).mono ?_; rintro r w2 ⟨rfl, rfl⟩)
    | (go_at_call 56; refine (c27 _ (hT.go bgo)).mono ?_; rintro r w3 ⟨rfl, hb3⟩; obtain ⟨hc3, hf3⟩ := bcell hb3; have hz3_0 : w.heap.size < w3.heap.size := lt_below hb3 ltg; have hl3_0 := Nat.le_of_lt hz3_0; have hz3_1 : w1.heap.size < w3.heap.size := lt_below hb3 ltg; have hl3_1 := Nat.le_of_lt hz3_1; have hA3 := bnext (w0 := w) bgo hb3; have hs3 := hA3.size; clear hb3))
  exact bodyPost_ret (v := .tuple #[A4 R, .int .i64 0, .int .i64 E]) (by simp only [results, Tryz.results27]; go_simp) rfl ⟨rfl, bgo⟩
variable (hf : f ≤ 300) (hl : -100000 ≤ l ∧ l ≤ 100000) (hm : -100000 ≤ m ∧ m ≤ 100000) (hld : -100000 ≤ lead ∧ lead ≤ 100000) (hx1 : -300000 ≤ x1 ∧ x1 ≤ 300000) (hq0 : q0 = max l (lead + x1 - ((f : Int) + 1) + 1))
  (hN : (((bl N : Nat) : Int) == 0) = false)
  (c28 : ∀ W, Below w.heap.size w W → Calls Tryz.prog 57 #[vn, vd] W fun r w' => r = .returned (.int .i64 lead) ∧ Below W.heap.size W w')
  (c29 : ∀ W, Calls Tryz.prog 58 #[DI n nm wd f e l m, .int .i64 lead, .int .i64 x] W fun r w' => r = .returned (.int .i64 x1) ∧ Below W.heap.size W w')
  (c30 : ∀ W k, k = x1 - q0 → Below w.heap.size w W → Calls Tryz.prog 59 #[vn, vd, .int .i64 k] W fun r w' => ∃ va vb, r = .returned (.tuple #[va, vb]) ∧ Below W.heap.size W w' ∧ (Calls Tryz.prog 60 #[.int .i64 d, .bool s, va, vb] w' fun r w'' => ∃ v, r = .returned (.tuple #[v, .bool ex]) ∧ Nz 2003 C v w'' ∧ Below w'.heap.size w' w''))
  (c26c : ∀ W v, Nz 2003 C v W → Calls Tryz.prog 55 #[v] W fun r w' => r = .returned (.int .i64 (bl C : Int)) ∧ W = w')
  (c31 : ∀ W v, Nz 2003 C v W → Calls Tryz.prog 61 #[v, .int .i64 1] W fun r w' => ∃ v' b, r = .returned (.tuple #[v', .bool b]) ∧ Nz 2003 (C / 2) v' w' ∧ Below W.heap.size W w')
include hf hl hm hld hx1 hq0 hN c28 c29 c30 c26c c31
set_option maxHeartbeats 4000000 in
theorem binary_o (C' : Nat) (q' : Int) (hup : (f : Int) + 1 < (bl C : Int) → C' = C / 2 ∧ q' = q0 + 1) (hno : ¬ (f : Int) + 1 < (bl C : Int) → C' = C ∧ q' = q0)
    (ho : m < q')
    (c32 : ∀ W, Tab W → Calls Tryz.prog 62 #[DI n nm wd f e l m, .int .i64 d, .bool s] W fun r w' => r = .returned (.tuple #[A4 R, .int .i64 fl, .int .i64 E]) ∧ Below W.heap.size W w') :
    Calls Tryz.prog 27 #[.int .i64 n, .int .i64 d, .bool s, vn, vd, .int .i64 x] w fun r w' => r = .returned (.tuple #[A4 R, .int .i64 fl, .int .i64 E]) ∧ Below w.heap.size w w' := by
  have hsm := cell_set_map
  have hds : ∀ W : World, W.drew.heap.size = W.heap.size := fun W => by simp
  have hqb : -500000 ≤ q0 ∧ q0 ≤ 500000 := by omega
  go_enter Tryz.func27, Tryz.ntmps27
  go_upto_region 11 with (first
    | (go_at_call 54; refine (c25 _ bgo).mono ?_; rintro r w1 ⟨rfl, hb1⟩; obtain ⟨hc1, hf1⟩ := bcell hb1; have hz1_0 : w.heap.size < w1.heap.size := lt_below hb1 ltg; have hl1_0 := Nat.le_of_lt hz1_0; have hA1 := bnext (w0 := w) bgo hb1; have hs1 := hA1.size; clear hb1)
    | (go_at_call 55; refine (c26 _ bgo).mono ?_; rintro r w2 ⟨rfl, rfl⟩)
    | (go_at_call 57; refine (c28 _ bgo).mono ?_; rintro r w3 ⟨rfl, hb3⟩; obtain ⟨hc3, hf3⟩ := bcell hb3; have hz3_0 : w.heap.size < w3.heap.size := lt_below hb3 ltg; have hl3_0 := Nat.le_of_lt hz3_0; have hz3_1 : w1.heap.size < w3.heap.size := lt_below hb3 ltg; have hl3_1 := Nat.le_of_lt hz3_1; have hA3 := bnext (w0 := w) bgo hb3; have hs3 := hA3.size; clear hb3)
    | (go_at_call 58; refine (c29 _).mono ?_; rintro r w4 ⟨rfl, hb4⟩; obtain ⟨hc4, hf4⟩ := bcell hb4; have hz4_0 : w.heap.size < w4.heap.size := lt_below hb4 ltg; have hl4_0 := Nat.le_of_lt hz4_0; have hz4_1 : w1.heap.size < w4.heap.size := lt_below hb4 ltg; have hl4_1 := Nat.le_of_lt hz4_1; have hA4 := bnext (w0 := w) bgo hb4; have hs4 := hA4.size; clear hb4)
    | (go_at_call 59; refine (c30 _ _ (by omega) bgo).mono ?_; rintro r w10 ⟨va, vb, rfl, hb10, c30b⟩; obtain ⟨hc10, hf10⟩ := bcell hb10; have hz10_0 : w.heap.size < w10.heap.size := lt_below hb10 ltg; have hl10_0 := Nat.le_of_lt hz10_0; have hz10_1 : w1.heap.size < w10.heap.size := lt_below hb10 ltg; have hl10_1 := Nat.le_of_lt hz10_1; have hA10 := bnext (w0 := w) bgo hb10; have hs10 := hA10.size; clear hb10)
    | (go_at_call 60; refine c30b.mono ?_; rintro r w5 ⟨vc, rfl, hvc, hb5⟩; obtain ⟨hc5, hf5⟩ := bcell hb5; have hz5_0 : w.heap.size < w5.heap.size := lt_below hb5 ltg; have hl5_0 := Nat.le_of_lt hz5_0; have hz5_1 : w1.heap.size < w5.heap.size := lt_below hb5 ltg; have hl5_1 := Nat.le_of_lt hz5_1; have hA5 := bnext (w0 := w) bgo hb5; have hs5 := hA5.size; clear hb5))
  go_cut [83] from 22 (fun t wc => t = .bool (decide ((f : Int) + 1 < (bl C : Int))) ∧ Nz 2003 C vc wc ∧ Ib wc w1.heap.size n nm wd f e l m ∧ (∀ i, i < 4 → wc.cell? ⟨w.heap.size, i, none⟩ = some (.int .u64 0)) ∧ (∀ i, wc.frozen? ⟨w.heap.size, i, none⟩ = false) ∧ Below w.heap.size w wc ∧ w1.heap.size < wc.heap.size)
  case first =>
    go_region_with (go_at_call 55; refine (c26c _ _ (hvc.next bgo)).mono ?_; rintro r w6 ⟨rfl, rfl⟩)
    all_goals (
      go_wp2_with fail
      go_meet
      exact ⟨rfl, hvc.next bgo, ⟨by go_simp, by go_simp, by go_simp, by go_simp, by go_simp, by go_simp, by go_simp, by go_simp, by go_simp, by go_simp⟩, zeros4 (by go_simp) (by go_simp) (by go_simp) (by go_simp), fun i => by go_simp, bgo, by first | assumption | (simp; done) | (simp; omega) | omega⟩)
  case rest =>
    obtain ⟨ht, hvc', fI, fz, ffr, hbw, hsz⟩ := hcut
    obtain ⟨y0, y1, y2, y3, y4, y5, y6, y7, y8, y9⟩ := fI
    have hl0 : w.heap.size < wc.heap.size := by omega
    have hle0 := Nat.le_of_lt hl0
    have hle1 := Nat.le_of_lt hsz
    have z0 := fz 0 (by decide)
    have z1 := fz 1 (by decide)
    have z2 := fz 2 (by decide)
    have z3 := fz 3 (by decide)
    go_upto_if 83 with fail
    go_cut [18, 19] from 22 (fun t18 t19 wc => t18 = .int .i64 q' ∧ Nz 2003 C' t19 wc ∧ Ib wc w1.heap.size n nm wd f e l m ∧ (∀ i, i < 4 → wc.cell? ⟨w.heap.size, i, none⟩ = some (.int .u64 0)) ∧ (∀ i, wc.frozen? ⟨w.heap.size, i, none⟩ = false) ∧ Below w.heap.size w wc ∧ w1.heap.size < wc.heap.size)
    case first =>
      by_cases hu : (f : Int) + 1 < (bl C : Int)
      · obtain ⟨rfl, rfl⟩ := hup (by omega)
        rw [decide_eq_true hu] at ht
        subst ht
        clear hup hno
        go_wp2_with (go_at_call 61; refine (c31 _ _ hvc').mono ?_; rintro r w7 ⟨v7, b7, rfl, h7, hb7⟩; obtain ⟨hc7, hf7⟩ := bcell hb7; have hz7_0 : w.heap.size < w7.heap.size := lt_below hb7 ltg; have hl7_0 := Nat.le_of_lt hz7_0; have hz7_1 : w1.heap.size < w7.heap.size := lt_below hb7 ltg; have hl7_1 := Nat.le_of_lt hz7_1; have hA7 := bnext (w0 := w) bgo hb7; have hs7 := hA7.size; clear hb7)
        go_meet
        exact ⟨by first | rfl | (congr 1; omega), h7, ⟨by go_simp, by go_simp, by go_simp, by go_simp, by go_simp, by go_simp, by go_simp, by go_simp, by go_simp, by go_simp⟩, zeros4 (by go_simp) (by go_simp) (by go_simp) (by go_simp), fun i => by go_simp, bgo, by first | assumption | (simp; done) | (simp; omega) | omega⟩
      · obtain ⟨rfl, rfl⟩ := hno (by omega)
        rw [decide_eq_false hu] at ht
        subst ht
        clear hup hno
        go_wp2
        go_meet
        exact ⟨by first | rfl | (congr 1; omega), hvc', ⟨by go_simp, by go_simp, by go_simp, by go_simp, by go_simp, by go_simp, by go_simp, by go_simp, by go_simp, by go_simp⟩, zeros4 (by go_simp) (by go_simp) (by go_simp) (by go_simp), fun i => by go_simp, bgo, by first | assumption | (simp; done) | (simp; omega) | omega⟩
    case rest =>
      clear fz ffr hbw hsz y0 y1 y2 y3 y4 y5 y6 y7 y8 y9 hl0 hle0 hle1 z0 z1 z2 z3 ht hvc'
      obtain ⟨rfl, hv', fI, fz, ffr, hbw, hsz⟩ := hcut
      obtain ⟨y0, y1, y2, y3, y4, y5, y6, y7, y8, y9⟩ := fI
      have hl0 : w.heap.size < wc.heap.size := by omega
      have hle0 := Nat.le_of_lt hl0
      have hle1 := Nat.le_of_lt hsz
      have z0 := fz 0 (by decide)
      have z1 := fz 1 (by decide)
      have z2 := fz 2 (by decide)
      have z3 := fz 3 (by decide)
      go_wp2_with (go_at_call 62; refine (c32 _ (hT.go bgo)).mono ?_; rintro r w8 ⟨rfl, hb8⟩; obtain ⟨hc8, hf8⟩ := bcell hb8; have hz8_0 : w.heap.size < w8.heap.size := lt_below hb8 ltg; have hl8_0 := Nat.le_of_lt hz8_0; have hz8_1 : w1.heap.size < w8.heap.size := lt_below hb8 ltg; have hl8_1 := Nat.le_of_lt hz8_1; have hA8 := bnext (w0 := w) bgo hb8; have hs8 := hA8.size; clear hb8)
      exact bodyPost_ret (v := .tuple #[A4 R, .int .i64 fl, .int .i64 E]) (by simp only [results, Tryz.results27]; go_simp) rfl ⟨rfl, bgo⟩
set_option maxHeartbeats 4000000 in
theorem binary_f (C' : Nat) (q' : Int) (hup : (f : Int) + 1 < (bl C : Int) → C' = C / 2 ∧ q' = q0 + 1) (hno : ¬ (f : Int) + 1 < (bl C : Int) → C' = C ∧ q' = q0)
    (ho : ¬ m < q') (fl0 : Int) (hfl : Hid (fl = if ex then 0 else if decide (lead + x1 < (f : Int) + l) then 12 else 8))
    (c27 : ∀ W v, Tab W → Nz 2003 C' v W → Calls Tryz.prog 56 #[DI n nm wd f e l m, .bool s, v, .int .i64 q', .int .i64 fl] W fun r w' => r = .returned (.tuple #[A4 R, .int .i64 fl, .int .i64 E]) ∧ Below W.heap.size W w') :
    Calls Tryz.prog 27 #[.int .i64 n, .int .i64 d, .bool s, vn, vd, .int .i64 x] w fun r w' => r = .returned (.tuple #[A4 R, .int .i64 fl, .int .i64 E]) ∧ Below w.heap.size w w' := by
  have hsm := cell_set_map
  have hds : ∀ W : World, W.drew.heap.size = W.heap.size := fun W => by simp
  have hqb : -500000 ≤ q0 ∧ q0 ≤ 500000 := by omega
  go_enter Tryz.func27, Tryz.ntmps27
  go_upto_region 11 with (first
    | (go_at_call 54; refine (c25 _ bgo).mono ?_; rintro r w1 ⟨rfl, hb1⟩; obtain ⟨hc1, hf1⟩ := bcell hb1; have hz1_0 : w.heap.size < w1.heap.size := lt_below hb1 ltg; have hl1_0 := Nat.le_of_lt hz1_0; have hA1 := bnext (w0 := w) bgo hb1; have hs1 := hA1.size; clear hb1)
    | (go_at_call 55; refine (c26 _ bgo).mono ?_; rintro r w2 ⟨rfl, rfl⟩)
    | (go_at_call 57; refine (c28 _ bgo).mono ?_; rintro r w3 ⟨rfl, hb3⟩; obtain ⟨hc3, hf3⟩ := bcell hb3; have hz3_0 : w.heap.size < w3.heap.size := lt_below hb3 ltg; have hl3_0 := Nat.le_of_lt hz3_0; have hz3_1 : w1.heap.size < w3.heap.size := lt_below hb3 ltg; have hl3_1 := Nat.le_of_lt hz3_1; have hA3 := bnext (w0 := w) bgo hb3; have hs3 := hA3.size; clear hb3)
    | (go_at_call 58; refine (c29 _).mono ?_; rintro r w4 ⟨rfl, hb4⟩; obtain ⟨hc4, hf4⟩ := bcell hb4; have hz4_0 : w.heap.size < w4.heap.size := lt_below hb4 ltg; have hl4_0 := Nat.le_of_lt hz4_0; have hz4_1 : w1.heap.size < w4.heap.size := lt_below hb4 ltg; have hl4_1 := Nat.le_of_lt hz4_1; have hA4 := bnext (w0 := w) bgo hb4; have hs4 := hA4.size; clear hb4)
    | (go_at_call 59; refine (c30 _ _ (by omega) bgo).mono ?_; rintro r w10 ⟨va, vb, rfl, hb10, c30b⟩; obtain ⟨hc10, hf10⟩ := bcell hb10; have hz10_0 : w.heap.size < w10.heap.size := lt_below hb10 ltg; have hl10_0 := Nat.le_of_lt hz10_0; have hz10_1 : w1.heap.size < w10.heap.size := lt_below hb10 ltg; have hl10_1 := Nat.le_of_lt hz10_1; have hA10 := bnext (w0 := w) bgo hb10; have hs10 := hA10.size; clear hb10)
    | (go_at_call 60; refine c30b.mono ?_; rintro r w5 ⟨vc, rfl, hvc, hb5⟩; obtain ⟨hc5, hf5⟩ := bcell hb5; have hz5_0 : w.heap.size < w5.heap.size := lt_below hb5 ltg; have hl5_0 := Nat.le_of_lt hz5_0; have hz5_1 : w1.heap.size < w5.heap.size := lt_below hb5 ltg; have hl5_1 := Nat.le_of_lt hz5_1; have hA5 := bnext (w0 := w) bgo hb5; have hs5 := hA5.size; clear hb5))
  go_cut [83] from 22 (fun t wc => t = .bool (decide ((f : Int) + 1 < (bl C : Int))) ∧ Nz 2003 C vc wc ∧ Ib wc w1.heap.size n nm wd f e l m ∧ (∀ i, i < 4 → wc.cell? ⟨w.heap.size, i, none⟩ = some (.int .u64 0)) ∧ (∀ i, wc.frozen? ⟨w.heap.size, i, none⟩ = false) ∧ Below w.heap.size w wc ∧ w1.heap.size < wc.heap.size)
  case first =>
    go_region_with (go_at_call 55; refine (c26c _ _ (hvc.next bgo)).mono ?_; rintro r w6 ⟨rfl, rfl⟩)
    all_goals (
      go_wp2_with fail
      go_meet
      exact ⟨rfl, hvc.next bgo, ⟨by go_simp, by go_simp, by go_simp, by go_simp, by go_simp, by go_simp, by go_simp, by go_simp, by go_simp, by go_simp⟩, zeros4 (by go_simp) (by go_simp) (by go_simp) (by go_simp), fun i => by go_simp, bgo, by first | assumption | (simp; done) | (simp; omega) | omega⟩)
  case rest =>
    obtain ⟨ht, hvc', fI, fz, ffr, hbw, hsz⟩ := hcut
    obtain ⟨y0, y1, y2, y3, y4, y5, y6, y7, y8, y9⟩ := fI
    have hl0 : w.heap.size < wc.heap.size := by omega
    have hle0 := Nat.le_of_lt hl0
    have hle1 := Nat.le_of_lt hsz
    have z0 := fz 0 (by decide)
    have z1 := fz 1 (by decide)
    have z2 := fz 2 (by decide)
    have z3 := fz 3 (by decide)
    go_upto_if 83 with fail
    go_cut [18, 19] from 22 (fun t18 t19 wc => t18 = .int .i64 q' ∧ Nz 2003 C' t19 wc ∧ Ib wc w1.heap.size n nm wd f e l m ∧ (∀ i, i < 4 → wc.cell? ⟨w.heap.size, i, none⟩ = some (.int .u64 0)) ∧ (∀ i, wc.frozen? ⟨w.heap.size, i, none⟩ = false) ∧ Below w.heap.size w wc ∧ w1.heap.size < wc.heap.size)
    case first =>
      by_cases hu : (f : Int) + 1 < (bl C : Int)
      · obtain ⟨rfl, rfl⟩ := hup (by omega)
        rw [decide_eq_true hu] at ht
        subst ht
        clear hup hno
        go_wp2_with (go_at_call 61; refine (c31 _ _ hvc').mono ?_; rintro r w7 ⟨v7, b7, rfl, h7, hb7⟩; obtain ⟨hc7, hf7⟩ := bcell hb7; have hz7_0 : w.heap.size < w7.heap.size := lt_below hb7 ltg; have hl7_0 := Nat.le_of_lt hz7_0; have hz7_1 : w1.heap.size < w7.heap.size := lt_below hb7 ltg; have hl7_1 := Nat.le_of_lt hz7_1; have hA7 := bnext (w0 := w) bgo hb7; have hs7 := hA7.size; clear hb7)
        go_meet
        exact ⟨by first | rfl | (congr 1; omega), h7, ⟨by go_simp, by go_simp, by go_simp, by go_simp, by go_simp, by go_simp, by go_simp, by go_simp, by go_simp, by go_simp⟩, zeros4 (by go_simp) (by go_simp) (by go_simp) (by go_simp), fun i => by go_simp, bgo, by first | assumption | (simp; done) | (simp; omega) | omega⟩
      · obtain ⟨rfl, rfl⟩ := hno (by omega)
        rw [decide_eq_false hu] at ht
        subst ht
        clear hup hno
        go_wp2
        go_meet
        exact ⟨by first | rfl | (congr 1; omega), hvc', ⟨by go_simp, by go_simp, by go_simp, by go_simp, by go_simp, by go_simp, by go_simp, by go_simp, by go_simp, by go_simp⟩, zeros4 (by go_simp) (by go_simp) (by go_simp) (by go_simp), fun i => by go_simp, bgo, by first | assumption | (simp; done) | (simp; omega) | omega⟩
    case rest =>
      clear fz ffr hbw hsz y0 y1 y2 y3 y4 y5 y6 y7 y8 y9 hl0 hle0 hle1 z0 z1 z2 z3 ht hvc'
      obtain ⟨rfl, hv', fI, fz, ffr, hbw, hsz⟩ := hcut
      obtain ⟨y0, y1, y2, y3, y4, y5, y6, y7, y8, y9⟩ := fI
      have hl0 : w.heap.size < wc.heap.size := by omega
      have hle0 := Nat.le_of_lt hl0
      have hle1 := Nat.le_of_lt hsz
      have z0 := fz 0 (by decide)
      have z1 := fz 1 (by decide)
      have z2 := fz 2 (by decide)
      have z3 := fz 3 (by decide)
      have c33 := raised_any ex (decide (lead + x1 < (f : Int) + l))
      rw [← hfl.out] at c33
      clear hfl
      go_wp2
      go_region_with (first
        | (go_at_call 63; refine (c33 _).mono ?_; rintro r w8 ⟨rfl, rfl⟩)
        | (go_at_call 56; refine (c27 _ _ (hT.go bgo) (hv'.next bgo)).mono ?_; rintro r w9 ⟨rfl, hb9⟩; obtain ⟨hc9, hf9⟩ := bcell hb9; have hz9_0 : w.heap.size < w9.heap.size := lt_below hb9 ltg; have hl9_0 := Nat.le_of_lt hz9_0; have hz9_1 : w1.heap.size < w9.heap.size := lt_below hb9 ltg; have hl9_1 := Nat.le_of_lt hz9_1; have hA9 := bnext (w0 := w) bgo hb9; have hs9 := hA9.size; clear hb9))
      all_goals (
        go_wp2_with fail
        exact bodyPost_ret (v := .tuple #[A4 R, .int .i64 fl, .int .i64 E]) (by simp only [results, Tryz.results27]; go_simp) rfl ⟨rfl, bgo⟩)
end
end
end Go.Proofs.YtpemdcnneabbfaaGreatDoor
