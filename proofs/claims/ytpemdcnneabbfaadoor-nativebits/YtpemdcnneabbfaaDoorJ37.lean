/-
  Texts that the proof leans on.
-/
import Derived.Test.YtpemdcnneabbfaaDoorJ35
import Derived.Test.YtpemdcnneabbfaaDoorJ3
set_option linter.unusedVariables false
set_option linter.unusedSectionVars false
set_option linter.unusedSimpArgs false
set_option maxRecDepth 20000
namespace Go.Proofs.YtpemdcnneabbfaaDoor
open Go.RowKit
section
attribute [local irreducible] W4
section
variable (TT : World → Prop) (hTT : ∀ w w', TT w → Below w.heap.size w w' → TT w') (w : World) (hT : TT w)
  (c8 : ∀ W, TT W → Calls Tryd.prog 7 #[] W fun r w' => r = .returned (.bool true) ∧ Below W.heap.size W w')
  (x y : Nat) (hx : x < 2 ^ 64) (hy : y < 2 ^ 32)
include hTT hT c8 hx hy
set_option maxHeartbeats 8000000 in
theorem nb21_Bnne_ (B M : Nat) (hB : B < 18446744073709551616) (hand : bits .and .u64 (B : Int) 4294967295 = (M : Int)) (hBM : B ≠ M) (h64 : FloatKind.f64.format.order x x = none) (h32 : FloatKind.f32.format.order y y = none) (hf : FloatKind.f64.format.order B B = some .eq)
    (c37 : ∀ W, TT W → Calls Tryd.prog 8 #[.agg #[.int .u64 (B : Int), .int .u64 0, .int .u64 0, .int .u64 0]] W fun r w' => (r = .returned (.tuple #[.float .f64 B, .int .i64 0])) ∧ Below W.heap.size W w')
    (c38 : ∀ W, TT W → Calls Tryd.prog 9 #[.agg #[.int .u64 (B : Int), .int .u64 0, .int .u64 0, .int .u64 0]] W fun r w' => (∃ z, r = .returned (.tuple #[.float .f32 z, .int .i64 1])) ∧ Below W.heap.size W w') :
    Calls Tryd.prog 3 #[.int .u64 (x : Int), .int .u32 (y : Int), .agg #[.int .u64 (B : Int), .int .u64 0, .int .u64 0, .int .u64 0]] w fun r w' => r = .returned (.bool true) ∧ Below w.heap.size w w' := by
  have hsm := cell_set_map
  have e1 := eq24 (B : Int) 0 0 0 (B : Int) 0 0 0
  rw [decide_eq_true ⟨rfl, rfl, rfl, rfl⟩] at e1
  have e2 := eq24 (B : Int) 0 0 0 (M : Int) 0 0 0
  rw [decide_eq_false (fun h => hBM (by exact_mod_cast h.1))] at e2
  have e3 := eq24 (x : Int) 0 0 0 (x : Int) 0 0 0
  rw [decide_eq_true ⟨rfl, rfl, rfl, rfl⟩] at e3
  have e4 := eq24 (y : Int) 0 0 0 (y : Int) 0 0 0
  rw [decide_eq_true ⟨rfl, rfl, rfl, rfl⟩] at e4
  have x1 := run_f64 (x : Int)
  have x2 := run_f32 (y : Int)
  rw [Int.toNat_natCast] at x1 x2
  have x3 := run_b64 B
  have hn0 : ((none : Option Ordering) != some Ordering.eq) = true := rfl
  have x4 := run_b32 B
  have hwy : IntKind.u64.wrap (y : Int) = (y : Int) := by rw [IntKind.wrap_u64]; omega
  have hwB : IntKind.u64.wrap (B : Int) = (B : Int) := by rw [IntKind.wrap_u64]; omega
  go_enter Tryd.func3, Tryd.ntmps3
  go_upto_region 6 with (first
    | (go_at_call 7; refine (c8 _ (hTT _ _ hT bgo)).mono ?_; rintro r w1 ⟨rfl, hb1⟩; obtain ⟨hc1, hf1⟩ := bcell hb1; have hz1_0 : w.heap.size < w1.heap.size := lt_below hb1 ltg; have hl1_0 := Nat.le_of_lt hz1_0; have hA1 := bnext (w0 := w) bgo hb1; have hs1 := hA1.size; clear hb1)
    | (go_at_call 8; refine (c37 _ (hTT _ _ hT bgo)).mono ?_; rintro r w2 ⟨rfl, hb2⟩; obtain ⟨hc2, hf2⟩ := bcell hb2; have hz2_0 : w.heap.size < w2.heap.size := lt_below hb2 ltg; have hl2_0 := Nat.le_of_lt hz2_0; have hA2 := bnext (w0 := w) bgo hb2; have hs2 := hA2.size; clear hb2)
    | (go_at_call 9; refine (c38 _ (hTT _ _ hT bgo)).mono ?_; rintro r w3 ⟨⟨z3, rfl⟩, hb3⟩; obtain ⟨hc3, hf3⟩ := bcell hb3; have hz3_0 : w.heap.size < w3.heap.size := lt_below hb3 ltg; have hl3_0 := Nat.le_of_lt hz3_0; have hA3 := bnext (w0 := w) bgo hb3; have hs3 := hA3.size; clear hb3))
  refine wp_whole (by kernel_rfl) (by kernel_rfl) fun hne hcell => ?_
  repeat go_big_quiet_step (fail)
  refine wpQuiet_nil fun w6 hb6 => ?_
  clear hne hcell
  obtain ⟨hc6, hf6⟩ := bcell hb6; have hz6_0 : w.heap.size < w6.heap.size := lt_below hb6 ltg; have hl6_0 := Nat.le_of_lt hz6_0; have hA6 := bnext (w0 := w) bgo hb6; have hs6 := hA6.size; clear hb6
  go_upto_region 11 with (first
    | fail
    | fail)
  refine wp_whole (by kernel_rfl) (by kernel_rfl) fun hne hcell => ?_
  repeat go_big_quiet_step (fail)
  refine wpQuiet_nil fun w8 hb8 => ?_
  clear hne hcell
  obtain ⟨hc8, hf8⟩ := bcell hb8; have hz8_0 : w.heap.size < w8.heap.size := lt_below hb8 ltg; have hl8_0 := Nat.le_of_lt hz8_0; have hA8 := bnext (w0 := w) bgo hb8; have hs8 := hA8.size; clear hb8
  go_wp2
  go_ret
  exact ⟨by first | rfl | simp, bgo⟩
set_option maxHeartbeats 8000000 in
theorem nb21_Bnee_ (B M : Nat) (hB : B < 18446744073709551616) (hand : bits .and .u64 (B : Int) 4294967295 = (M : Int)) (hBM : B ≠ M) (h64 : FloatKind.f64.format.order x x = none) (h32 : FloatKind.f32.format.order y y = some .eq) (hf : FloatKind.f64.format.order B B = some .eq)
    (c37 : ∀ W, TT W → Calls Tryd.prog 8 #[.agg #[.int .u64 (B : Int), .int .u64 0, .int .u64 0, .int .u64 0]] W fun r w' => (r = .returned (.tuple #[.float .f64 B, .int .i64 0])) ∧ Below W.heap.size W w')
    (c38 : ∀ W, TT W → Calls Tryd.prog 9 #[.agg #[.int .u64 (B : Int), .int .u64 0, .int .u64 0, .int .u64 0]] W fun r w' => (∃ z, r = .returned (.tuple #[.float .f32 z, .int .i64 1])) ∧ Below W.heap.size W w')
    (c43 : ∀ W, Calls Tryd.prog 14 #[.float .f32 y] W fun r w' => r = .returned (.agg #[.int .u64 (y : Int), .int .u64 0, .int .u64 0, .int .u64 0]) ∧ Below W.heap.size W w') :
    Calls Tryd.prog 3 #[.int .u64 (x : Int), .int .u32 (y : Int), .agg #[.int .u64 (B : Int), .int .u64 0, .int .u64 0, .int .u64 0]] w fun r w' => r = .returned (.bool true) ∧ Below w.heap.size w w' := by
  have hsm := cell_set_map
  have e1 := eq24 (B : Int) 0 0 0 (B : Int) 0 0 0
  rw [decide_eq_true ⟨rfl, rfl, rfl, rfl⟩] at e1
  have e2 := eq24 (B : Int) 0 0 0 (M : Int) 0 0 0
  rw [decide_eq_false (fun h => hBM (by exact_mod_cast h.1))] at e2
  have e3 := eq24 (x : Int) 0 0 0 (x : Int) 0 0 0
  rw [decide_eq_true ⟨rfl, rfl, rfl, rfl⟩] at e3
  have e4 := eq24 (y : Int) 0 0 0 (y : Int) 0 0 0
  rw [decide_eq_true ⟨rfl, rfl, rfl, rfl⟩] at e4
  have x1 := run_f64 (x : Int)
  have x2 := run_f32 (y : Int)
  rw [Int.toNat_natCast] at x1 x2
  have x3 := run_b64 B
  have hn0 : ((none : Option Ordering) != some Ordering.eq) = true := rfl
  have x4 := run_b32 B
  have hwy : IntKind.u64.wrap (y : Int) = (y : Int) := by rw [IntKind.wrap_u64]; omega
  have hwB : IntKind.u64.wrap (B : Int) = (B : Int) := by rw [IntKind.wrap_u64]; omega
  go_enter Tryd.func3, Tryd.ntmps3
  go_upto_region 6 with (first
    | (go_at_call 7; refine (c8 _ (hTT _ _ hT bgo)).mono ?_; rintro r w1 ⟨rfl, hb1⟩; obtain ⟨hc1, hf1⟩ := bcell hb1; have hz1_0 : w.heap.size < w1.heap.size := lt_below hb1 ltg; have hl1_0 := Nat.le_of_lt hz1_0; have hA1 := bnext (w0 := w) bgo hb1; have hs1 := hA1.size; clear hb1)
    | (go_at_call 8; refine (c37 _ (hTT _ _ hT bgo)).mono ?_; rintro r w2 ⟨rfl, hb2⟩; obtain ⟨hc2, hf2⟩ := bcell hb2; have hz2_0 : w.heap.size < w2.heap.size := lt_below hb2 ltg; have hl2_0 := Nat.le_of_lt hz2_0; have hA2 := bnext (w0 := w) bgo hb2; have hs2 := hA2.size; clear hb2)
    | (go_at_call 9; refine (c38 _ (hTT _ _ hT bgo)).mono ?_; rintro r w3 ⟨⟨z3, rfl⟩, hb3⟩; obtain ⟨hc3, hf3⟩ := bcell hb3; have hz3_0 : w.heap.size < w3.heap.size := lt_below hb3 ltg; have hl3_0 := Nat.le_of_lt hz3_0; have hA3 := bnext (w0 := w) bgo hb3; have hs3 := hA3.size; clear hb3))
  refine wp_whole (by kernel_rfl) (by kernel_rfl) fun hne hcell => ?_
  repeat go_big_quiet_step (fail)
  refine wpQuiet_nil fun w6 hb6 => ?_
  clear hne hcell
  obtain ⟨hc6, hf6⟩ := bcell hb6; have hz6_0 : w.heap.size < w6.heap.size := lt_below hb6 ltg; have hl6_0 := Nat.le_of_lt hz6_0; have hA6 := bnext (w0 := w) bgo hb6; have hs6 := hA6.size; clear hb6
  go_upto_region 11 with (first
    | (go_at_call 14; refine (c43 _).mono ?_; rintro r w7 ⟨rfl, hb7⟩; obtain ⟨hc7, hf7⟩ := bcell hb7; have hz7_0 : w.heap.size < w7.heap.size := lt_below hb7 ltg; have hl7_0 := Nat.le_of_lt hz7_0; have hA7 := bnext (w0 := w) bgo hb7; have hs7 := hA7.size; clear hb7)
    | fail)
  refine wp_whole (by kernel_rfl) (by kernel_rfl) fun hne hcell => ?_
  repeat go_big_quiet_step (fail)
  refine wpQuiet_nil fun w8 hb8 => ?_
  clear hne hcell
  obtain ⟨hc8, hf8⟩ := bcell hb8; have hz8_0 : w.heap.size < w8.heap.size := lt_below hb8 ltg; have hl8_0 := Nat.le_of_lt hz8_0; have hA8 := bnext (w0 := w) bgo hb8; have hs8 := hA8.size; clear hb8
  go_wp2
  go_ret
  exact ⟨by first | rfl | simp, bgo⟩
set_option maxHeartbeats 8000000 in
theorem nb21_Bene_ (B M : Nat) (hB : B < 18446744073709551616) (hand : bits .and .u64 (B : Int) 4294967295 = (M : Int)) (hBM : B ≠ M) (h64 : FloatKind.f64.format.order x x = some .eq) (h32 : FloatKind.f32.format.order y y = none) (hf : FloatKind.f64.format.order B B = some .eq)
    (c37 : ∀ W, TT W → Calls Tryd.prog 8 #[.agg #[.int .u64 (B : Int), .int .u64 0, .int .u64 0, .int .u64 0]] W fun r w' => (r = .returned (.tuple #[.float .f64 B, .int .i64 0])) ∧ Below W.heap.size W w')
    (c38 : ∀ W, TT W → Calls Tryd.prog 9 #[.agg #[.int .u64 (B : Int), .int .u64 0, .int .u64 0, .int .u64 0]] W fun r w' => (∃ z, r = .returned (.tuple #[.float .f32 z, .int .i64 1])) ∧ Below W.heap.size W w')
    (c40 : ∀ W, Calls Tryd.prog 11 #[.float .f64 x] W fun r w' => r = .returned (.agg #[.int .u64 (x : Int), .int .u64 0, .int .u64 0, .int .u64 0]) ∧ Below W.heap.size W w') :
    Calls Tryd.prog 3 #[.int .u64 (x : Int), .int .u32 (y : Int), .agg #[.int .u64 (B : Int), .int .u64 0, .int .u64 0, .int .u64 0]] w fun r w' => r = .returned (.bool true) ∧ Below w.heap.size w w' := by
  have hsm := cell_set_map
  have e1 := eq24 (B : Int) 0 0 0 (B : Int) 0 0 0
  rw [decide_eq_true ⟨rfl, rfl, rfl, rfl⟩] at e1
  have e2 := eq24 (B : Int) 0 0 0 (M : Int) 0 0 0
  rw [decide_eq_false (fun h => hBM (by exact_mod_cast h.1))] at e2
  have e3 := eq24 (x : Int) 0 0 0 (x : Int) 0 0 0
  rw [decide_eq_true ⟨rfl, rfl, rfl, rfl⟩] at e3
  have e4 := eq24 (y : Int) 0 0 0 (y : Int) 0 0 0
  rw [decide_eq_true ⟨rfl, rfl, rfl, rfl⟩] at e4
  have x1 := run_f64 (x : Int)
  have x2 := run_f32 (y : Int)
  rw [Int.toNat_natCast] at x1 x2
  have x3 := run_b64 B
  have hn0 : ((none : Option Ordering) != some Ordering.eq) = true := rfl
  have x4 := run_b32 B
  have hwy : IntKind.u64.wrap (y : Int) = (y : Int) := by rw [IntKind.wrap_u64]; omega
  have hwB : IntKind.u64.wrap (B : Int) = (B : Int) := by rw [IntKind.wrap_u64]; omega
  go_enter Tryd.func3, Tryd.ntmps3
  go_upto_region 6 with (first
    | (go_at_call 7; refine (c8 _ (hTT _ _ hT bgo)).mono ?_; rintro r w1 ⟨rfl, hb1⟩; obtain ⟨hc1, hf1⟩ := bcell hb1; have hz1_0 : w.heap.size < w1.heap.size := lt_below hb1 ltg; have hl1_0 := Nat.le_of_lt hz1_0; have hA1 := bnext (w0 := w) bgo hb1; have hs1 := hA1.size; clear hb1)
    | (go_at_call 8; refine (c37 _ (hTT _ _ hT bgo)).mono ?_; rintro r w2 ⟨rfl, hb2⟩; obtain ⟨hc2, hf2⟩ := bcell hb2; have hz2_0 : w.heap.size < w2.heap.size := lt_below hb2 ltg; have hl2_0 := Nat.le_of_lt hz2_0; have hA2 := bnext (w0 := w) bgo hb2; have hs2 := hA2.size; clear hb2)
    | (go_at_call 9; refine (c38 _ (hTT _ _ hT bgo)).mono ?_; rintro r w3 ⟨⟨z3, rfl⟩, hb3⟩; obtain ⟨hc3, hf3⟩ := bcell hb3; have hz3_0 : w.heap.size < w3.heap.size := lt_below hb3 ltg; have hl3_0 := Nat.le_of_lt hz3_0; have hA3 := bnext (w0 := w) bgo hb3; have hs3 := hA3.size; clear hb3))
  refine wp_whole (by kernel_rfl) (by kernel_rfl) fun hne hcell => ?_
  repeat go_big_quiet_step (fail)
  repeat go_big_quiet_step (fail)
  go_big_quiet_step ((go_at_call 11; exact calls_wd _ bk_next (c40 _)))
  repeat go_big_quiet_step (fail)
  refine wpQuiet_nil fun w6 hb6 => ?_
  clear hne hcell
  obtain ⟨hc6, hf6⟩ := bcell hb6; have hz6_0 : w.heap.size < w6.heap.size := lt_below hb6 ltg; have hl6_0 := Nat.le_of_lt hz6_0; have hA6 := bnext (w0 := w) bgo hb6; have hs6 := hA6.size; clear hb6
  go_upto_region 11 with (first
    | fail
    | fail)
  refine wp_whole (by kernel_rfl) (by kernel_rfl) fun hne hcell => ?_
  repeat go_big_quiet_step (fail)
  refine wpQuiet_nil fun w8 hb8 => ?_
  clear hne hcell
  obtain ⟨hc8, hf8⟩ := bcell hb8; have hz8_0 : w.heap.size < w8.heap.size := lt_below hb8 ltg; have hl8_0 := Nat.le_of_lt hz8_0; have hA8 := bnext (w0 := w) bgo hb8; have hs8 := hA8.size; clear hb8
  go_wp2
  go_ret
  exact ⟨by first | rfl | simp, bgo⟩
set_option maxHeartbeats 8000000 in
theorem nb21_Beee_ (B M : Nat) (hB : B < 18446744073709551616) (hand : bits .and .u64 (B : Int) 4294967295 = (M : Int)) (hBM : B ≠ M) (h64 : FloatKind.f64.format.order x x = some .eq) (h32 : FloatKind.f32.format.order y y = some .eq) (hf : FloatKind.f64.format.order B B = some .eq)
    (c37 : ∀ W, TT W → Calls Tryd.prog 8 #[.agg #[.int .u64 (B : Int), .int .u64 0, .int .u64 0, .int .u64 0]] W fun r w' => (r = .returned (.tuple #[.float .f64 B, .int .i64 0])) ∧ Below W.heap.size W w')
    (c38 : ∀ W, TT W → Calls Tryd.prog 9 #[.agg #[.int .u64 (B : Int), .int .u64 0, .int .u64 0, .int .u64 0]] W fun r w' => (∃ z, r = .returned (.tuple #[.float .f32 z, .int .i64 1])) ∧ Below W.heap.size W w')
    (c40 : ∀ W, Calls Tryd.prog 11 #[.float .f64 x] W fun r w' => r = .returned (.agg #[.int .u64 (x : Int), .int .u64 0, .int .u64 0, .int .u64 0]) ∧ Below W.heap.size W w')
    (c43 : ∀ W, Calls Tryd.prog 14 #[.float .f32 y] W fun r w' => r = .returned (.agg #[.int .u64 (y : Int), .int .u64 0, .int .u64 0, .int .u64 0]) ∧ Below W.heap.size W w') :
    Calls Tryd.prog 3 #[.int .u64 (x : Int), .int .u32 (y : Int), .agg #[.int .u64 (B : Int), .int .u64 0, .int .u64 0, .int .u64 0]] w fun r w' => r = .returned (.bool true) ∧ Below w.heap.size w w' := by
  have hsm := cell_set_map
  have e1 := eq24 (B : Int) 0 0 0 (B : Int) 0 0 0
  rw [decide_eq_true ⟨rfl, rfl, rfl, rfl⟩] at e1
  have e2 := eq24 (B : Int) 0 0 0 (M : Int) 0 0 0
  rw [decide_eq_false (fun h => hBM (by exact_mod_cast h.1))] at e2
  have e3 := eq24 (x : Int) 0 0 0 (x : Int) 0 0 0
  rw [decide_eq_true ⟨rfl, rfl, rfl, rfl⟩] at e3
  have e4 := eq24 (y : Int) 0 0 0 (y : Int) 0 0 0
  rw [decide_eq_true ⟨rfl, rfl, rfl, rfl⟩] at e4
  have x1 := run_f64 (x : Int)
  have x2 := run_f32 (y : Int)
  rw [Int.toNat_natCast] at x1 x2
  have x3 := run_b64 B
  have hn0 : ((none : Option Ordering) != some Ordering.eq) = true := rfl
  have x4 := run_b32 B
  have hwy : IntKind.u64.wrap (y : Int) = (y : Int) := by rw [IntKind.wrap_u64]; omega
  have hwB : IntKind.u64.wrap (B : Int) = (B : Int) := by rw [IntKind.wrap_u64]; omega
  go_enter Tryd.func3, Tryd.ntmps3
  go_upto_region 6 with (first
    | (go_at_call 7; refine (c8 _ (hTT _ _ hT bgo)).mono ?_; rintro r w1 ⟨rfl, hb1⟩; obtain ⟨hc1, hf1⟩ := bcell hb1; have hz1_0 : w.heap.size < w1.heap.size := lt_below hb1 ltg; have hl1_0 := Nat.le_of_lt hz1_0; have hA1 := bnext (w0 := w) bgo hb1; have hs1 := hA1.size; clear hb1)
    | (go_at_call 8; refine (c37 _ (hTT _ _ hT bgo)).mono ?_; rintro r w2 ⟨rfl, hb2⟩; obtain ⟨hc2, hf2⟩ := bcell hb2; have hz2_0 : w.heap.size < w2.heap.size := lt_below hb2 ltg; have hl2_0 := Nat.le_of_lt hz2_0; have hA2 := bnext (w0 := w) bgo hb2; have hs2 := hA2.size; clear hb2)
    | (go_at_call 9; refine (c38 _ (hTT _ _ hT bgo)).mono ?_; rintro r w3 ⟨⟨z3, rfl⟩, hb3⟩; obtain ⟨hc3, hf3⟩ := bcell hb3; have hz3_0 : w.heap.size < w3.heap.size := lt_below hb3 ltg; have hl3_0 := Nat.le_of_lt hz3_0; have hA3 := bnext (w0 := w) bgo hb3; have hs3 := hA3.size; clear hb3))
  refine wp_whole (by kernel_rfl) (by kernel_rfl) fun hne hcell => ?_
  repeat go_big_quiet_step (fail)
  repeat go_big_quiet_step (fail)
  go_big_quiet_step ((go_at_call 11; exact calls_wd _ bk_next (c40 _)))
  repeat go_big_quiet_step (fail)
  refine wpQuiet_nil fun w6 hb6 => ?_
  clear hne hcell
  obtain ⟨hc6, hf6⟩ := bcell hb6; have hz6_0 : w.heap.size < w6.heap.size := lt_below hb6 ltg; have hl6_0 := Nat.le_of_lt hz6_0; have hA6 := bnext (w0 := w) bgo hb6; have hs6 := hA6.size; clear hb6
  go_upto_region 11 with (first
    | (go_at_call 14; refine (c43 _).mono ?_; rintro r w7 ⟨rfl, hb7⟩; obtain ⟨hc7, hf7⟩ := bcell hb7; have hz7_0 : w.heap.size < w7.heap.size := lt_below hb7 ltg; have hl7_0 := Nat.le_of_lt hz7_0; have hA7 := bnext (w0 := w) bgo hb7; have hs7 := hA7.size; clear hb7)
    | fail)
  refine wp_whole (by kernel_rfl) (by kernel_rfl) fun hne hcell => ?_
  repeat go_big_quiet_step (fail)
  refine wpQuiet_nil fun w8 hb8 => ?_
  clear hne hcell
  obtain ⟨hc8, hf8⟩ := bcell hb8; have hz8_0 : w.heap.size < w8.heap.size := lt_below hb8 ltg; have hl8_0 := Nat.le_of_lt hz8_0; have hA8 := bnext (w0 := w) bgo hb8; have hs8 := hA8.size; clear hb8
  go_wp2
  go_ret
  exact ⟨by first | rfl | simp, bgo⟩
end
end
end Go.Proofs.YtpemdcnneabbfaaDoor
