/-
  Texts that the proof leans on, joined: Xo.
-/
import Derived.Test.YtecoajeejombbaaGreatDoorT8
import Derived.Test.YtecoajeejombbaaGreatDoorJ1
import Derived.Test.YtecoajeejombbaaGreatDoorTE
set_option linter.unusedVariables false
set_option linter.unusedSectionVars false
set_option linter.unusedSimpArgs false
set_option maxRecDepth 20000
namespace Go.Proofs.YtecoajeejombbaaGreatDoor
open Go.RowKit

abbrev DW (s g : Bool) (p0 p1 p2 p3 : Int) : Value := .agg #[.int .i64 3, .bool s, .bool g, .int .i64 0, .int .u64 p0, .int .u64 p1, .int .u64 p2, .int .u64 p3]
abbrev QW (p0 p1 p2 p3 : Int) : Value := .agg #[.int .u64 p0, .int .u64 p1, .int .u64 p2, .int .u64 p3]
theorem DW_self (s g : Bool) (p0 p1 p2 p3 : Int) (w : World) : Sem.run Tryz.prog (Op.equalIn 10000 37 (DW s g p0 p1 p2 p3) (DW s g p0 p1 p2 p3)) w = .ok true w := by
  have := eq27 3 3 s s g g 0 0 p0 p1 p2 p3 p0 p1 p2 p3 w
  rw [decide_eq_true ⟨rfl, rfl, rfl, rfl, rfl, rfl, rfl, rfl⟩] at this
  exact this
theorem QW_ne {p0 p1 p2 p3 : Int} (h : ¬ (p0 = 0 ∧ p1 = 0 ∧ p2 = 0 ∧ p3 = 0)) (w : World) : Sem.run Tryz.prog (Op.equalIn 10000 25 (QW p0 p1 p2 p3) (QW 0 0 0 0)) w = .ok false w := by
  have := eq24 p0 p1 p2 p3 0 0 0 0 w
  rw [decide_eq_false h] at this
  exact this
theorem QW_zero (w : World) : Sem.run Tryz.prog (Op.equalIn 10000 25 (QW 0 0 0 0) (QW 0 0 0 0)) w = .ok true w := by
  have := eq24 0 0 0 0 0 0 0 0 w
  rw [decide_eq_true ⟨rfl, rfl, rfl, rfl⟩] at this
  exact this
section
variable (n d : Int) (a : Option Addr) (k c : Nat) (sn sg : Bool) (w : World) (hT : Tab w) (hT10 : Tb10 w) (hkc : k ≤ c) (hc2 : (c : Int) ≤ 9223372036854775807)
include hT hT10 hkc hc2
set_option maxHeartbeats 2000000 in
theorem nan_long (h : (30 : Int) < k) :
    Calls Tryz.prog 7 #[.int .i64 n, .int .i64 d, .slice a k c, .bool sn, .bool sg] w fun r w' => r = .returned (.bool true) ∧ Below w.heap.size w w' := by
  have c9 := awake8
  have hB : Below w.heap.size w w := Below.refl _ _
  go_enter Tryz.func7, Tryz.ntmps7
  go_wp2_with (first | (go_at_call 9; refine (c9 _ (hT.go hB) (hT10.next hB)).mono ?_; rintro r w1 ⟨rfl, hb1⟩; replace hB := bnext hB hb1; clear hb1))
  go_ret
  exact ⟨rfl, hB⟩
variable (h : (k : Int) ≤ 30)
include h
set_option maxHeartbeats 2000000 in
theorem nan_nb (c22 : ∀ W, Calls Tryz.prog 22 #[.int .i64 n] W fun r w' => r = .returned (.bool false) ∧ W = w') :
    Calls Tryz.prog 7 #[.int .i64 n, .int .i64 d, .slice a k c, .bool sn, .bool sg] w fun r w' => r = .returned (.bool true) ∧ Below w.heap.size w w' := by
  have c9 := awake8
  have hB : Below w.heap.size w w := Below.refl _ _
  go_enter Tryz.func7, Tryz.ntmps7
  go_wp2_with (first
    | (go_at_call 9; refine (c9 _ (hT.go hB) (hT10.next hB)).mono ?_; rintro r w1 ⟨rfl, hb1⟩; replace hB := bnext hB hb1; clear hb1)
    | (go_at_call 22; refine (c22 _).mono ?_; rintro r w1 ⟨rfl, rfl⟩))
  go_ret
  exact ⟨rfl, hB⟩
variable (c22 : ∀ W, Calls Tryz.prog 22 #[.int .i64 n] W fun r w' => r = .returned (.bool true) ∧ W = w')
include c22
set_option maxHeartbeats 2000000 in
theorem nan_nd (c15 : ∀ W, Calls Tryz.prog 15 #[.int .i64 d] W fun r w' => r = .returned (.bool false) ∧ W = w') :
    Calls Tryz.prog 7 #[.int .i64 n, .int .i64 d, .slice a k c, .bool sn, .bool sg] w fun r w' => r = .returned (.bool true) ∧ Below w.heap.size w w' := by
  have c9 := awake8
  have hB : Below w.heap.size w w := Below.refl _ _
  go_enter Tryz.func7, Tryz.ntmps7
  go_wp2_with (first
    | (go_at_call 9; refine (c9 _ (hT.go hB) (hT10.next hB)).mono ?_; rintro r w1 ⟨rfl, hb1⟩; replace hB := bnext hB hb1; clear hb1)
    | (go_at_call 22; refine (c22 _).mono ?_; rintro r w1 ⟨rfl, rfl⟩)
    | (go_at_call 15; refine (c15 _).mono ?_; rintro r w1 ⟨rfl, rfl⟩))
  go_ret
  exact ⟨rfl, hB⟩
variable (c15 : ∀ W, Calls Tryz.prog 15 #[.int .i64 d] W fun r w' => r = .returned (.bool true) ∧ W = w')
  (nm : ByteArray) (wd : Int) (f e : Nat) (lo m : Int) (hf : 2 ≤ f ∧ f ≤ 240) (D : List UInt8) (L : Int) (v0 v1 v2 v3 x0 x1 x2 x3 : Int)
  (c20 : ∀ W, Below w.heap.size w W → Calls Tryz.prog 20 #[.slice a k c] W fun r w' => r = .returned (.string (B D)) ∧ Below W.heap.size W w')
  (c12 : ∀ W, Below w.heap.size w W → Calls Tryz.prog 12 #[.int .i64 n, .int .i64 d, .agg #[.int .i64 3, .bool sg, .bool sn, .string (B D), .int .i64 0]] W fun r w' => r = .returned (.tuple #[QW x0 x1 x2 x3, .int .i64 0, .int .i64 0]) ∧ Below W.heap.size W w')
  (c25 : ∀ W, Calls Tryz.prog 25 #[.int .i64 n] W fun r w' => r = .returned (.tuple #[.agg #[.int .i64 n, .string nm, .int .i64 2, .int .i64 wd, .int .i64 ((f : Int) + 1), .int .i64 e, .int .i64 lo, .int .i64 m, .int .i64 ((f : Int) - 1), .bool false], .int .i64 0]) ∧ Below W.heap.size W w')
  (c26 : ∀ W, Below w.heap.size w W → Calls Tryz.prog 26 #[.slice a k c] W fun r w' => r = .returned (.int .i64 L) ∧ Below W.heap.size W w')
include c15 hf c20 c12 c25 c26
set_option maxHeartbeats 4000000 in
theorem nan_a1 (hsn : sn = false) (hL : L ≤ (f : Int) - 1) (c27 : ∀ W, Below w.heap.size w W → Calls Tryz.prog 27 #[.slice a k c] W fun r w' => r = .returned (QW v0 v1 v2 v3) ∧ Below W.heap.size W w')
    (c24 : ∀ W, Calls Tryz.prog 24 #[.int .i64 n, QW x0 x1 x2 x3] W fun r w' => r = .returned (.tuple #[DW sg sn v0 v1 v2 v3, .int .i64 0]) ∧ Below W.heap.size W w') :
    Calls Tryz.prog 7 #[.int .i64 n, .int .i64 d, .slice a k c, .bool sn, .bool sg] w fun r w' => r = .returned (.bool true) ∧ Below w.heap.size w w' := by
  have c9 := awake8
  have hsm := cell_set_map
  subst hsn
  have hself := DW_self sg false v0 v1 v2 v3
  go_enter Tryz.func7, Tryz.ntmps7
  go_wp2_with (first
    | (go_at_call 9; refine (c9 _ (hT.go bgo) (hT10.next bgo)).mono ?_; rintro x w1 ⟨rfl, hb1⟩; obtain ⟨hc1, hf1⟩ := bcell hb1; have hA1 := bnext (w0 := w) bgo hb1; have hs1 := hA1.size; clear hb1)
    | (go_at_call 22; refine (c22 _).mono ?_; rintro r w1 ⟨rfl, rfl⟩)
    | (go_at_call 15; refine (c15 _).mono ?_; rintro r w1 ⟨rfl, rfl⟩)
    | (go_at_call 20; refine (c20 _ bgo).mono ?_; rintro r w2 ⟨rfl, hb2⟩; obtain ⟨hc2, hf2⟩ := bcell hb2; have hA2 := bnext (w0 := w) bgo hb2; have hs2 := hA2.size; clear hb2)
    | (go_at_call 12; refine (c12 _ bgo).mono ?_; rintro r w3 ⟨rfl, hb3⟩; obtain ⟨hc3, hf3⟩ := bcell hb3; have hA3 := bnext (w0 := w) bgo hb3; have hs3 := hA3.size; clear hb3)
    | (go_at_call 24; refine (c24 _).mono ?_; rintro r w4 ⟨rfl, hb4⟩; obtain ⟨hc4, hf4⟩ := bcell hb4; have hz4_0 : w3.heap.size < w4.heap.size := lt_below hb4 ltg; have hl4_0 := Nat.le_of_lt hz4_0; have hA4 := bnext (w0 := w) bgo hb4; have hs4 := hA4.size; clear hb4)
    | (go_at_call 25; refine (c25 _).mono ?_; rintro r w5 ⟨rfl, hb5⟩; obtain ⟨hc5, hf5⟩ := bcell hb5; have hz5_0 : w3.heap.size < w5.heap.size := lt_below hb5 ltg; have hl5_0 := Nat.le_of_lt hz5_0; have hz5_1 : w4.heap.size < w5.heap.size := lt_below hb5 ltg; have hl5_1 := Nat.le_of_lt hz5_1; have hA5 := bnext (w0 := w) bgo hb5; have hs5 := hA5.size; clear hb5))
  refine wp_whole (by kernel_rfl) (by kernel_rfl) fun hne hcell => ?_
  repeat go_big_quiet_step (fail)
  go_big_quiet_step ((go_at_call 26; exact calls_wd _ bk_next (c26 _ (bnext bgo (Wd.h _)))))
  repeat go_big_quiet_step (fail)
  refine wpQuiet_nil fun w6 hb6 => ?_
  have z4 : w4.heap.size < w5.heap.size := by assumption
  have k4_0 : w6.cell? ⟨w4.heap.size, 0, none⟩ = some (.int .i64 3) := by rw [hb6.cell (p := ⟨w4.heap.size, 0, none⟩) (by simp; omega)]; go_simp
  have k4_1 : w6.cell? ⟨w4.heap.size, 1, none⟩ = some (.bool sg) := by rw [hb6.cell (p := ⟨w4.heap.size, 1, none⟩) (by simp; omega)]; go_simp
  have k4_2 : w6.cell? ⟨w4.heap.size, 2, none⟩ = some (.bool false) := by rw [hb6.cell (p := ⟨w4.heap.size, 2, none⟩) (by simp; omega)]; go_simp
  have k4_3 : w6.cell? ⟨w4.heap.size, 3, none⟩ = some (.int .i64 0) := by rw [hb6.cell (p := ⟨w4.heap.size, 3, none⟩) (by simp; omega)]; go_simp
  have k4_4 : w6.cell? ⟨w4.heap.size, 4, none⟩ = some (.int .u64 v0) := by rw [hb6.cell (p := ⟨w4.heap.size, 4, none⟩) (by simp; omega)]; go_simp
  have k4_5 : w6.cell? ⟨w4.heap.size, 5, none⟩ = some (.int .u64 v1) := by rw [hb6.cell (p := ⟨w4.heap.size, 5, none⟩) (by simp; omega)]; go_simp
  have k4_6 : w6.cell? ⟨w4.heap.size, 6, none⟩ = some (.int .u64 v2) := by rw [hb6.cell (p := ⟨w4.heap.size, 6, none⟩) (by simp; omega)]; go_simp
  have k4_7 : w6.cell? ⟨w4.heap.size, 7, none⟩ = some (.int .u64 v3) := by rw [hb6.cell (p := ⟨w4.heap.size, 7, none⟩) (by simp; omega)]; go_simp
  have k5_0 : w6.cell? ⟨w5.heap.size + 1, 0, none⟩ = some (.int .u64 0) := by rw [hb6.cell (p := ⟨w5.heap.size + 1, 0, none⟩) (by simp)]; go_simp
  have k5_1 : w6.cell? ⟨w5.heap.size + 1, 1, none⟩ = some (.int .u64 0) := by rw [hb6.cell (p := ⟨w5.heap.size + 1, 1, none⟩) (by simp)]; go_simp
  have k5_2 : w6.cell? ⟨w5.heap.size + 1, 2, none⟩ = some (.int .u64 0) := by rw [hb6.cell (p := ⟨w5.heap.size + 1, 2, none⟩) (by simp)]; go_simp
  have k5_3 : w6.cell? ⟨w5.heap.size + 1, 3, none⟩ = some (.int .u64 0) := by rw [hb6.cell (p := ⟨w5.heap.size + 1, 3, none⟩) (by simp)]; go_simp
  have f5_0 : w6.frozen? ⟨w5.heap.size + 1, 0, none⟩ = false := by rw [hb6.frozen (p := ⟨w5.heap.size + 1, 0, none⟩) (by simp)]; go_simp
  have f5_1 : w6.frozen? ⟨w5.heap.size + 1, 1, none⟩ = false := by rw [hb6.frozen (p := ⟨w5.heap.size + 1, 1, none⟩) (by simp)]; go_simp
  have f5_2 : w6.frozen? ⟨w5.heap.size + 1, 2, none⟩ = false := by rw [hb6.frozen (p := ⟨w5.heap.size + 1, 2, none⟩) (by simp)]; go_simp
  have f5_3 : w6.frozen? ⟨w5.heap.size + 1, 3, none⟩ = false := by rw [hb6.frozen (p := ⟨w5.heap.size + 1, 3, none⟩) (by simp)]; go_simp
  obtain ⟨hc6, hf6⟩ := bcell hb6; have hz6_0 : w3.heap.size < w6.heap.size := lt_below hb6 ltg; have hl6_0 := Nat.le_of_lt hz6_0; have hz6_1 : w4.heap.size < w6.heap.size := lt_below hb6 ltg; have hl6_1 := Nat.le_of_lt hz6_1; have hz6_2 : w5.heap.size < w6.heap.size := lt_below hb6 ltg; have hl6_2 := Nat.le_of_lt hz6_2; have hz6_3 : w5.heap.size + 1 < w6.heap.size := lt_below hb6 ltg; have hl6_3 := Nat.le_of_lt hz6_3; have hA6 := bnext (w0 := w) bgo hb6; have hs6 := hA6.size; clear hb6
  go_wp2_with (first | (go_at_call 27; refine (c27 _ bgo).mono ?_; rintro r w7 ⟨rfl, hb7⟩; obtain ⟨hc7, hf7⟩ := bcell hb7; have hz7_0 : w3.heap.size < w7.heap.size := lt_below hb7 ltg; have hl7_0 := Nat.le_of_lt hz7_0; have hz7_1 : w4.heap.size < w7.heap.size := lt_below hb7 ltg; have hl7_1 := Nat.le_of_lt hz7_1; have hz7_2 : w5.heap.size < w7.heap.size := lt_below hb7 ltg; have hl7_2 := Nat.le_of_lt hz7_2; have hz7_3 : w5.heap.size + 1 < w7.heap.size := lt_below hb7 ltg; have hl7_3 := Nat.le_of_lt hz7_3; have hA7 := bnext (w0 := w) bgo hb7; have hs7 := hA7.size; clear hb7) )
  all_goals (go_ret; exact ⟨rfl, bgo⟩)
set_option maxHeartbeats 4000000 in
theorem nan_a2 (hsn : sn = true) (hL : L ≤ (f : Int) - 1) (c27 : ∀ W, Below w.heap.size w W → Calls Tryz.prog 27 #[.slice a k c] W fun r w' => r = .returned (QW v0 v1 v2 v3) ∧ Below W.heap.size W w') (hv : ¬ (v0 = 0 ∧ v1 = 0 ∧ v2 = 0 ∧ v3 = 0))
    (c24 : ∀ W, Calls Tryz.prog 24 #[.int .i64 n, QW x0 x1 x2 x3] W fun r w' => r = .returned (.tuple #[DW sg sn v0 v1 v2 v3, .int .i64 0]) ∧ Below W.heap.size W w') :
    Calls Tryz.prog 7 #[.int .i64 n, .int .i64 d, .slice a k c, .bool sn, .bool sg] w fun r w' => r = .returned (.bool true) ∧ Below w.heap.size w w' := by
  have c9 := awake8
  have hsm := cell_set_map
  subst hsn
  have hself := DW_self sg true v0 v1 v2 v3
  have hq := QW_ne hv
  clear hv
  go_enter Tryz.func7, Tryz.ntmps7
  go_wp2_with (first
    | (go_at_call 9; refine (c9 _ (hT.go bgo) (hT10.next bgo)).mono ?_; rintro x w1 ⟨rfl, hb1⟩; obtain ⟨hc1, hf1⟩ := bcell hb1; have hA1 := bnext (w0 := w) bgo hb1; have hs1 := hA1.size; clear hb1)
    | (go_at_call 22; refine (c22 _).mono ?_; rintro r w1 ⟨rfl, rfl⟩)
    | (go_at_call 15; refine (c15 _).mono ?_; rintro r w1 ⟨rfl, rfl⟩)
    | (go_at_call 20; refine (c20 _ bgo).mono ?_; rintro r w2 ⟨rfl, hb2⟩; obtain ⟨hc2, hf2⟩ := bcell hb2; have hA2 := bnext (w0 := w) bgo hb2; have hs2 := hA2.size; clear hb2)
    | (go_at_call 12; refine (c12 _ bgo).mono ?_; rintro r w3 ⟨rfl, hb3⟩; obtain ⟨hc3, hf3⟩ := bcell hb3; have hA3 := bnext (w0 := w) bgo hb3; have hs3 := hA3.size; clear hb3)
    | (go_at_call 24; refine (c24 _).mono ?_; rintro r w4 ⟨rfl, hb4⟩; obtain ⟨hc4, hf4⟩ := bcell hb4; have hz4_0 : w3.heap.size < w4.heap.size := lt_below hb4 ltg; have hl4_0 := Nat.le_of_lt hz4_0; have hA4 := bnext (w0 := w) bgo hb4; have hs4 := hA4.size; clear hb4)
    | (go_at_call 25; refine (c25 _).mono ?_; rintro r w5 ⟨rfl, hb5⟩; obtain ⟨hc5, hf5⟩ := bcell hb5; have hz5_0 : w3.heap.size < w5.heap.size := lt_below hb5 ltg; have hl5_0 := Nat.le_of_lt hz5_0; have hz5_1 : w4.heap.size < w5.heap.size := lt_below hb5 ltg; have hl5_1 := Nat.le_of_lt hz5_1; have hA5 := bnext (w0 := w) bgo hb5; have hs5 := hA5.size; clear hb5))
  refine wp_whole (by kernel_rfl) (by kernel_rfl) fun hne hcell => ?_
  repeat go_big_quiet_step (fail)
  go_big_quiet_step ((go_at_call 26; exact calls_wd _ bk_next (c26 _ (bnext bgo (Wd.h _)))))
  repeat go_big_quiet_step (fail)
  refine wpQuiet_nil fun w6 hb6 => ?_
  have z4 : w4.heap.size < w5.heap.size := by assumption
  have k4_0 : w6.cell? ⟨w4.heap.size, 0, none⟩ = some (.int .i64 3) := by rw [hb6.cell (p := ⟨w4.heap.size, 0, none⟩) (by simp; omega)]; go_simp
  have k4_1 : w6.cell? ⟨w4.heap.size, 1, none⟩ = some (.bool sg) := by rw [hb6.cell (p := ⟨w4.heap.size, 1, none⟩) (by simp; omega)]; go_simp
  have k4_2 : w6.cell? ⟨w4.heap.size, 2, none⟩ = some (.bool true) := by rw [hb6.cell (p := ⟨w4.heap.size, 2, none⟩) (by simp; omega)]; go_simp
  have k4_3 : w6.cell? ⟨w4.heap.size, 3, none⟩ = some (.int .i64 0) := by rw [hb6.cell (p := ⟨w4.heap.size, 3, none⟩) (by simp; omega)]; go_simp
  have k4_4 : w6.cell? ⟨w4.heap.size, 4, none⟩ = some (.int .u64 v0) := by rw [hb6.cell (p := ⟨w4.heap.size, 4, none⟩) (by simp; omega)]; go_simp
  have k4_5 : w6.cell? ⟨w4.heap.size, 5, none⟩ = some (.int .u64 v1) := by rw [hb6.cell (p := ⟨w4.heap.size, 5, none⟩) (by simp; omega)]; go_simp
  have k4_6 : w6.cell? ⟨w4.heap.size, 6, none⟩ = some (.int .u64 v2) := by rw [hb6.cell (p := ⟨w4.heap.size, 6, none⟩) (by simp; omega)]; go_simp
  have k4_7 : w6.cell? ⟨w4.heap.size, 7, none⟩ = some (.int .u64 v3) := by rw [hb6.cell (p := ⟨w4.heap.size, 7, none⟩) (by simp; omega)]; go_simp
  have k5_0 : w6.cell? ⟨w5.heap.size + 1, 0, none⟩ = some (.int .u64 0) := by rw [hb6.cell (p := ⟨w5.heap.size + 1, 0, none⟩) (by simp)]; go_simp
  have k5_1 : w6.cell? ⟨w5.heap.size + 1, 1, none⟩ = some (.int .u64 0) := by rw [hb6.cell (p := ⟨w5.heap.size + 1, 1, none⟩) (by simp)]; go_simp
  have k5_2 : w6.cell? ⟨w5.heap.size + 1, 2, none⟩ = some (.int .u64 0) := by rw [hb6.cell (p := ⟨w5.heap.size + 1, 2, none⟩) (by simp)]; go_simp
  have k5_3 : w6.cell? ⟨w5.heap.size + 1, 3, none⟩ = some (.int .u64 0) := by rw [hb6.cell (p := ⟨w5.heap.size + 1, 3, none⟩) (by simp)]; go_simp
  have f5_0 : w6.frozen? ⟨w5.heap.size + 1, 0, none⟩ = false := by rw [hb6.frozen (p := ⟨w5.heap.size + 1, 0, none⟩) (by simp)]; go_simp
  have f5_1 : w6.frozen? ⟨w5.heap.size + 1, 1, none⟩ = false := by rw [hb6.frozen (p := ⟨w5.heap.size + 1, 1, none⟩) (by simp)]; go_simp
  have f5_2 : w6.frozen? ⟨w5.heap.size + 1, 2, none⟩ = false := by rw [hb6.frozen (p := ⟨w5.heap.size + 1, 2, none⟩) (by simp)]; go_simp
  have f5_3 : w6.frozen? ⟨w5.heap.size + 1, 3, none⟩ = false := by rw [hb6.frozen (p := ⟨w5.heap.size + 1, 3, none⟩) (by simp)]; go_simp
  obtain ⟨hc6, hf6⟩ := bcell hb6; have hz6_0 : w3.heap.size < w6.heap.size := lt_below hb6 ltg; have hl6_0 := Nat.le_of_lt hz6_0; have hz6_1 : w4.heap.size < w6.heap.size := lt_below hb6 ltg; have hl6_1 := Nat.le_of_lt hz6_1; have hz6_2 : w5.heap.size < w6.heap.size := lt_below hb6 ltg; have hl6_2 := Nat.le_of_lt hz6_2; have hz6_3 : w5.heap.size + 1 < w6.heap.size := lt_below hb6 ltg; have hl6_3 := Nat.le_of_lt hz6_3; have hA6 := bnext (w0 := w) bgo hb6; have hs6 := hA6.size; clear hb6
  go_wp2_with (first | (go_at_call 27; refine (c27 _ bgo).mono ?_; rintro r w7 ⟨rfl, hb7⟩; obtain ⟨hc7, hf7⟩ := bcell hb7; have hz7_0 : w3.heap.size < w7.heap.size := lt_below hb7 ltg; have hl7_0 := Nat.le_of_lt hz7_0; have hz7_1 : w4.heap.size < w7.heap.size := lt_below hb7 ltg; have hl7_1 := Nat.le_of_lt hz7_1; have hz7_2 : w5.heap.size < w7.heap.size := lt_below hb7 ltg; have hl7_2 := Nat.le_of_lt hz7_2; have hz7_3 : w5.heap.size + 1 < w7.heap.size := lt_below hb7 ltg; have hl7_3 := Nat.le_of_lt hz7_3; have hA7 := bnext (w0 := w) bgo hb7; have hs7 := hA7.size; clear hb7) )
  all_goals (go_ret; exact ⟨rfl, bgo⟩)
set_option maxHeartbeats 4000000 in
theorem nan_a3 (hsn : sn = true) (hL : L ≤ (f : Int) - 1) (c27 : ∀ W, Below w.heap.size w W → Calls Tryz.prog 27 #[.slice a k c] W fun r w' => r = .returned (QW v0 v1 v2 v3) ∧ Below W.heap.size W w') (hv : v0 = 0 ∧ v1 = 0 ∧ v2 = 0 ∧ v3 = 0)
    (c24 : ∀ W, Calls Tryz.prog 24 #[.int .i64 n, QW x0 x1 x2 x3] W fun r w' => r = .returned (.tuple #[DW sg sn 1 0 0 0, .int .i64 0]) ∧ Below W.heap.size W w') :
    Calls Tryz.prog 7 #[.int .i64 n, .int .i64 d, .slice a k c, .bool sn, .bool sg] w fun r w' => r = .returned (.bool true) ∧ Below w.heap.size w w' := by
  have c9 := awake8
  have hsm := cell_set_map
  subst hsn
  obtain ⟨rfl, rfl, rfl, rfl⟩ := hv
  have hself := DW_self sg true 1 0 0 0
  have hq := QW_zero
  go_enter Tryz.func7, Tryz.ntmps7
  go_wp2_with (first
    | (go_at_call 9; refine (c9 _ (hT.go bgo) (hT10.next bgo)).mono ?_; rintro x w1 ⟨rfl, hb1⟩; obtain ⟨hc1, hf1⟩ := bcell hb1; have hA1 := bnext (w0 := w) bgo hb1; have hs1 := hA1.size; clear hb1)
    | (go_at_call 22; refine (c22 _).mono ?_; rintro r w1 ⟨rfl, rfl⟩)
    | (go_at_call 15; refine (c15 _).mono ?_; rintro r w1 ⟨rfl, rfl⟩)
    | (go_at_call 20; refine (c20 _ bgo).mono ?_; rintro r w2 ⟨rfl, hb2⟩; obtain ⟨hc2, hf2⟩ := bcell hb2; have hA2 := bnext (w0 := w) bgo hb2; have hs2 := hA2.size; clear hb2)
    | (go_at_call 12; refine (c12 _ bgo).mono ?_; rintro r w3 ⟨rfl, hb3⟩; obtain ⟨hc3, hf3⟩ := bcell hb3; have hA3 := bnext (w0 := w) bgo hb3; have hs3 := hA3.size; clear hb3)
    | (go_at_call 24; refine (c24 _).mono ?_; rintro r w4 ⟨rfl, hb4⟩; obtain ⟨hc4, hf4⟩ := bcell hb4; have hz4_0 : w3.heap.size < w4.heap.size := lt_below hb4 ltg; have hl4_0 := Nat.le_of_lt hz4_0; have hA4 := bnext (w0 := w) bgo hb4; have hs4 := hA4.size; clear hb4)
    | (go_at_call 25; refine (c25 _).mono ?_; rintro r w5 ⟨rfl, hb5⟩; obtain ⟨hc5, hf5⟩ := bcell hb5; have hz5_0 : w3.heap.size < w5.heap.size := lt_below hb5 ltg; have hl5_0 := Nat.le_of_lt hz5_0; have hz5_1 : w4.heap.size < w5.heap.size := lt_below hb5 ltg; have hl5_1 := Nat.le_of_lt hz5_1; have hA5 := bnext (w0 := w) bgo hb5; have hs5 := hA5.size; clear hb5))
  refine wp_whole (by kernel_rfl) (by kernel_rfl) fun hne hcell => ?_
  repeat go_big_quiet_step (fail)
  go_big_quiet_step ((go_at_call 26; exact calls_wd _ bk_next (c26 _ (bnext bgo (Wd.h _)))))
  repeat go_big_quiet_step (fail)
  refine wpQuiet_nil fun w6 hb6 => ?_
  have z4 : w4.heap.size < w5.heap.size := by assumption
  have k4_0 : w6.cell? ⟨w4.heap.size, 0, none⟩ = some (.int .i64 3) := by rw [hb6.cell (p := ⟨w4.heap.size, 0, none⟩) (by simp; omega)]; go_simp
  have k4_1 : w6.cell? ⟨w4.heap.size, 1, none⟩ = some (.bool sg) := by rw [hb6.cell (p := ⟨w4.heap.size, 1, none⟩) (by simp; omega)]; go_simp
  have k4_2 : w6.cell? ⟨w4.heap.size, 2, none⟩ = some (.bool true) := by rw [hb6.cell (p := ⟨w4.heap.size, 2, none⟩) (by simp; omega)]; go_simp
  have k4_3 : w6.cell? ⟨w4.heap.size, 3, none⟩ = some (.int .i64 0) := by rw [hb6.cell (p := ⟨w4.heap.size, 3, none⟩) (by simp; omega)]; go_simp
  have k4_4 : w6.cell? ⟨w4.heap.size, 4, none⟩ = some (.int .u64 1) := by rw [hb6.cell (p := ⟨w4.heap.size, 4, none⟩) (by simp; omega)]; go_simp
  have k4_5 : w6.cell? ⟨w4.heap.size, 5, none⟩ = some (.int .u64 0) := by rw [hb6.cell (p := ⟨w4.heap.size, 5, none⟩) (by simp; omega)]; go_simp
  have k4_6 : w6.cell? ⟨w4.heap.size, 6, none⟩ = some (.int .u64 0) := by rw [hb6.cell (p := ⟨w4.heap.size, 6, none⟩) (by simp; omega)]; go_simp
  have k4_7 : w6.cell? ⟨w4.heap.size, 7, none⟩ = some (.int .u64 0) := by rw [hb6.cell (p := ⟨w4.heap.size, 7, none⟩) (by simp; omega)]; go_simp
  have k5_0 : w6.cell? ⟨w5.heap.size + 1, 0, none⟩ = some (.int .u64 0) := by rw [hb6.cell (p := ⟨w5.heap.size + 1, 0, none⟩) (by simp)]; go_simp
  have k5_1 : w6.cell? ⟨w5.heap.size + 1, 1, none⟩ = some (.int .u64 0) := by rw [hb6.cell (p := ⟨w5.heap.size + 1, 1, none⟩) (by simp)]; go_simp
  have k5_2 : w6.cell? ⟨w5.heap.size + 1, 2, none⟩ = some (.int .u64 0) := by rw [hb6.cell (p := ⟨w5.heap.size + 1, 2, none⟩) (by simp)]; go_simp
  have k5_3 : w6.cell? ⟨w5.heap.size + 1, 3, none⟩ = some (.int .u64 0) := by rw [hb6.cell (p := ⟨w5.heap.size + 1, 3, none⟩) (by simp)]; go_simp
  have f5_0 : w6.frozen? ⟨w5.heap.size + 1, 0, none⟩ = false := by rw [hb6.frozen (p := ⟨w5.heap.size + 1, 0, none⟩) (by simp)]; go_simp
  have f5_1 : w6.frozen? ⟨w5.heap.size + 1, 1, none⟩ = false := by rw [hb6.frozen (p := ⟨w5.heap.size + 1, 1, none⟩) (by simp)]; go_simp
  have f5_2 : w6.frozen? ⟨w5.heap.size + 1, 2, none⟩ = false := by rw [hb6.frozen (p := ⟨w5.heap.size + 1, 2, none⟩) (by simp)]; go_simp
  have f5_3 : w6.frozen? ⟨w5.heap.size + 1, 3, none⟩ = false := by rw [hb6.frozen (p := ⟨w5.heap.size + 1, 3, none⟩) (by simp)]; go_simp
  obtain ⟨hc6, hf6⟩ := bcell hb6; have hz6_0 : w3.heap.size < w6.heap.size := lt_below hb6 ltg; have hl6_0 := Nat.le_of_lt hz6_0; have hz6_1 : w4.heap.size < w6.heap.size := lt_below hb6 ltg; have hl6_1 := Nat.le_of_lt hz6_1; have hz6_2 : w5.heap.size < w6.heap.size := lt_below hb6 ltg; have hl6_2 := Nat.le_of_lt hz6_2; have hz6_3 : w5.heap.size + 1 < w6.heap.size := lt_below hb6 ltg; have hl6_3 := Nat.le_of_lt hz6_3; have hA6 := bnext (w0 := w) bgo hb6; have hs6 := hA6.size; clear hb6
  go_wp2_with (first | (go_at_call 27; refine (c27 _ bgo).mono ?_; rintro r w7 ⟨rfl, hb7⟩; obtain ⟨hc7, hf7⟩ := bcell hb7; have hz7_0 : w3.heap.size < w7.heap.size := lt_below hb7 ltg; have hl7_0 := Nat.le_of_lt hz7_0; have hz7_1 : w4.heap.size < w7.heap.size := lt_below hb7 ltg; have hl7_1 := Nat.le_of_lt hz7_1; have hz7_2 : w5.heap.size < w7.heap.size := lt_below hb7 ltg; have hl7_2 := Nat.le_of_lt hz7_2; have hz7_3 : w5.heap.size + 1 < w7.heap.size := lt_below hb7 ltg; have hl7_3 := Nat.le_of_lt hz7_3; have hA7 := bnext (w0 := w) bgo hb7; have hs7 := hA7.size; clear hb7) )
  all_goals (go_ret; exact ⟨rfl, bgo⟩)
set_option maxHeartbeats 4000000 in
theorem nan_n1 (hsn : sn = false) (hL : (f : Int) - 1 < L)
    (c24 : ∀ W, Calls Tryz.prog 24 #[.int .i64 n, QW x0 x1 x2 x3] W fun r w' => r = .returned (.tuple #[DW sg sn 0 0 0 0, .int .i64 0]) ∧ Below W.heap.size W w') :
    Calls Tryz.prog 7 #[.int .i64 n, .int .i64 d, .slice a k c, .bool sn, .bool sg] w fun r w' => r = .returned (.bool true) ∧ Below w.heap.size w w' := by
  have c9 := awake8
  have hsm := cell_set_map
  subst hsn
  have hself := DW_self sg false 0 0 0 0
  go_enter Tryz.func7, Tryz.ntmps7
  go_wp2_with (first
    | (go_at_call 9; refine (c9 _ (hT.go bgo) (hT10.next bgo)).mono ?_; rintro x w1 ⟨rfl, hb1⟩; obtain ⟨hc1, hf1⟩ := bcell hb1; have hA1 := bnext (w0 := w) bgo hb1; have hs1 := hA1.size; clear hb1)
    | (go_at_call 22; refine (c22 _).mono ?_; rintro r w1 ⟨rfl, rfl⟩)
    | (go_at_call 15; refine (c15 _).mono ?_; rintro r w1 ⟨rfl, rfl⟩)
    | (go_at_call 20; refine (c20 _ bgo).mono ?_; rintro r w2 ⟨rfl, hb2⟩; obtain ⟨hc2, hf2⟩ := bcell hb2; have hA2 := bnext (w0 := w) bgo hb2; have hs2 := hA2.size; clear hb2)
    | (go_at_call 12; refine (c12 _ bgo).mono ?_; rintro r w3 ⟨rfl, hb3⟩; obtain ⟨hc3, hf3⟩ := bcell hb3; have hA3 := bnext (w0 := w) bgo hb3; have hs3 := hA3.size; clear hb3)
    | (go_at_call 24; refine (c24 _).mono ?_; rintro r w4 ⟨rfl, hb4⟩; obtain ⟨hc4, hf4⟩ := bcell hb4; have hz4_0 : w3.heap.size < w4.heap.size := lt_below hb4 ltg; have hl4_0 := Nat.le_of_lt hz4_0; have hA4 := bnext (w0 := w) bgo hb4; have hs4 := hA4.size; clear hb4)
    | (go_at_call 25; refine (c25 _).mono ?_; rintro r w5 ⟨rfl, hb5⟩; obtain ⟨hc5, hf5⟩ := bcell hb5; have hz5_0 : w3.heap.size < w5.heap.size := lt_below hb5 ltg; have hl5_0 := Nat.le_of_lt hz5_0; have hz5_1 : w4.heap.size < w5.heap.size := lt_below hb5 ltg; have hl5_1 := Nat.le_of_lt hz5_1; have hA5 := bnext (w0 := w) bgo hb5; have hs5 := hA5.size; clear hb5))
  refine wp_whole (by kernel_rfl) (by kernel_rfl) fun hne hcell => ?_
  repeat go_big_quiet_step (fail)
  go_big_quiet_step ((go_at_call 26; exact calls_wd _ bk_next (c26 _ (bnext bgo (Wd.h _)))))
  repeat go_big_quiet_step (fail)
  refine wpQuiet_nil fun w6 hb6 => ?_
  have z4 : w4.heap.size < w5.heap.size := by assumption
  have k4_0 : w6.cell? ⟨w4.heap.size, 0, none⟩ = some (.int .i64 3) := by rw [hb6.cell (p := ⟨w4.heap.size, 0, none⟩) (by simp; omega)]; go_simp
  have k4_1 : w6.cell? ⟨w4.heap.size, 1, none⟩ = some (.bool sg) := by rw [hb6.cell (p := ⟨w4.heap.size, 1, none⟩) (by simp; omega)]; go_simp
  have k4_2 : w6.cell? ⟨w4.heap.size, 2, none⟩ = some (.bool false) := by rw [hb6.cell (p := ⟨w4.heap.size, 2, none⟩) (by simp; omega)]; go_simp
  have k4_3 : w6.cell? ⟨w4.heap.size, 3, none⟩ = some (.int .i64 0) := by rw [hb6.cell (p := ⟨w4.heap.size, 3, none⟩) (by simp; omega)]; go_simp
  have k4_4 : w6.cell? ⟨w4.heap.size, 4, none⟩ = some (.int .u64 0) := by rw [hb6.cell (p := ⟨w4.heap.size, 4, none⟩) (by simp; omega)]; go_simp
  have k4_5 : w6.cell? ⟨w4.heap.size, 5, none⟩ = some (.int .u64 0) := by rw [hb6.cell (p := ⟨w4.heap.size, 5, none⟩) (by simp; omega)]; go_simp
  have k4_6 : w6.cell? ⟨w4.heap.size, 6, none⟩ = some (.int .u64 0) := by rw [hb6.cell (p := ⟨w4.heap.size, 6, none⟩) (by simp; omega)]; go_simp
  have k4_7 : w6.cell? ⟨w4.heap.size, 7, none⟩ = some (.int .u64 0) := by rw [hb6.cell (p := ⟨w4.heap.size, 7, none⟩) (by simp; omega)]; go_simp
  have k5_0 : w6.cell? ⟨w5.heap.size + 1, 0, none⟩ = some (.int .u64 0) := by rw [hb6.cell (p := ⟨w5.heap.size + 1, 0, none⟩) (by simp)]; go_simp
  have k5_1 : w6.cell? ⟨w5.heap.size + 1, 1, none⟩ = some (.int .u64 0) := by rw [hb6.cell (p := ⟨w5.heap.size + 1, 1, none⟩) (by simp)]; go_simp
  have k5_2 : w6.cell? ⟨w5.heap.size + 1, 2, none⟩ = some (.int .u64 0) := by rw [hb6.cell (p := ⟨w5.heap.size + 1, 2, none⟩) (by simp)]; go_simp
  have k5_3 : w6.cell? ⟨w5.heap.size + 1, 3, none⟩ = some (.int .u64 0) := by rw [hb6.cell (p := ⟨w5.heap.size + 1, 3, none⟩) (by simp)]; go_simp
  have f5_0 : w6.frozen? ⟨w5.heap.size + 1, 0, none⟩ = false := by rw [hb6.frozen (p := ⟨w5.heap.size + 1, 0, none⟩) (by simp)]; go_simp
  have f5_1 : w6.frozen? ⟨w5.heap.size + 1, 1, none⟩ = false := by rw [hb6.frozen (p := ⟨w5.heap.size + 1, 1, none⟩) (by simp)]; go_simp
  have f5_2 : w6.frozen? ⟨w5.heap.size + 1, 2, none⟩ = false := by rw [hb6.frozen (p := ⟨w5.heap.size + 1, 2, none⟩) (by simp)]; go_simp
  have f5_3 : w6.frozen? ⟨w5.heap.size + 1, 3, none⟩ = false := by rw [hb6.frozen (p := ⟨w5.heap.size + 1, 3, none⟩) (by simp)]; go_simp
  obtain ⟨hc6, hf6⟩ := bcell hb6; have hz6_0 : w3.heap.size < w6.heap.size := lt_below hb6 ltg; have hl6_0 := Nat.le_of_lt hz6_0; have hz6_1 : w4.heap.size < w6.heap.size := lt_below hb6 ltg; have hl6_1 := Nat.le_of_lt hz6_1; have hz6_2 : w5.heap.size < w6.heap.size := lt_below hb6 ltg; have hl6_2 := Nat.le_of_lt hz6_2; have hz6_3 : w5.heap.size + 1 < w6.heap.size := lt_below hb6 ltg; have hl6_3 := Nat.le_of_lt hz6_3; have hA6 := bnext (w0 := w) bgo hb6; have hs6 := hA6.size; clear hb6
  go_wp2
  all_goals (go_ret; exact ⟨rfl, bgo⟩)
set_option maxHeartbeats 4000000 in
theorem nan_n2 (hsn : sn = true) (hL : (f : Int) - 1 < L)
    (c24 : ∀ W, Calls Tryz.prog 24 #[.int .i64 n, QW x0 x1 x2 x3] W fun r w' => r = .returned (.tuple #[DW sg sn 1 0 0 0, .int .i64 0]) ∧ Below W.heap.size W w') :
    Calls Tryz.prog 7 #[.int .i64 n, .int .i64 d, .slice a k c, .bool sn, .bool sg] w fun r w' => r = .returned (.bool true) ∧ Below w.heap.size w w' := by
  have c9 := awake8
  have hsm := cell_set_map
  subst hsn
  have hself := DW_self sg true 1 0 0 0
  have hq := QW_zero
  go_enter Tryz.func7, Tryz.ntmps7
  go_wp2_with (first
    | (go_at_call 9; refine (c9 _ (hT.go bgo) (hT10.next bgo)).mono ?_; rintro x w1 ⟨rfl, hb1⟩; obtain ⟨hc1, hf1⟩ := bcell hb1; have hA1 := bnext (w0 := w) bgo hb1; have hs1 := hA1.size; clear hb1)
    | (go_at_call 22; refine (c22 _).mono ?_; rintro r w1 ⟨rfl, rfl⟩)
    | (go_at_call 15; refine (c15 _).mono ?_; rintro r w1 ⟨rfl, rfl⟩)
    | (go_at_call 20; refine (c20 _ bgo).mono ?_; rintro r w2 ⟨rfl, hb2⟩; obtain ⟨hc2, hf2⟩ := bcell hb2; have hA2 := bnext (w0 := w) bgo hb2; have hs2 := hA2.size; clear hb2)
    | (go_at_call 12; refine (c12 _ bgo).mono ?_; rintro r w3 ⟨rfl, hb3⟩; obtain ⟨hc3, hf3⟩ := bcell hb3; have hA3 := bnext (w0 := w) bgo hb3; have hs3 := hA3.size; clear hb3)
    | (go_at_call 24; refine (c24 _).mono ?_; rintro r w4 ⟨rfl, hb4⟩; obtain ⟨hc4, hf4⟩ := bcell hb4; have hz4_0 : w3.heap.size < w4.heap.size := lt_below hb4 ltg; have hl4_0 := Nat.le_of_lt hz4_0; have hA4 := bnext (w0 := w) bgo hb4; have hs4 := hA4.size; clear hb4)
    | (go_at_call 25; refine (c25 _).mono ?_; rintro r w5 ⟨rfl, hb5⟩; obtain ⟨hc5, hf5⟩ := bcell hb5; have hz5_0 : w3.heap.size < w5.heap.size := lt_below hb5 ltg; have hl5_0 := Nat.le_of_lt hz5_0; have hz5_1 : w4.heap.size < w5.heap.size := lt_below hb5 ltg; have hl5_1 := Nat.le_of_lt hz5_1; have hA5 := bnext (w0 := w) bgo hb5; have hs5 := hA5.size; clear hb5))
  refine wp_whole (by kernel_rfl) (by kernel_rfl) fun hne hcell => ?_
  repeat go_big_quiet_step (fail)
  go_big_quiet_step ((go_at_call 26; exact calls_wd _ bk_next (c26 _ (bnext bgo (Wd.h _)))))
  repeat go_big_quiet_step (fail)
  refine wpQuiet_nil fun w6 hb6 => ?_
  have z4 : w4.heap.size < w5.heap.size := by assumption
  have k4_0 : w6.cell? ⟨w4.heap.size, 0, none⟩ = some (.int .i64 3) := by rw [hb6.cell (p := ⟨w4.heap.size, 0, none⟩) (by simp; omega)]; go_simp
  have k4_1 : w6.cell? ⟨w4.heap.size, 1, none⟩ = some (.bool sg) := by rw [hb6.cell (p := ⟨w4.heap.size, 1, none⟩) (by simp; omega)]; go_simp
  have k4_2 : w6.cell? ⟨w4.heap.size, 2, none⟩ = some (.bool true) := by rw [hb6.cell (p := ⟨w4.heap.size, 2, none⟩) (by simp; omega)]; go_simp
  have k4_3 : w6.cell? ⟨w4.heap.size, 3, none⟩ = some (.int .i64 0) := by rw [hb6.cell (p := ⟨w4.heap.size, 3, none⟩) (by simp; omega)]; go_simp
  have k4_4 : w6.cell? ⟨w4.heap.size, 4, none⟩ = some (.int .u64 1) := by rw [hb6.cell (p := ⟨w4.heap.size, 4, none⟩) (by simp; omega)]; go_simp
  have k4_5 : w6.cell? ⟨w4.heap.size, 5, none⟩ = some (.int .u64 0) := by rw [hb6.cell (p := ⟨w4.heap.size, 5, none⟩) (by simp; omega)]; go_simp
  have k4_6 : w6.cell? ⟨w4.heap.size, 6, none⟩ = some (.int .u64 0) := by rw [hb6.cell (p := ⟨w4.heap.size, 6, none⟩) (by simp; omega)]; go_simp
  have k4_7 : w6.cell? ⟨w4.heap.size, 7, none⟩ = some (.int .u64 0) := by rw [hb6.cell (p := ⟨w4.heap.size, 7, none⟩) (by simp; omega)]; go_simp
  have k5_0 : w6.cell? ⟨w5.heap.size + 1, 0, none⟩ = some (.int .u64 0) := by rw [hb6.cell (p := ⟨w5.heap.size + 1, 0, none⟩) (by simp)]; go_simp
  have k5_1 : w6.cell? ⟨w5.heap.size + 1, 1, none⟩ = some (.int .u64 0) := by rw [hb6.cell (p := ⟨w5.heap.size + 1, 1, none⟩) (by simp)]; go_simp
  have k5_2 : w6.cell? ⟨w5.heap.size + 1, 2, none⟩ = some (.int .u64 0) := by rw [hb6.cell (p := ⟨w5.heap.size + 1, 2, none⟩) (by simp)]; go_simp
  have k5_3 : w6.cell? ⟨w5.heap.size + 1, 3, none⟩ = some (.int .u64 0) := by rw [hb6.cell (p := ⟨w5.heap.size + 1, 3, none⟩) (by simp)]; go_simp
  have f5_0 : w6.frozen? ⟨w5.heap.size + 1, 0, none⟩ = false := by rw [hb6.frozen (p := ⟨w5.heap.size + 1, 0, none⟩) (by simp)]; go_simp
  have f5_1 : w6.frozen? ⟨w5.heap.size + 1, 1, none⟩ = false := by rw [hb6.frozen (p := ⟨w5.heap.size + 1, 1, none⟩) (by simp)]; go_simp
  have f5_2 : w6.frozen? ⟨w5.heap.size + 1, 2, none⟩ = false := by rw [hb6.frozen (p := ⟨w5.heap.size + 1, 2, none⟩) (by simp)]; go_simp
  have f5_3 : w6.frozen? ⟨w5.heap.size + 1, 3, none⟩ = false := by rw [hb6.frozen (p := ⟨w5.heap.size + 1, 3, none⟩) (by simp)]; go_simp
  obtain ⟨hc6, hf6⟩ := bcell hb6; have hz6_0 : w3.heap.size < w6.heap.size := lt_below hb6 ltg; have hl6_0 := Nat.le_of_lt hz6_0; have hz6_1 : w4.heap.size < w6.heap.size := lt_below hb6 ltg; have hl6_1 := Nat.le_of_lt hz6_1; have hz6_2 : w5.heap.size < w6.heap.size := lt_below hb6 ltg; have hl6_2 := Nat.le_of_lt hz6_2; have hz6_3 : w5.heap.size + 1 < w6.heap.size := lt_below hb6 ltg; have hl6_3 := Nat.le_of_lt hz6_3; have hA6 := bnext (w0 := w) bgo hb6; have hs6 := hA6.size; clear hb6
  go_wp2
  all_goals (go_ret; exact ⟨rfl, bgo⟩)
end
end Go.Proofs.YtecoajeejombbaaGreatDoor
