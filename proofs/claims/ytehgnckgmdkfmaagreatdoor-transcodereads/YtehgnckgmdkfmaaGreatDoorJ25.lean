/-
  Texts that the proof leans on.
-/
import Derived.Test.YtehgnckgmdkfmaaGreatDoorJ22
import Derived.Test.YtehgnckgmdkfmaaGreatDoorJ3
set_option linter.unusedVariables false
set_option linter.unusedSectionVars false
set_option linter.unusedSimpArgs false
set_option maxRecDepth 20000
namespace Go.Proofs.YtehgnckgmdkfmaaGreatDoor
open Go.RowKit
section
attribute [local irreducible] W4 Nz Nt NT
section
variable (n d x y : Int) (s : Bool) (vn vd : Value) (w : World)
set_option maxHeartbeats 1000000 in
theorem ddec_e (E : Int) (hE : (E != 0) = true)
    (c17 : ∀ W, Below w.heap.size w W → Calls Tryz.prog 116 #[.int .i64 n, .int .i64 d, vn, vd] W fun r w' => r = .returned (.tuple #[IZ, .int .i64 E]) ∧ Below W.heap.size W w') :
    Calls Tryz.prog 96 #[.int .i64 n, .int .i64 d, .bool s, vn, vd, .int .i64 x, .int .i64 y] w fun r w' => r = .returned (.tuple #[.agg #[.int .i64 0, .bool false, .bool false, .int .i64 0, .int .u64 0, .int .u64 0, .int .u64 0, .int .u64 0], .int .i64 0, .int .i64 E]) ∧ Below w.heap.size w w' := by
  have hsm := cell_set_map
  go_enter Tryz.func96, Tryz.ntmps96
  go_wp2_with (go_at_call 116; refine (c17 _ bgo).mono ?_; rintro r w1 ⟨rfl, hb1⟩; obtain ⟨hc1, hf1⟩ := bcell hb1; have hz1_0 : w.heap.size < w1.heap.size := lt_below hb1 ltg; have hl1_0 := Nat.le_of_lt hz1_0; have hA1 := bnext (w0 := w) bgo hb1; have hs1 := hA1.size; clear hb1)
  exact bodyPost_ret (v := .tuple #[.agg #[.int .i64 0, .bool false, .bool false, .int .i64 0, .int .u64 0, .int .u64 0, .int .u64 0, .int .u64 0], .int .i64 0, .int .i64 E]) (by simp only [results, Tryz.results96]; go_simp) rfl ⟨rfl, bgo⟩
variable (nm : ByteArray) (wd P ex l m pa : Int) (dn : Bool) (N : Nat) (vc vx V0 V1 V2 V3 : Int) (vs vg : Bool)
  (c17 : ∀ W, Below w.heap.size w W → Calls Tryz.prog 116 #[.int .i64 n, .int .i64 d, vn, vd] W fun r w' => r = .returned (.tuple #[IDec n nm wd P ex l m pa dn, .int .i64 0]) ∧ Below W.heap.size W w')
  (c18 : ∀ W, Below w.heap.size w W → Calls Tryz.prog 72 #[vn] W fun r w' => r = .returned (.int .i64 (bl N : Int)) ∧ W = w')
include c17 c18
set_option maxHeartbeats 1000000 in
theorem ddec_z (hN : (((bl N : Nat) : Int) == 0) = true) (t : Int) (ht : min (max y l) m = t)
    (c19 : ∀ W, Calls Tryz.prog 117 #[.bool s, .slice none 0 0, .int .i64 t] W fun r w' => r = .returned (.agg #[.int .i64 vc, .bool vs, .bool vg, .int .i64 vx, .int .u64 V0, .int .u64 V1, .int .u64 V2, .int .u64 V3]) ∧ Below W.heap.size W w') :
    Calls Tryz.prog 96 #[.int .i64 n, .int .i64 d, .bool s, vn, vd, .int .i64 x, .int .i64 y] w fun r w' => r = .returned (.tuple #[.agg #[.int .i64 vc, .bool vs, .bool vg, .int .i64 vx, .int .u64 V0, .int .u64 V1, .int .u64 V2, .int .u64 V3], .int .i64 0, .int .i64 0]) ∧ Below w.heap.size w w' := by
  have hsm := cell_set_map
  go_enter Tryz.func96, Tryz.ntmps96
  go_wp2_with (first
    | (go_at_call 116; refine (c17 _ bgo).mono ?_; rintro r w1 ⟨rfl, hb1⟩; obtain ⟨hc1, hf1⟩ := bcell hb1; have hz1_0 : w.heap.size < w1.heap.size := lt_below hb1 ltg; have hl1_0 := Nat.le_of_lt hz1_0; have hA1 := bnext (w0 := w) bgo hb1; have hs1 := hA1.size; clear hb1)
    | (go_at_call 72; refine (c18 _ bgo).mono ?_; rintro r w2 ⟨rfl, rfl⟩)
    | (go_at_call 117; refine (c19 _).mono ?_; rintro r w3 ⟨rfl, hb3⟩; obtain ⟨hc3, hf3⟩ := bcell hb3; have hz3_0 : w.heap.size < w3.heap.size := lt_below hb3 ltg; have hl3_0 := Nat.le_of_lt hz3_0; have hz3_1 : w1.heap.size < w3.heap.size := lt_below hb3 ltg; have hl3_1 := Nat.le_of_lt hz3_1; have hA3 := bnext (w0 := w) bgo hb3; have hs3 := hA3.size; clear hb3))
  exact bodyPost_ret (v := .tuple #[.agg #[.int .i64 vc, .bool vs, .bool vg, .int .i64 vx, .int .u64 V0, .int .u64 V1, .int .u64 V2, .int .u64 V3], .int .i64 0, .int .i64 0]) (by simp only [results, Tryz.results96]; go_simp) rfl ⟨rfl, bgo⟩
variable (hP : 1 ≤ P ∧ P ≤ 300) (hl : -100000 ≤ l ∧ l ≤ 100000) (hm : -100000 ≤ m ∧ m ≤ 100000) (hN : (((bl N : Nat) : Int) == 0) = false)
  (L X q0 : Int) (hL : -100000 ≤ L ∧ L ≤ 100000) (hX : -300000 ≤ X ∧ X ≤ 300000) (hq : max l (L + X - P + 1) = q0) (hqb : -500000 ≤ q0 ∧ q0 ≤ 500000) (C T : Nat) (cm : Int) (exa : Bool)
  (c20 : ∀ W, Below w.heap.size w W → Calls Tryz.prog 118 #[vn, vd] W fun r w' => r = .returned (.int .i64 L) ∧ Below W.heap.size W w')
  (c21 : ∀ W, Calls Tryz.prog 119 #[IDec n nm wd P ex l m pa dn, .int .i64 L, .int .i64 x] W fun r w' => r = .returned (.int .i64 X) ∧ Below W.heap.size W w')
  (c22 : ∀ W, Below w.heap.size w W → Calls Tryz.prog 120 #[vn, vd, .int .i64 (X - q0)] W fun r w' => ∃ va vb, r = .returned (.tuple #[va, vb]) ∧ Below W.heap.size W w' ∧ (Calls Tryz.prog 121 #[.int .i64 d, .bool s, va, vb] w' fun r w'' => ∃ v, r = .returned (.tuple #[v, .bool exa]) ∧ Nz 2003 C v w'' ∧ Below w'.heap.size w' w''))
  (c25 : ∀ W, Calls Tryz.prog 123 #[.int .i64 P] W fun r w' => ∃ v, r = .returned v ∧ NT 2001 T v w' ∧ Below W.heap.size W w')
  (c24 : ∀ W v u, Nz 2003 C v W → NT 2001 T u W → Calls Tryz.prog 122 #[v, u] W fun r w' => r = .returned (.int .i64 cm) ∧ Below W.heap.size W w')
include hP hl hm hN hL hX hq hqb c20 c21 c22 c25 c24
set_option maxHeartbeats 4000000 in
theorem ddec_no (hcm : (cm == 0) = false) (ho : m < q0)
    (c26 : ∀ W, Calls Tryz.prog 124 #[IDec n nm wd P ex l m pa dn, .int .i64 d, .bool s] W fun r w' => r = .returned (.agg #[.int .i64 vc, .bool vs, .bool vg, .int .i64 vx, .int .u64 V0, .int .u64 V1, .int .u64 V2, .int .u64 V3]) ∧ Below W.heap.size W w') :
    Calls Tryz.prog 96 #[.int .i64 n, .int .i64 d, .bool s, vn, vd, .int .i64 x, .int .i64 y] w fun r w' => r = .returned (.tuple #[.agg #[.int .i64 vc, .bool vs, .bool vg, .int .i64 vx, .int .u64 V0, .int .u64 V1, .int .u64 V2, .int .u64 V3], .int .i64 10, .int .i64 0]) ∧ Below w.heap.size w w' := by
  have hsm := cell_set_map
  go_enter Tryz.func96, Tryz.ntmps96
  go_wp2_with (first
    | (go_at_call 116; refine (c17 _ bgo).mono ?_; rintro r w1 ⟨rfl, hb1⟩; obtain ⟨hc1, hf1⟩ := bcell hb1; have hz1_0 : w.heap.size < w1.heap.size := lt_below hb1 ltg; have hl1_0 := Nat.le_of_lt hz1_0; have hA1 := bnext (w0 := w) bgo hb1; have hs1 := hA1.size; clear hb1)
    | (go_at_call 72; refine (c18 _ bgo).mono ?_; rintro r w2 ⟨rfl, rfl⟩)
    | (go_at_call 118; refine (c20 _ bgo).mono ?_; rintro r w3 ⟨rfl, hb3⟩; obtain ⟨hc3, hf3⟩ := bcell hb3; have hz3_0 : w.heap.size < w3.heap.size := lt_below hb3 ltg; have hl3_0 := Nat.le_of_lt hz3_0; have hz3_1 : w1.heap.size < w3.heap.size := lt_below hb3 ltg; have hl3_1 := Nat.le_of_lt hz3_1; have hA3 := bnext (w0 := w) bgo hb3; have hs3 := hA3.size; clear hb3)
    | (go_at_call 119; refine (c21 _).mono ?_; rintro r w4 ⟨rfl, hb4⟩; obtain ⟨hc4, hf4⟩ := bcell hb4; have hz4_0 : w.heap.size < w4.heap.size := lt_below hb4 ltg; have hl4_0 := Nat.le_of_lt hz4_0; have hz4_1 : w1.heap.size < w4.heap.size := lt_below hb4 ltg; have hl4_1 := Nat.le_of_lt hz4_1; have hA4 := bnext (w0 := w) bgo hb4; have hs4 := hA4.size; clear hb4)
    | (go_at_call 120; refine (c22 _ bgo).mono ?_; rintro r w5 ⟨va, vb, rfl, hb5, c23⟩; obtain ⟨hc5, hf5⟩ := bcell hb5; have hz5_0 : w.heap.size < w5.heap.size := lt_below hb5 ltg; have hl5_0 := Nat.le_of_lt hz5_0; have hz5_1 : w1.heap.size < w5.heap.size := lt_below hb5 ltg; have hl5_1 := Nat.le_of_lt hz5_1; have hA5 := bnext (w0 := w) bgo hb5; have hs5 := hA5.size; clear hb5)
    | (go_at_call 121; refine c23.mono ?_; rintro r w6 ⟨v6, rfl, hv6, hb6⟩; obtain ⟨hc6, hf6⟩ := bcell hb6; have hz6_0 : w.heap.size < w6.heap.size := lt_below hb6 ltg; have hl6_0 := Nat.le_of_lt hz6_0; have hz6_1 : w1.heap.size < w6.heap.size := lt_below hb6 ltg; have hl6_1 := Nat.le_of_lt hz6_1; have hA6 := bnext (w0 := w) bgo hb6; have hs6 := hA6.size; clear hb6)
    | (go_at_call 123; refine (c25 _).mono ?_; rintro r w7 ⟨v7, rfl, hv7, hb7⟩; have hq7 := hv6.next hb7; obtain ⟨hc7, hf7⟩ := bcell hb7; have hz7_0 : w.heap.size < w7.heap.size := lt_below hb7 ltg; have hl7_0 := Nat.le_of_lt hz7_0; have hz7_1 : w1.heap.size < w7.heap.size := lt_below hb7 ltg; have hl7_1 := Nat.le_of_lt hz7_1; have hA7 := bnext (w0 := w) bgo hb7; have hs7 := hA7.size; clear hb7)
    | (go_at_call 122; refine (c24 _ _ _ hq7 hv7).mono ?_; rintro r w8 ⟨rfl, hb8⟩; have hq8 := hq7.next hb8; obtain ⟨hc8, hf8⟩ := bcell hb8; have hz8_0 : w.heap.size < w8.heap.size := lt_below hb8 ltg; have hl8_0 := Nat.le_of_lt hz8_0; have hz8_1 : w1.heap.size < w8.heap.size := lt_below hb8 ltg; have hl8_1 := Nat.le_of_lt hz8_1; have hA8 := bnext (w0 := w) bgo hb8; have hs8 := hA8.size; clear hb8)
    | (go_at_call 124; refine (c26 _).mono ?_; rintro r w10 ⟨rfl, hb10⟩; obtain ⟨hc10, hf10⟩ := bcell hb10; have hz10_0 : w.heap.size < w10.heap.size := lt_below hb10 ltg; have hl10_0 := Nat.le_of_lt hz10_0; have hz10_1 : w1.heap.size < w10.heap.size := lt_below hb10 ltg; have hl10_1 := Nat.le_of_lt hz10_1; have hA10 := bnext (w0 := w) bgo hb10; have hs10 := hA10.size; clear hb10))
  exact bodyPost_ret (v := .tuple #[.agg #[.int .i64 vc, .bool vs, .bool vg, .int .i64 vx, .int .u64 V0, .int .u64 V1, .int .u64 V2, .int .u64 V3], .int .i64 10, .int .i64 0]) (by simp only [results, Tryz.results96]; go_simp) rfl ⟨rfl, bgo⟩
set_option maxHeartbeats 4000000 in
theorem ddec_nx (hcm : (cm == 0) = false) (ho : ¬ m < q0) (hex : exa = true) (R1 : Nat) (R2 t : Int) (ht : min y m = t)
    (c27 : ∀ W v, Nz 2003 C v W → Calls Tryz.prog 125 #[v, .int .i64 (q0), .int .i64 t] W fun r w' => ∃ u, r = .returned (.tuple #[u, .int .i64 R2]) ∧ Nz 2003 R1 u w' ∧ Below W.heap.size W w')
    (c19 : ∀ W v, Nz 2003 R1 v W → Calls Tryz.prog 117 #[.bool s, v, .int .i64 R2] W fun r w' => r = .returned (.agg #[.int .i64 vc, .bool vs, .bool vg, .int .i64 vx, .int .u64 V0, .int .u64 V1, .int .u64 V2, .int .u64 V3]) ∧ Below W.heap.size W w')
    (c28 : ∀ W, Calls Tryz.prog 126 #[.bool true, .bool (decide (L + X < P - 1 + l))] W fun r w' => r = .returned (.int .i64 0) ∧ W = w') :
    Calls Tryz.prog 96 #[.int .i64 n, .int .i64 d, .bool s, vn, vd, .int .i64 x, .int .i64 y] w fun r w' => r = .returned (.tuple #[.agg #[.int .i64 vc, .bool vs, .bool vg, .int .i64 vx, .int .u64 V0, .int .u64 V1, .int .u64 V2, .int .u64 V3], .int .i64 0, .int .i64 0]) ∧ Below w.heap.size w w' := by
  have hsm := cell_set_map
  subst hex
  go_enter Tryz.func96, Tryz.ntmps96
  go_wp2_with (first
    | (go_at_call 116; refine (c17 _ bgo).mono ?_; rintro r w1 ⟨rfl, hb1⟩; obtain ⟨hc1, hf1⟩ := bcell hb1; have hz1_0 : w.heap.size < w1.heap.size := lt_below hb1 ltg; have hl1_0 := Nat.le_of_lt hz1_0; have hA1 := bnext (w0 := w) bgo hb1; have hs1 := hA1.size; clear hb1)
    | (go_at_call 72; refine (c18 _ bgo).mono ?_; rintro r w2 ⟨rfl, rfl⟩)
    | (go_at_call 118; refine (c20 _ bgo).mono ?_; rintro r w3 ⟨rfl, hb3⟩; obtain ⟨hc3, hf3⟩ := bcell hb3; have hz3_0 : w.heap.size < w3.heap.size := lt_below hb3 ltg; have hl3_0 := Nat.le_of_lt hz3_0; have hz3_1 : w1.heap.size < w3.heap.size := lt_below hb3 ltg; have hl3_1 := Nat.le_of_lt hz3_1; have hA3 := bnext (w0 := w) bgo hb3; have hs3 := hA3.size; clear hb3)
    | (go_at_call 119; refine (c21 _).mono ?_; rintro r w4 ⟨rfl, hb4⟩; obtain ⟨hc4, hf4⟩ := bcell hb4; have hz4_0 : w.heap.size < w4.heap.size := lt_below hb4 ltg; have hl4_0 := Nat.le_of_lt hz4_0; have hz4_1 : w1.heap.size < w4.heap.size := lt_below hb4 ltg; have hl4_1 := Nat.le_of_lt hz4_1; have hA4 := bnext (w0 := w) bgo hb4; have hs4 := hA4.size; clear hb4)
    | (go_at_call 120; refine (c22 _ bgo).mono ?_; rintro r w5 ⟨va, vb, rfl, hb5, c23⟩; obtain ⟨hc5, hf5⟩ := bcell hb5; have hz5_0 : w.heap.size < w5.heap.size := lt_below hb5 ltg; have hl5_0 := Nat.le_of_lt hz5_0; have hz5_1 : w1.heap.size < w5.heap.size := lt_below hb5 ltg; have hl5_1 := Nat.le_of_lt hz5_1; have hA5 := bnext (w0 := w) bgo hb5; have hs5 := hA5.size; clear hb5)
    | (go_at_call 121; refine c23.mono ?_; rintro r w6 ⟨v6, rfl, hv6, hb6⟩; obtain ⟨hc6, hf6⟩ := bcell hb6; have hz6_0 : w.heap.size < w6.heap.size := lt_below hb6 ltg; have hl6_0 := Nat.le_of_lt hz6_0; have hz6_1 : w1.heap.size < w6.heap.size := lt_below hb6 ltg; have hl6_1 := Nat.le_of_lt hz6_1; have hA6 := bnext (w0 := w) bgo hb6; have hs6 := hA6.size; clear hb6)
    | (go_at_call 123; refine (c25 _).mono ?_; rintro r w7 ⟨v7, rfl, hv7, hb7⟩; have hq7 := hv6.next hb7; obtain ⟨hc7, hf7⟩ := bcell hb7; have hz7_0 : w.heap.size < w7.heap.size := lt_below hb7 ltg; have hl7_0 := Nat.le_of_lt hz7_0; have hz7_1 : w1.heap.size < w7.heap.size := lt_below hb7 ltg; have hl7_1 := Nat.le_of_lt hz7_1; have hA7 := bnext (w0 := w) bgo hb7; have hs7 := hA7.size; clear hb7)
    | (go_at_call 122; refine (c24 _ _ _ hq7 hv7).mono ?_; rintro r w8 ⟨rfl, hb8⟩; have hq8 := hq7.next hb8; obtain ⟨hc8, hf8⟩ := bcell hb8; have hz8_0 : w.heap.size < w8.heap.size := lt_below hb8 ltg; have hl8_0 := Nat.le_of_lt hz8_0; have hz8_1 : w1.heap.size < w8.heap.size := lt_below hb8 ltg; have hl8_1 := Nat.le_of_lt hz8_1; have hA8 := bnext (w0 := w) bgo hb8; have hs8 := hA8.size; clear hb8)
    | (go_at_call 125; refine (c27 _ _ hq8).mono ?_; rintro r w10 ⟨v10, rfl, hv10, hb10⟩; obtain ⟨hc10, hf10⟩ := bcell hb10; have hz10_0 : w.heap.size < w10.heap.size := lt_below hb10 ltg; have hl10_0 := Nat.le_of_lt hz10_0; have hz10_1 : w1.heap.size < w10.heap.size := lt_below hb10 ltg; have hl10_1 := Nat.le_of_lt hz10_1; have hA10 := bnext (w0 := w) bgo hb10; have hs10 := hA10.size; clear hb10)
    | (go_at_call 117; refine (c19 _ _ hv10).mono ?_; rintro r w11 ⟨rfl, hb11⟩; obtain ⟨hc11, hf11⟩ := bcell hb11; have hz11_0 : w.heap.size < w11.heap.size := lt_below hb11 ltg; have hl11_0 := Nat.le_of_lt hz11_0; have hz11_1 : w1.heap.size < w11.heap.size := lt_below hb11 ltg; have hl11_1 := Nat.le_of_lt hz11_1; have hA11 := bnext (w0 := w) bgo hb11; have hs11 := hA11.size; clear hb11)
    | (go_at_call 126; refine (c28 _).mono ?_; rintro r w12 ⟨rfl, rfl⟩))
  exact bodyPost_ret (v := .tuple #[.agg #[.int .i64 vc, .bool vs, .bool vg, .int .i64 vx, .int .u64 V0, .int .u64 V1, .int .u64 V2, .int .u64 V3], .int .i64 0, .int .i64 0]) (by simp only [results, Tryz.results96]; go_simp) rfl ⟨rfl, bgo⟩
set_option maxHeartbeats 4000000 in
theorem ddec_ni (hcm : (cm == 0) = false) (ho : ¬ m < q0) (hex : exa = false) (fl : Int)
    (c19 : ∀ W v, Nz 2003 C v W → Calls Tryz.prog 117 #[.bool s, v, .int .i64 (q0)] W fun r w' => r = .returned (.agg #[.int .i64 vc, .bool vs, .bool vg, .int .i64 vx, .int .u64 V0, .int .u64 V1, .int .u64 V2, .int .u64 V3]) ∧ Below W.heap.size W w')
    (c28 : ∀ W, Calls Tryz.prog 126 #[.bool false, .bool (decide (L + X < P - 1 + l))] W fun r w' => r = .returned (.int .i64 fl) ∧ W = w') :
    Calls Tryz.prog 96 #[.int .i64 n, .int .i64 d, .bool s, vn, vd, .int .i64 x, .int .i64 y] w fun r w' => r = .returned (.tuple #[.agg #[.int .i64 vc, .bool vs, .bool vg, .int .i64 vx, .int .u64 V0, .int .u64 V1, .int .u64 V2, .int .u64 V3], .int .i64 fl, .int .i64 0]) ∧ Below w.heap.size w w' := by
  have hsm := cell_set_map
  subst hex
  go_enter Tryz.func96, Tryz.ntmps96
  go_wp2_with (first
    | (go_at_call 116; refine (c17 _ bgo).mono ?_; rintro r w1 ⟨rfl, hb1⟩; obtain ⟨hc1, hf1⟩ := bcell hb1; have hz1_0 : w.heap.size < w1.heap.size := lt_below hb1 ltg; have hl1_0 := Nat.le_of_lt hz1_0; have hA1 := bnext (w0 := w) bgo hb1; have hs1 := hA1.size; clear hb1)
    | (go_at_call 72; refine (c18 _ bgo).mono ?_; rintro r w2 ⟨rfl, rfl⟩)
    | (go_at_call 118; refine (c20 _ bgo).mono ?_; rintro r w3 ⟨rfl, hb3⟩; obtain ⟨hc3, hf3⟩ := bcell hb3; have hz3_0 : w.heap.size < w3.heap.size := lt_below hb3 ltg; have hl3_0 := Nat.le_of_lt hz3_0; have hz3_1 : w1.heap.size < w3.heap.size := lt_below hb3 ltg; have hl3_1 := Nat.le_of_lt hz3_1; have hA3 := bnext (w0 := w) bgo hb3; have hs3 := hA3.size; clear hb3)
    | (go_at_call 119; refine (c21 _).mono ?_; rintro r w4 ⟨rfl, hb4⟩; obtain ⟨hc4, hf4⟩ := bcell hb4; have hz4_0 : w.heap.size < w4.heap.size := lt_below hb4 ltg; have hl4_0 := Nat.le_of_lt hz4_0; have hz4_1 : w1.heap.size < w4.heap.size := lt_below hb4 ltg; have hl4_1 := Nat.le_of_lt hz4_1; have hA4 := bnext (w0 := w) bgo hb4; have hs4 := hA4.size; clear hb4)
    | (go_at_call 120; refine (c22 _ bgo).mono ?_; rintro r w5 ⟨va, vb, rfl, hb5, c23⟩; obtain ⟨hc5, hf5⟩ := bcell hb5; have hz5_0 : w.heap.size < w5.heap.size := lt_below hb5 ltg; have hl5_0 := Nat.le_of_lt hz5_0; have hz5_1 : w1.heap.size < w5.heap.size := lt_below hb5 ltg; have hl5_1 := Nat.le_of_lt hz5_1; have hA5 := bnext (w0 := w) bgo hb5; have hs5 := hA5.size; clear hb5)
    | (go_at_call 121; refine c23.mono ?_; rintro r w6 ⟨v6, rfl, hv6, hb6⟩; obtain ⟨hc6, hf6⟩ := bcell hb6; have hz6_0 : w.heap.size < w6.heap.size := lt_below hb6 ltg; have hl6_0 := Nat.le_of_lt hz6_0; have hz6_1 : w1.heap.size < w6.heap.size := lt_below hb6 ltg; have hl6_1 := Nat.le_of_lt hz6_1; have hA6 := bnext (w0 := w) bgo hb6; have hs6 := hA6.size; clear hb6)
    | (go_at_call 123; refine (c25 _).mono ?_; rintro r w7 ⟨v7, rfl, hv7, hb7⟩; have hq7 := hv6.next hb7; obtain ⟨hc7, hf7⟩ := bcell hb7; have hz7_0 : w.heap.size < w7.heap.size := lt_below hb7 ltg; have hl7_0 := Nat.le_of_lt hz7_0; have hz7_1 : w1.heap.size < w7.heap.size := lt_below hb7 ltg; have hl7_1 := Nat.le_of_lt hz7_1; have hA7 := bnext (w0 := w) bgo hb7; have hs7 := hA7.size; clear hb7)
    | (go_at_call 122; refine (c24 _ _ _ hq7 hv7).mono ?_; rintro r w8 ⟨rfl, hb8⟩; have hq8 := hq7.next hb8; obtain ⟨hc8, hf8⟩ := bcell hb8; have hz8_0 : w.heap.size < w8.heap.size := lt_below hb8 ltg; have hl8_0 := Nat.le_of_lt hz8_0; have hz8_1 : w1.heap.size < w8.heap.size := lt_below hb8 ltg; have hl8_1 := Nat.le_of_lt hz8_1; have hA8 := bnext (w0 := w) bgo hb8; have hs8 := hA8.size; clear hb8)
    | (go_at_call 117; refine (c19 _ _ hq8).mono ?_; rintro r w11 ⟨rfl, hb11⟩; obtain ⟨hc11, hf11⟩ := bcell hb11; have hz11_0 : w.heap.size < w11.heap.size := lt_below hb11 ltg; have hl11_0 := Nat.le_of_lt hz11_0; have hz11_1 : w1.heap.size < w11.heap.size := lt_below hb11 ltg; have hl11_1 := Nat.le_of_lt hz11_1; have hA11 := bnext (w0 := w) bgo hb11; have hs11 := hA11.size; clear hb11)
    | (go_at_call 126; refine (c28 _).mono ?_; rintro r w12 ⟨rfl, rfl⟩))
  exact bodyPost_ret (v := .tuple #[.agg #[.int .i64 vc, .bool vs, .bool vg, .int .i64 vx, .int .u64 V0, .int .u64 V1, .int .u64 V2, .int .u64 V3], .int .i64 fl, .int .i64 0]) (by simp only [results, Tryz.results96]; go_simp) rfl ⟨rfl, bgo⟩
set_option maxHeartbeats 4000000 in
theorem ddec_uo (hcm : (cm == 0) = true) (T1 : Nat)
    (c25b : ∀ W, Calls Tryz.prog 123 #[.int .i64 (P - 1)] W fun r w' => ∃ v, r = .returned v ∧ NT 2001 T1 v w' ∧ Below W.heap.size W w') (ho : m < q0 + 1)
    (c26 : ∀ W, Calls Tryz.prog 124 #[IDec n nm wd P ex l m pa dn, .int .i64 d, .bool s] W fun r w' => r = .returned (.agg #[.int .i64 vc, .bool vs, .bool vg, .int .i64 vx, .int .u64 V0, .int .u64 V1, .int .u64 V2, .int .u64 V3]) ∧ Below W.heap.size W w') :
    Calls Tryz.prog 96 #[.int .i64 n, .int .i64 d, .bool s, vn, vd, .int .i64 x, .int .i64 y] w fun r w' => r = .returned (.tuple #[.agg #[.int .i64 vc, .bool vs, .bool vg, .int .i64 vx, .int .u64 V0, .int .u64 V1, .int .u64 V2, .int .u64 V3], .int .i64 10, .int .i64 0]) ∧ Below w.heap.size w w' := by
  have hsm := cell_set_map
  go_enter Tryz.func96, Tryz.ntmps96
  go_wp2_with (first
    | (go_at_call 116; refine (c17 _ bgo).mono ?_; rintro r w1 ⟨rfl, hb1⟩; obtain ⟨hc1, hf1⟩ := bcell hb1; have hz1_0 : w.heap.size < w1.heap.size := lt_below hb1 ltg; have hl1_0 := Nat.le_of_lt hz1_0; have hA1 := bnext (w0 := w) bgo hb1; have hs1 := hA1.size; clear hb1)
    | (go_at_call 72; refine (c18 _ bgo).mono ?_; rintro r w2 ⟨rfl, rfl⟩)
    | (go_at_call 118; refine (c20 _ bgo).mono ?_; rintro r w3 ⟨rfl, hb3⟩; obtain ⟨hc3, hf3⟩ := bcell hb3; have hz3_0 : w.heap.size < w3.heap.size := lt_below hb3 ltg; have hl3_0 := Nat.le_of_lt hz3_0; have hz3_1 : w1.heap.size < w3.heap.size := lt_below hb3 ltg; have hl3_1 := Nat.le_of_lt hz3_1; have hA3 := bnext (w0 := w) bgo hb3; have hs3 := hA3.size; clear hb3)
    | (go_at_call 119; refine (c21 _).mono ?_; rintro r w4 ⟨rfl, hb4⟩; obtain ⟨hc4, hf4⟩ := bcell hb4; have hz4_0 : w.heap.size < w4.heap.size := lt_below hb4 ltg; have hl4_0 := Nat.le_of_lt hz4_0; have hz4_1 : w1.heap.size < w4.heap.size := lt_below hb4 ltg; have hl4_1 := Nat.le_of_lt hz4_1; have hA4 := bnext (w0 := w) bgo hb4; have hs4 := hA4.size; clear hb4)
    | (go_at_call 120; refine (c22 _ bgo).mono ?_; rintro r w5 ⟨va, vb, rfl, hb5, c23⟩; obtain ⟨hc5, hf5⟩ := bcell hb5; have hz5_0 : w.heap.size < w5.heap.size := lt_below hb5 ltg; have hl5_0 := Nat.le_of_lt hz5_0; have hz5_1 : w1.heap.size < w5.heap.size := lt_below hb5 ltg; have hl5_1 := Nat.le_of_lt hz5_1; have hA5 := bnext (w0 := w) bgo hb5; have hs5 := hA5.size; clear hb5)
    | (go_at_call 121; refine c23.mono ?_; rintro r w6 ⟨v6, rfl, hv6, hb6⟩; obtain ⟨hc6, hf6⟩ := bcell hb6; have hz6_0 : w.heap.size < w6.heap.size := lt_below hb6 ltg; have hl6_0 := Nat.le_of_lt hz6_0; have hz6_1 : w1.heap.size < w6.heap.size := lt_below hb6 ltg; have hl6_1 := Nat.le_of_lt hz6_1; have hA6 := bnext (w0 := w) bgo hb6; have hs6 := hA6.size; clear hb6)
    | (have := hq7; go_at_call 123; refine (c25b _).mono ?_; rintro r w9 ⟨v9, rfl, hv9, hb9⟩; obtain ⟨hc9, hf9⟩ := bcell hb9; have hz9_0 : w.heap.size < w9.heap.size := lt_below hb9 ltg; have hl9_0 := Nat.le_of_lt hz9_0; have hz9_1 : w1.heap.size < w9.heap.size := lt_below hb9 ltg; have hl9_1 := Nat.le_of_lt hz9_1; have hA9 := bnext (w0 := w) bgo hb9; have hs9 := hA9.size; clear hb9)
    | (go_at_call 123; refine (c25 _).mono ?_; rintro r w7 ⟨v7, rfl, hv7, hb7⟩; have hq7 := hv6.next hb7; obtain ⟨hc7, hf7⟩ := bcell hb7; have hz7_0 : w.heap.size < w7.heap.size := lt_below hb7 ltg; have hl7_0 := Nat.le_of_lt hz7_0; have hz7_1 : w1.heap.size < w7.heap.size := lt_below hb7 ltg; have hl7_1 := Nat.le_of_lt hz7_1; have hA7 := bnext (w0 := w) bgo hb7; have hs7 := hA7.size; clear hb7)
    | (go_at_call 122; refine (c24 _ _ _ hq7 hv7).mono ?_; rintro r w8 ⟨rfl, hb8⟩; have hq8 := hq7.next hb8; obtain ⟨hc8, hf8⟩ := bcell hb8; have hz8_0 : w.heap.size < w8.heap.size := lt_below hb8 ltg; have hl8_0 := Nat.le_of_lt hz8_0; have hz8_1 : w1.heap.size < w8.heap.size := lt_below hb8 ltg; have hl8_1 := Nat.le_of_lt hz8_1; have hA8 := bnext (w0 := w) bgo hb8; have hs8 := hA8.size; clear hb8)
    | (go_at_call 124; refine (c26 _).mono ?_; rintro r w10 ⟨rfl, hb10⟩; obtain ⟨hc10, hf10⟩ := bcell hb10; have hz10_0 : w.heap.size < w10.heap.size := lt_below hb10 ltg; have hl10_0 := Nat.le_of_lt hz10_0; have hz10_1 : w1.heap.size < w10.heap.size := lt_below hb10 ltg; have hl10_1 := Nat.le_of_lt hz10_1; have hA10 := bnext (w0 := w) bgo hb10; have hs10 := hA10.size; clear hb10))
  exact bodyPost_ret (v := .tuple #[.agg #[.int .i64 vc, .bool vs, .bool vg, .int .i64 vx, .int .u64 V0, .int .u64 V1, .int .u64 V2, .int .u64 V3], .int .i64 10, .int .i64 0]) (by simp only [results, Tryz.results96]; go_simp) rfl ⟨rfl, bgo⟩
set_option maxHeartbeats 4000000 in
theorem ddec_ux (hcm : (cm == 0) = true) (T1 : Nat)
    (c25b : ∀ W, Calls Tryz.prog 123 #[.int .i64 (P - 1)] W fun r w' => ∃ v, r = .returned v ∧ NT 2001 T1 v w' ∧ Below W.heap.size W w') (ho : ¬ m < q0 + 1) (hex : exa = true) (R1 : Nat) (R2 t : Int) (ht : min y m = t)
    (c27 : ∀ W v, Nz 2003 T1 v W → Calls Tryz.prog 125 #[v, .int .i64 (q0 + 1), .int .i64 t] W fun r w' => ∃ u, r = .returned (.tuple #[u, .int .i64 R2]) ∧ Nz 2003 R1 u w' ∧ Below W.heap.size W w')
    (c19 : ∀ W v, Nz 2003 R1 v W → Calls Tryz.prog 117 #[.bool s, v, .int .i64 R2] W fun r w' => r = .returned (.agg #[.int .i64 vc, .bool vs, .bool vg, .int .i64 vx, .int .u64 V0, .int .u64 V1, .int .u64 V2, .int .u64 V3]) ∧ Below W.heap.size W w')
    (c28 : ∀ W, Calls Tryz.prog 126 #[.bool true, .bool (decide (L + X < P - 1 + l))] W fun r w' => r = .returned (.int .i64 0) ∧ W = w') :
    Calls Tryz.prog 96 #[.int .i64 n, .int .i64 d, .bool s, vn, vd, .int .i64 x, .int .i64 y] w fun r w' => r = .returned (.tuple #[.agg #[.int .i64 vc, .bool vs, .bool vg, .int .i64 vx, .int .u64 V0, .int .u64 V1, .int .u64 V2, .int .u64 V3], .int .i64 0, .int .i64 0]) ∧ Below w.heap.size w w' := by
  have hsm := cell_set_map
  subst hex
  go_enter Tryz.func96, Tryz.ntmps96
  go_wp2_with (first
    | (go_at_call 116; refine (c17 _ bgo).mono ?_; rintro r w1 ⟨rfl, hb1⟩; obtain ⟨hc1, hf1⟩ := bcell hb1; have hz1_0 : w.heap.size < w1.heap.size := lt_below hb1 ltg; have hl1_0 := Nat.le_of_lt hz1_0; have hA1 := bnext (w0 := w) bgo hb1; have hs1 := hA1.size; clear hb1)
    | (go_at_call 72; refine (c18 _ bgo).mono ?_; rintro r w2 ⟨rfl, rfl⟩)
    | (go_at_call 118; refine (c20 _ bgo).mono ?_; rintro r w3 ⟨rfl, hb3⟩; obtain ⟨hc3, hf3⟩ := bcell hb3; have hz3_0 : w.heap.size < w3.heap.size := lt_below hb3 ltg; have hl3_0 := Nat.le_of_lt hz3_0; have hz3_1 : w1.heap.size < w3.heap.size := lt_below hb3 ltg; have hl3_1 := Nat.le_of_lt hz3_1; have hA3 := bnext (w0 := w) bgo hb3; have hs3 := hA3.size; clear hb3)
    | (go_at_call 119; refine (c21 _).mono ?_; rintro r w4 ⟨rfl, hb4⟩; obtain ⟨hc4, hf4⟩ := bcell hb4; have hz4_0 : w.heap.size < w4.heap.size := lt_below hb4 ltg; have hl4_0 := Nat.le_of_lt hz4_0; have hz4_1 : w1.heap.size < w4.heap.size := lt_below hb4 ltg; have hl4_1 := Nat.le_of_lt hz4_1; have hA4 := bnext (w0 := w) bgo hb4; have hs4 := hA4.size; clear hb4)
    | (go_at_call 120; refine (c22 _ bgo).mono ?_; rintro r w5 ⟨va, vb, rfl, hb5, c23⟩; obtain ⟨hc5, hf5⟩ := bcell hb5; have hz5_0 : w.heap.size < w5.heap.size := lt_below hb5 ltg; have hl5_0 := Nat.le_of_lt hz5_0; have hz5_1 : w1.heap.size < w5.heap.size := lt_below hb5 ltg; have hl5_1 := Nat.le_of_lt hz5_1; have hA5 := bnext (w0 := w) bgo hb5; have hs5 := hA5.size; clear hb5)
    | (go_at_call 121; refine c23.mono ?_; rintro r w6 ⟨v6, rfl, hv6, hb6⟩; obtain ⟨hc6, hf6⟩ := bcell hb6; have hz6_0 : w.heap.size < w6.heap.size := lt_below hb6 ltg; have hl6_0 := Nat.le_of_lt hz6_0; have hz6_1 : w1.heap.size < w6.heap.size := lt_below hb6 ltg; have hl6_1 := Nat.le_of_lt hz6_1; have hA6 := bnext (w0 := w) bgo hb6; have hs6 := hA6.size; clear hb6)
    | (have := hq7; go_at_call 123; refine (c25b _).mono ?_; rintro r w9 ⟨v9, rfl, hv9, hb9⟩; obtain ⟨hc9, hf9⟩ := bcell hb9; have hz9_0 : w.heap.size < w9.heap.size := lt_below hb9 ltg; have hl9_0 := Nat.le_of_lt hz9_0; have hz9_1 : w1.heap.size < w9.heap.size := lt_below hb9 ltg; have hl9_1 := Nat.le_of_lt hz9_1; have hA9 := bnext (w0 := w) bgo hb9; have hs9 := hA9.size; clear hb9)
    | (go_at_call 123; refine (c25 _).mono ?_; rintro r w7 ⟨v7, rfl, hv7, hb7⟩; have hq7 := hv6.next hb7; obtain ⟨hc7, hf7⟩ := bcell hb7; have hz7_0 : w.heap.size < w7.heap.size := lt_below hb7 ltg; have hl7_0 := Nat.le_of_lt hz7_0; have hz7_1 : w1.heap.size < w7.heap.size := lt_below hb7 ltg; have hl7_1 := Nat.le_of_lt hz7_1; have hA7 := bnext (w0 := w) bgo hb7; have hs7 := hA7.size; clear hb7)
    | (go_at_call 122; refine (c24 _ _ _ hq7 hv7).mono ?_; rintro r w8 ⟨rfl, hb8⟩; have hq8 := hq7.next hb8; obtain ⟨hc8, hf8⟩ := bcell hb8; have hz8_0 : w.heap.size < w8.heap.size := lt_below hb8 ltg; have hl8_0 := Nat.le_of_lt hz8_0; have hz8_1 : w1.heap.size < w8.heap.size := lt_below hb8 ltg; have hl8_1 := Nat.le_of_lt hz8_1; have hA8 := bnext (w0 := w) bgo hb8; have hs8 := hA8.size; clear hb8)
    | (go_at_call 125; refine (c27 _ _ (nz_wide hv9.nz (by decide))).mono ?_; rintro r w10 ⟨v10, rfl, hv10, hb10⟩; obtain ⟨hc10, hf10⟩ := bcell hb10; have hz10_0 : w.heap.size < w10.heap.size := lt_below hb10 ltg; have hl10_0 := Nat.le_of_lt hz10_0; have hz10_1 : w1.heap.size < w10.heap.size := lt_below hb10 ltg; have hl10_1 := Nat.le_of_lt hz10_1; have hA10 := bnext (w0 := w) bgo hb10; have hs10 := hA10.size; clear hb10)
    | (go_at_call 117; refine (c19 _ _ hv10).mono ?_; rintro r w11 ⟨rfl, hb11⟩; obtain ⟨hc11, hf11⟩ := bcell hb11; have hz11_0 : w.heap.size < w11.heap.size := lt_below hb11 ltg; have hl11_0 := Nat.le_of_lt hz11_0; have hz11_1 : w1.heap.size < w11.heap.size := lt_below hb11 ltg; have hl11_1 := Nat.le_of_lt hz11_1; have hA11 := bnext (w0 := w) bgo hb11; have hs11 := hA11.size; clear hb11)
    | (go_at_call 126; refine (c28 _).mono ?_; rintro r w12 ⟨rfl, rfl⟩))
  exact bodyPost_ret (v := .tuple #[.agg #[.int .i64 vc, .bool vs, .bool vg, .int .i64 vx, .int .u64 V0, .int .u64 V1, .int .u64 V2, .int .u64 V3], .int .i64 0, .int .i64 0]) (by simp only [results, Tryz.results96]; go_simp) rfl ⟨rfl, bgo⟩
set_option maxHeartbeats 4000000 in
theorem ddec_ui (hcm : (cm == 0) = true) (T1 : Nat)
    (c25b : ∀ W, Calls Tryz.prog 123 #[.int .i64 (P - 1)] W fun r w' => ∃ v, r = .returned v ∧ NT 2001 T1 v w' ∧ Below W.heap.size W w') (ho : ¬ m < q0 + 1) (hex : exa = false) (fl : Int)
    (c19 : ∀ W v, Nz 2003 T1 v W → Calls Tryz.prog 117 #[.bool s, v, .int .i64 (q0 + 1)] W fun r w' => r = .returned (.agg #[.int .i64 vc, .bool vs, .bool vg, .int .i64 vx, .int .u64 V0, .int .u64 V1, .int .u64 V2, .int .u64 V3]) ∧ Below W.heap.size W w')
    (c28 : ∀ W, Calls Tryz.prog 126 #[.bool false, .bool (decide (L + X < P - 1 + l))] W fun r w' => r = .returned (.int .i64 fl) ∧ W = w') :
    Calls Tryz.prog 96 #[.int .i64 n, .int .i64 d, .bool s, vn, vd, .int .i64 x, .int .i64 y] w fun r w' => r = .returned (.tuple #[.agg #[.int .i64 vc, .bool vs, .bool vg, .int .i64 vx, .int .u64 V0, .int .u64 V1, .int .u64 V2, .int .u64 V3], .int .i64 fl, .int .i64 0]) ∧ Below w.heap.size w w' := by
  have hsm := cell_set_map
  subst hex
  go_enter Tryz.func96, Tryz.ntmps96
  go_wp2_with (first
    | (go_at_call 116; refine (c17 _ bgo).mono ?_; rintro r w1 ⟨rfl, hb1⟩; obtain ⟨hc1, hf1⟩ := bcell hb1; have hz1_0 : w.heap.size < w1.heap.size := lt_below hb1 ltg; have hl1_0 := Nat.le_of_lt hz1_0; have hA1 := bnext (w0 := w) bgo hb1; have hs1 := hA1.size; clear hb1)
    | (go_at_call 72; refine (c18 _ bgo).mono ?_; rintro r w2 ⟨rfl, rfl⟩)
    | (go_at_call 118; refine (c20 _ bgo).mono ?_; rintro r w3 ⟨rfl, hb3⟩; obtain ⟨hc3, hf3⟩ := bcell hb3; have hz3_0 : w.heap.size < w3.heap.size := lt_below hb3 ltg; have hl3_0 := Nat.le_of_lt hz3_0; have hz3_1 : w1.heap.size < w3.heap.size := lt_below hb3 ltg; have hl3_1 := Nat.le_of_lt hz3_1; have hA3 := bnext (w0 := w) bgo hb3; have hs3 := hA3.size; clear hb3)
    | (go_at_call 119; refine (c21 _).mono ?_; rintro r w4 ⟨rfl, hb4⟩; obtain ⟨hc4, hf4⟩ := bcell hb4; have hz4_0 : w.heap.size < w4.heap.size := lt_below hb4 ltg; have hl4_0 := Nat.le_of_lt hz4_0; have hz4_1 : w1.heap.size < w4.heap.size := lt_below hb4 ltg; have hl4_1 := Nat.le_of_lt hz4_1; have hA4 := bnext (w0 := w) bgo hb4; have hs4 := hA4.size; clear hb4)
    | (go_at_call 120; refine (c22 _ bgo).mono ?_; rintro r w5 ⟨va, vb, rfl, hb5, c23⟩; obtain ⟨hc5, hf5⟩ := bcell hb5; have hz5_0 : w.heap.size < w5.heap.size := lt_below hb5 ltg; have hl5_0 := Nat.le_of_lt hz5_0; have hz5_1 : w1.heap.size < w5.heap.size := lt_below hb5 ltg; have hl5_1 := Nat.le_of_lt hz5_1; have hA5 := bnext (w0 := w) bgo hb5; have hs5 := hA5.size; clear hb5)
    | (go_at_call 121; refine c23.mono ?_; rintro r w6 ⟨v6, rfl, hv6, hb6⟩; obtain ⟨hc6, hf6⟩ := bcell hb6; have hz6_0 : w.heap.size < w6.heap.size := lt_below hb6 ltg; have hl6_0 := Nat.le_of_lt hz6_0; have hz6_1 : w1.heap.size < w6.heap.size := lt_below hb6 ltg; have hl6_1 := Nat.le_of_lt hz6_1; have hA6 := bnext (w0 := w) bgo hb6; have hs6 := hA6.size; clear hb6)
    | (have := hq7; go_at_call 123; refine (c25b _).mono ?_; rintro r w9 ⟨v9, rfl, hv9, hb9⟩; obtain ⟨hc9, hf9⟩ := bcell hb9; have hz9_0 : w.heap.size < w9.heap.size := lt_below hb9 ltg; have hl9_0 := Nat.le_of_lt hz9_0; have hz9_1 : w1.heap.size < w9.heap.size := lt_below hb9 ltg; have hl9_1 := Nat.le_of_lt hz9_1; have hA9 := bnext (w0 := w) bgo hb9; have hs9 := hA9.size; clear hb9)
    | (go_at_call 123; refine (c25 _).mono ?_; rintro r w7 ⟨v7, rfl, hv7, hb7⟩; have hq7 := hv6.next hb7; obtain ⟨hc7, hf7⟩ := bcell hb7; have hz7_0 : w.heap.size < w7.heap.size := lt_below hb7 ltg; have hl7_0 := Nat.le_of_lt hz7_0; have hz7_1 : w1.heap.size < w7.heap.size := lt_below hb7 ltg; have hl7_1 := Nat.le_of_lt hz7_1; have hA7 := bnext (w0 := w) bgo hb7; have hs7 := hA7.size; clear hb7)
    | (go_at_call 122; refine (c24 _ _ _ hq7 hv7).mono ?_; rintro r w8 ⟨rfl, hb8⟩; have hq8 := hq7.next hb8; obtain ⟨hc8, hf8⟩ := bcell hb8; have hz8_0 : w.heap.size < w8.heap.size := lt_below hb8 ltg; have hl8_0 := Nat.le_of_lt hz8_0; have hz8_1 : w1.heap.size < w8.heap.size := lt_below hb8 ltg; have hl8_1 := Nat.le_of_lt hz8_1; have hA8 := bnext (w0 := w) bgo hb8; have hs8 := hA8.size; clear hb8)
    | (go_at_call 117; refine (c19 _ _ (nz_wide hv9.nz (by decide))).mono ?_; rintro r w11 ⟨rfl, hb11⟩; obtain ⟨hc11, hf11⟩ := bcell hb11; have hz11_0 : w.heap.size < w11.heap.size := lt_below hb11 ltg; have hl11_0 := Nat.le_of_lt hz11_0; have hz11_1 : w1.heap.size < w11.heap.size := lt_below hb11 ltg; have hl11_1 := Nat.le_of_lt hz11_1; have hA11 := bnext (w0 := w) bgo hb11; have hs11 := hA11.size; clear hb11)
    | (go_at_call 126; refine (c28 _).mono ?_; rintro r w12 ⟨rfl, rfl⟩))
  exact bodyPost_ret (v := .tuple #[.agg #[.int .i64 vc, .bool vs, .bool vg, .int .i64 vx, .int .u64 V0, .int .u64 V1, .int .u64 V2, .int .u64 V3], .int .i64 fl, .int .i64 0]) (by simp only [results, Tryz.results96]; go_simp) rfl ⟨rfl, bgo⟩
end
set_option maxHeartbeats 1000000 in
theorem dkeep_w (n d x : Int) (s : Bool) (vn : Value) (w : World) (vc vx V0 V1 V2 V3 F E : Int) (vs vg : Bool)
    (c8 : ∀ W v, Below w.heap.size w W → Nt 1 1 v W → Calls Tryz.prog 96 #[.int .i64 n, .int .i64 d, .bool s, vn, v, .int .i64 x, .int .i64 x] W fun r w' => r = .returned (.tuple #[.agg #[.int .i64 vc, .bool vs, .bool vg, .int .i64 vx, .int .u64 V0, .int .u64 V1, .int .u64 V2, .int .u64 V3], .int .i64 F, .int .i64 E]) ∧ Below W.heap.size W w') :
    Calls Tryz.prog 70 #[.int .i64 n, .int .i64 d, .bool s, vn, .int .i64 x] w fun r w' => r = .returned (.tuple #[.agg #[.int .i64 vc, .bool vs, .bool vg, .int .i64 vx, .int .u64 V0, .int .u64 V1, .int .u64 V2, .int .u64 V3], .int .i64 F, .int .i64 E]) ∧ Below w.heap.size w w' := by
  have hsm := cell_set_map
  go_enter Tryz.func70, Tryz.ntmps70
  go_wp2_with (go_at_call 96; refine (c8 _ _ bgo (nt_w1 (by simp) rfl (by decide))).mono ?_; rintro r w1 ⟨rfl, hb1⟩; obtain ⟨hc1, hf1⟩ := bcell hb1; have hz1_0 : w.heap.size < w1.heap.size := lt_below hb1 ltg; have hl1_0 := Nat.le_of_lt hz1_0; have hA1 := bnext (w0 := w) bgo hb1; have hs1 := hA1.size; clear hb1)
  exact bodyPost_ret (v := .tuple #[.agg #[.int .i64 vc, .bool vs, .bool vg, .int .i64 vx, .int .u64 V0, .int .u64 V1, .int .u64 V2, .int .u64 V3], .int .i64 F, .int .i64 E]) (by simp only [results, Tryz.results70]; go_simp) rfl ⟨rfl, bgo⟩
end
end Go.Proofs.YtehgnckgmdkfmaaGreatDoor
