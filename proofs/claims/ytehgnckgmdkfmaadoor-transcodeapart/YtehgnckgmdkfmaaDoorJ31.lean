/-
  Texts that the proof leans on.
-/
import Derived.Test.YtehgnckgmdkfmaaDoorJ22
import Derived.Test.YtehgnckgmdkfmaaDoorJ5
set_option linter.unusedVariables false
set_option linter.unusedSectionVars false
set_option linter.unusedSimpArgs false
set_option maxRecDepth 20000
namespace Go.Proofs.YtehgnckgmdkfmaaDoor
open Go.RowKit
section
attribute [local irreducible] W4 NT NV
section
variable (n : Int) (nm : ByteArray) (wd pr ex le mo pa : Int) (G T J : Int) (Bb A Rr sN : Nat) (V : Int) (s : Bool) (wn : Nat) (w : World)
  (hG0 : 11 ≤ G) (hG1 : G ≤ 100) (hT0 : 0 ≤ T) (hT1 : T ≤ 200) (hJ0 : 0 ≤ J) (hJ1 : J ≤ 11) (hAb : (A : Int) ≤ 200000)
  (cF1 : ∀ W, Calls Tryd.prog 35 #[A4 Bb, .int .i64 T, .int .i64 G] W fun r w' => ∃ v, r = .returned v ∧ NT 19 A v w' ∧ Below W.heap.size W w')
  (cF2 : ∀ W, Calls Tryd.prog 35 #[A4 Bb, .int .i64 0, .int .i64 T] W fun r w' => ∃ v, r = .returned v ∧ NT 19 Rr v w' ∧ Below W.heap.size W w')
  (cF3 : ∀ W, Calls Tryd.prog 35 #[A4 Bb, .int .i64 (T + G), .int .i64 1] W fun r w' => ∃ v, r = .returned v ∧ NT 19 sN v w' ∧ Below W.heap.size W w')
  (cM1 : ∀ W v, NT 19 A v W → Calls Tryd.prog 33 #[v] W fun r w' => r = .returned (.int .i64 (A : Int)) ∧ W = w')
  (cM3 : ∀ W v, NT 19 sN v W → Calls Tryd.prog 33 #[v] W fun r w' => r = .returned (.int .i64 (sN : Int)) ∧ W = w')
  (cB2 : ∀ W v, NT 19 Rr v W → Calls Tryd.prog 32 #[v] W fun r w' => r = .returned (A4 Rr) ∧ Below W.heap.size W w')
  (hw : G - 5 = (wn : Int)) (hwn : wn ≤ 12) (hV : (A : Int) / 2 ^ wn = V) (hV0 : 0 ≤ V) (hV1 : V ≤ 31) (hsg : ((sN : Int) == 1) = s)
include hG0 hG1 hT0 hT1 hJ0 hJ1 hAb cF1 cF2 cF3 cM1 cM3 cB2 hw hwn hV hV0 hV1 hsg
set_option maxHeartbeats 4000000 in
theorem vmn_i (dn : Bool)
    (cO : ∀ W, Calls Tryd.prog 24 #[.int .i64 n] W fun r w' => r = .returned (.tuple #[IDec n nm wd pr ex le mo pa dn, .int .i64 0]) ∧ Below W.heap.size W w')
    (cS : ∀ W, Calls Tryd.prog 26 #[IDec n nm wd pr ex le mo pa dn] W fun r w' => r = .returned (.tuple #[.int .i64 G, .int .i64 T, .int .i64 J]) ∧ Below W.heap.size W w')
    (h30 : (V == 30) = true) :
    Calls Tryd.prog 23 #[.int .i64 n, A4 Bb] w fun r w' => r = .returned (.agg #[.int .i64 2, .bool s, .bool false, .int .i64 0, .int .u64 0, .int .u64 0, .int .u64 0, .int .u64 0]) ∧ Below w.heap.size w w' := by
  have hsm := cell_set_map
  unfold DV A4 at *
  go_enter Tryd.func23, Tryd.ntmps23
  go_wp2_with (first
    | (go_at_call 24; refine (cO _).mono ?_; rintro r w1 ⟨rfl, hb1⟩; obtain ⟨hc1, hf1⟩ := bcell hb1; have hz1_0 : w.heap.size < w1.heap.size := lt_below hb1 ltg; have hl1_0 := Nat.le_of_lt hz1_0; have hz1_1 : w.heap.size + 1 < w1.heap.size := lt_below hb1 ltg; have hl1_1 := Nat.le_of_lt hz1_1; have hA1 := bnext (w0 := w) bgo hb1; have hs1 := hA1.size; clear hb1)
    | (go_at_call 26; refine (cS _).mono ?_; rintro r w2 ⟨rfl, hb2⟩; obtain ⟨hc2, hf2⟩ := bcell hb2; have hz2_0 : w.heap.size < w2.heap.size := lt_below hb2 ltg; have hl2_0 := Nat.le_of_lt hz2_0; have hz2_1 : w.heap.size + 1 < w2.heap.size := lt_below hb2 ltg; have hl2_1 := Nat.le_of_lt hz2_1; have hz2_2 : w1.heap.size < w2.heap.size := lt_below hb2 ltg; have hl2_2 := Nat.le_of_lt hz2_2; have hA2 := bnext (w0 := w) bgo hb2; have hs2 := hA2.size; clear hb2)
    | (go_at_call 35; refine (cF1 _).mono ?_; rintro r w3 ⟨vA, rfl, uA, hb3⟩; clear cF1; obtain ⟨hc3, hf3⟩ := bcell hb3; have hz3_0 : w.heap.size < w3.heap.size := lt_below hb3 ltg; have hl3_0 := Nat.le_of_lt hz3_0; have hz3_1 : w.heap.size + 1 < w3.heap.size := lt_below hb3 ltg; have hl3_1 := Nat.le_of_lt hz3_1; have hz3_2 : w1.heap.size < w3.heap.size := lt_below hb3 ltg; have hl3_2 := Nat.le_of_lt hz3_2; have hA3 := bnext (w0 := w) bgo hb3; have hs3 := hA3.size; clear hb3)
    | (go_at_call 33; refine (cM1 _ _ uA).mono ?_; rintro r w0 ⟨rfl, rfl⟩; clear cM1 uA)
    | (go_at_call 35; refine (cF2 _).mono ?_; rintro r w4 ⟨vR, rfl, uR, hb4⟩; clear cF2; obtain ⟨hc4, hf4⟩ := bcell hb4; have hz4_0 : w.heap.size < w4.heap.size := lt_below hb4 ltg; have hl4_0 := Nat.le_of_lt hz4_0; have hz4_1 : w.heap.size + 1 < w4.heap.size := lt_below hb4 ltg; have hl4_1 := Nat.le_of_lt hz4_1; have hz4_2 : w1.heap.size < w4.heap.size := lt_below hb4 ltg; have hl4_2 := Nat.le_of_lt hz4_2; have hA4 := bnext (w0 := w) bgo hb4; have hs4 := hA4.size; clear hb4)
    | (go_at_call 32; refine (cB2 _ _ uR).mono ?_; rintro r w5 ⟨rfl, hb5⟩; clear cB2 uR; obtain ⟨hc5, hf5⟩ := bcell hb5; have hz5_0 : w.heap.size < w5.heap.size := lt_below hb5 ltg; have hl5_0 := Nat.le_of_lt hz5_0; have hz5_1 : w.heap.size + 1 < w5.heap.size := lt_below hb5 ltg; have hl5_1 := Nat.le_of_lt hz5_1; have hz5_2 : w1.heap.size < w5.heap.size := lt_below hb5 ltg; have hl5_2 := Nat.le_of_lt hz5_2; have hA5 := bnext (w0 := w) bgo hb5; have hs5 := hA5.size; clear hb5)
    | (go_at_call 35; refine (cF3 _).mono ?_; rintro r w6 ⟨vS, rfl, uS, hb6⟩; clear cF3; obtain ⟨hc6, hf6⟩ := bcell hb6; have hz6_0 : w.heap.size < w6.heap.size := lt_below hb6 ltg; have hl6_0 := Nat.le_of_lt hz6_0; have hz6_1 : w.heap.size + 1 < w6.heap.size := lt_below hb6 ltg; have hl6_1 := Nat.le_of_lt hz6_1; have hz6_2 : w1.heap.size < w6.heap.size := lt_below hb6 ltg; have hl6_2 := Nat.le_of_lt hz6_2; have hz6_3 : w5.heap.size < w6.heap.size := lt_below hb6 ltg; have hl6_3 := Nat.le_of_lt hz6_3; have hA6 := bnext (w0 := w) bgo hb6; have hs6 := hA6.size; clear hb6)
    | (go_at_call 33; refine (cM3 _ _ uS).mono ?_; rintro r w0 ⟨rfl, rfl⟩; clear cM3 uS))
  exact bodyPost_ret (by simp only [results, Tryd.results23]; go_simp) rfl ⟨rfl, bgo⟩
set_option maxHeartbeats 4000000 in
theorem vmn_nty (wm : Nat) (g : Bool) (U : Nat)
    (cO : ∀ W, Calls Tryd.prog 24 #[.int .i64 n] W fun r w' => r = .returned (.tuple #[IDec n nm wd pr ex le mo pa true, .int .i64 0]) ∧ Below W.heap.size W w')
    (cS : ∀ W, Calls Tryd.prog 26 #[IDec n nm wd pr ex le mo pa true] W fun r w' => r = .returned (.tuple #[.int .i64 G, .int .i64 T, .int .i64 J]) ∧ Below W.heap.size W w')
    (h30 : (V == 30) = false) (h31 : (V == 31) = true) (hw6 : G - 6 = (wm : Int)) (hwm : wm ≤ 12) (hgg : (bits .and .u64 ((A : Int) / 2 ^ wm) 1 == 1) = g)
    (cU : ∀ W, Calls Tryd.prog 53 #[A4 Rr, .int .i64 J] W fun r w' => r = .returned (.tuple #[A4 U, .int .i64 0]) ∧ Below W.heap.size W w')
    (cW : ∀ W, Calls Tryd.prog 54 #[A4 U, .int .i64 10, .int .i64 pa] W fun r w' => r = .returned (.bool true) ∧ Below W.heap.size W w') :
    Calls Tryd.prog 23 #[.int .i64 n, A4 Bb] w fun r w' => r = .returned (DV 3 s g 0 U) ∧ Below w.heap.size w w' := by
  have hsm := cell_set_map
  unfold DV A4 at *
  go_enter Tryd.func23, Tryd.ntmps23
  go_wp2_with (first
    | (go_at_call 24; refine (cO _).mono ?_; rintro r w1 ⟨rfl, hb1⟩; obtain ⟨hc1, hf1⟩ := bcell hb1; have hz1_0 : w.heap.size < w1.heap.size := lt_below hb1 ltg; have hl1_0 := Nat.le_of_lt hz1_0; have hz1_1 : w.heap.size + 1 < w1.heap.size := lt_below hb1 ltg; have hl1_1 := Nat.le_of_lt hz1_1; have hA1 := bnext (w0 := w) bgo hb1; have hs1 := hA1.size; clear hb1)
    | (go_at_call 26; refine (cS _).mono ?_; rintro r w2 ⟨rfl, hb2⟩; obtain ⟨hc2, hf2⟩ := bcell hb2; have hz2_0 : w.heap.size < w2.heap.size := lt_below hb2 ltg; have hl2_0 := Nat.le_of_lt hz2_0; have hz2_1 : w.heap.size + 1 < w2.heap.size := lt_below hb2 ltg; have hl2_1 := Nat.le_of_lt hz2_1; have hz2_2 : w1.heap.size < w2.heap.size := lt_below hb2 ltg; have hl2_2 := Nat.le_of_lt hz2_2; have hA2 := bnext (w0 := w) bgo hb2; have hs2 := hA2.size; clear hb2)
    | (go_at_call 35; refine (cF1 _).mono ?_; rintro r w3 ⟨vA, rfl, uA, hb3⟩; clear cF1; obtain ⟨hc3, hf3⟩ := bcell hb3; have hz3_0 : w.heap.size < w3.heap.size := lt_below hb3 ltg; have hl3_0 := Nat.le_of_lt hz3_0; have hz3_1 : w.heap.size + 1 < w3.heap.size := lt_below hb3 ltg; have hl3_1 := Nat.le_of_lt hz3_1; have hz3_2 : w1.heap.size < w3.heap.size := lt_below hb3 ltg; have hl3_2 := Nat.le_of_lt hz3_2; have hA3 := bnext (w0 := w) bgo hb3; have hs3 := hA3.size; clear hb3)
    | (go_at_call 33; refine (cM1 _ _ uA).mono ?_; rintro r w0 ⟨rfl, rfl⟩; clear cM1 uA)
    | (go_at_call 35; refine (cF2 _).mono ?_; rintro r w4 ⟨vR, rfl, uR, hb4⟩; clear cF2; obtain ⟨hc4, hf4⟩ := bcell hb4; have hz4_0 : w.heap.size < w4.heap.size := lt_below hb4 ltg; have hl4_0 := Nat.le_of_lt hz4_0; have hz4_1 : w.heap.size + 1 < w4.heap.size := lt_below hb4 ltg; have hl4_1 := Nat.le_of_lt hz4_1; have hz4_2 : w1.heap.size < w4.heap.size := lt_below hb4 ltg; have hl4_2 := Nat.le_of_lt hz4_2; have hA4 := bnext (w0 := w) bgo hb4; have hs4 := hA4.size; clear hb4)
    | (go_at_call 32; refine (cB2 _ _ uR).mono ?_; rintro r w5 ⟨rfl, hb5⟩; clear cB2 uR; obtain ⟨hc5, hf5⟩ := bcell hb5; have hz5_0 : w.heap.size < w5.heap.size := lt_below hb5 ltg; have hl5_0 := Nat.le_of_lt hz5_0; have hz5_1 : w.heap.size + 1 < w5.heap.size := lt_below hb5 ltg; have hl5_1 := Nat.le_of_lt hz5_1; have hz5_2 : w1.heap.size < w5.heap.size := lt_below hb5 ltg; have hl5_2 := Nat.le_of_lt hz5_2; have hA5 := bnext (w0 := w) bgo hb5; have hs5 := hA5.size; clear hb5)
    | (go_at_call 35; refine (cF3 _).mono ?_; rintro r w6 ⟨vS, rfl, uS, hb6⟩; clear cF3; obtain ⟨hc6, hf6⟩ := bcell hb6; have hz6_0 : w.heap.size < w6.heap.size := lt_below hb6 ltg; have hl6_0 := Nat.le_of_lt hz6_0; have hz6_1 : w.heap.size + 1 < w6.heap.size := lt_below hb6 ltg; have hl6_1 := Nat.le_of_lt hz6_1; have hz6_2 : w1.heap.size < w6.heap.size := lt_below hb6 ltg; have hl6_2 := Nat.le_of_lt hz6_2; have hz6_3 : w5.heap.size < w6.heap.size := lt_below hb6 ltg; have hl6_3 := Nat.le_of_lt hz6_3; have hA6 := bnext (w0 := w) bgo hb6; have hs6 := hA6.size; clear hb6; have q62_0 : w.heap.size < w6.heap.size + 1 + 1 := (by omega); have q62_1 : w.heap.size + 1 < w6.heap.size + 1 + 1 := (by omega); have q62_2 : w1.heap.size < w6.heap.size + 1 + 1 := (by omega); have q62_3 : w5.heap.size < w6.heap.size + 1 + 1 := (by omega); have q62_4 : w6.heap.size < w6.heap.size + 1 + 1 := (by omega); have q62_5 : w6.heap.size + 1 < w6.heap.size + 1 + 1 := (by omega))
    | (go_at_call 33; refine (cM3 _ _ uS).mono ?_; rintro r w0 ⟨rfl, rfl⟩; clear cM3 uS)
    | (go_at_call 53; refine (cU _).mono ?_; rintro r w7 ⟨rfl, hb7⟩; obtain ⟨hc7, hf7⟩ := bcell hb7; have hz7_0 : w.heap.size < w7.heap.size := lt_below hb7 ltg; have hl7_0 := Nat.le_of_lt hz7_0; have hz7_1 : w.heap.size + 1 < w7.heap.size := lt_below hb7 ltg; have hl7_1 := Nat.le_of_lt hz7_1; have hz7_2 : w1.heap.size < w7.heap.size := lt_below hb7 ltg; have hl7_2 := Nat.le_of_lt hz7_2; have hz7_3 : w5.heap.size < w7.heap.size := lt_below hb7 ltg; have hl7_3 := Nat.le_of_lt hz7_3; have hz7_4 : w6.heap.size < w7.heap.size := lt_below hb7 ltg; have hl7_4 := Nat.le_of_lt hz7_4; have hz7_5 : w6.heap.size + 1 < w7.heap.size := lt_below hb7 ltg; have hl7_5 := Nat.le_of_lt hz7_5; have hA7 := bnext (w0 := w) bgo hb7; have hs7 := hA7.size; clear hb7)
    | (go_at_call 54; refine (cW _).mono ?_; rintro r w8 ⟨rfl, hb8⟩; obtain ⟨hc8, hf8⟩ := bcell hb8; have hz8_0 : w.heap.size < w8.heap.size := lt_below hb8 ltg; have hl8_0 := Nat.le_of_lt hz8_0; have hz8_1 : w.heap.size + 1 < w8.heap.size := lt_below hb8 ltg; have hl8_1 := Nat.le_of_lt hz8_1; have hz8_2 : w1.heap.size < w8.heap.size := lt_below hb8 ltg; have hl8_2 := Nat.le_of_lt hz8_2; have hz8_3 : w5.heap.size < w8.heap.size := lt_below hb8 ltg; have hl8_3 := Nat.le_of_lt hz8_3; have hz8_4 : w6.heap.size < w8.heap.size := lt_below hb8 ltg; have hl8_4 := Nat.le_of_lt hz8_4; have hz8_5 : w6.heap.size + 1 < w8.heap.size := lt_below hb8 ltg; have hl8_5 := Nat.le_of_lt hz8_5; have hA8 := bnext (w0 := w) bgo hb8; have hs8 := hA8.size; clear hb8))
  exact bodyPost_ret (by simp only [results, Tryd.results23]; go_simp) rfl ⟨rfl, bgo⟩
set_option maxHeartbeats 4000000 in
theorem vmn_nfy (wm : Nat) (g : Bool)
    (cO : ∀ W, Calls Tryd.prog 24 #[.int .i64 n] W fun r w' => r = .returned (.tuple #[IDec n nm wd pr ex le mo pa false, .int .i64 0]) ∧ Below W.heap.size W w')
    (cS : ∀ W, Calls Tryd.prog 26 #[IDec n nm wd pr ex le mo pa false] W fun r w' => r = .returned (.tuple #[.int .i64 G, .int .i64 T, .int .i64 J]) ∧ Below W.heap.size W w')
    (h30 : (V == 30) = false) (h31 : (V == 31) = true) (hw6 : G - 6 = (wm : Int)) (hwm : wm ≤ 12) (hgg : (bits .and .u64 ((A : Int) / 2 ^ wm) 1 == 1) = g)
    (cW : ∀ W, Calls Tryd.prog 54 #[A4 Rr, .int .i64 10, .int .i64 pa] W fun r w' => r = .returned (.bool true) ∧ Below W.heap.size W w') :
    Calls Tryd.prog 23 #[.int .i64 n, A4 Bb] w fun r w' => r = .returned (DV 3 s g 0 Rr) ∧ Below w.heap.size w w' := by
  have hsm := cell_set_map
  unfold DV A4 at *
  go_enter Tryd.func23, Tryd.ntmps23
  go_wp2_with (first
    | (go_at_call 24; refine (cO _).mono ?_; rintro r w1 ⟨rfl, hb1⟩; obtain ⟨hc1, hf1⟩ := bcell hb1; have hz1_0 : w.heap.size < w1.heap.size := lt_below hb1 ltg; have hl1_0 := Nat.le_of_lt hz1_0; have hz1_1 : w.heap.size + 1 < w1.heap.size := lt_below hb1 ltg; have hl1_1 := Nat.le_of_lt hz1_1; have hA1 := bnext (w0 := w) bgo hb1; have hs1 := hA1.size; clear hb1)
    | (go_at_call 26; refine (cS _).mono ?_; rintro r w2 ⟨rfl, hb2⟩; obtain ⟨hc2, hf2⟩ := bcell hb2; have hz2_0 : w.heap.size < w2.heap.size := lt_below hb2 ltg; have hl2_0 := Nat.le_of_lt hz2_0; have hz2_1 : w.heap.size + 1 < w2.heap.size := lt_below hb2 ltg; have hl2_1 := Nat.le_of_lt hz2_1; have hz2_2 : w1.heap.size < w2.heap.size := lt_below hb2 ltg; have hl2_2 := Nat.le_of_lt hz2_2; have hA2 := bnext (w0 := w) bgo hb2; have hs2 := hA2.size; clear hb2)
    | (go_at_call 35; refine (cF1 _).mono ?_; rintro r w3 ⟨vA, rfl, uA, hb3⟩; clear cF1; obtain ⟨hc3, hf3⟩ := bcell hb3; have hz3_0 : w.heap.size < w3.heap.size := lt_below hb3 ltg; have hl3_0 := Nat.le_of_lt hz3_0; have hz3_1 : w.heap.size + 1 < w3.heap.size := lt_below hb3 ltg; have hl3_1 := Nat.le_of_lt hz3_1; have hz3_2 : w1.heap.size < w3.heap.size := lt_below hb3 ltg; have hl3_2 := Nat.le_of_lt hz3_2; have hA3 := bnext (w0 := w) bgo hb3; have hs3 := hA3.size; clear hb3)
    | (go_at_call 33; refine (cM1 _ _ uA).mono ?_; rintro r w0 ⟨rfl, rfl⟩; clear cM1 uA)
    | (go_at_call 35; refine (cF2 _).mono ?_; rintro r w4 ⟨vR, rfl, uR, hb4⟩; clear cF2; obtain ⟨hc4, hf4⟩ := bcell hb4; have hz4_0 : w.heap.size < w4.heap.size := lt_below hb4 ltg; have hl4_0 := Nat.le_of_lt hz4_0; have hz4_1 : w.heap.size + 1 < w4.heap.size := lt_below hb4 ltg; have hl4_1 := Nat.le_of_lt hz4_1; have hz4_2 : w1.heap.size < w4.heap.size := lt_below hb4 ltg; have hl4_2 := Nat.le_of_lt hz4_2; have hA4 := bnext (w0 := w) bgo hb4; have hs4 := hA4.size; clear hb4)
    | (go_at_call 32; refine (cB2 _ _ uR).mono ?_; rintro r w5 ⟨rfl, hb5⟩; clear cB2 uR; obtain ⟨hc5, hf5⟩ := bcell hb5; have hz5_0 : w.heap.size < w5.heap.size := lt_below hb5 ltg; have hl5_0 := Nat.le_of_lt hz5_0; have hz5_1 : w.heap.size + 1 < w5.heap.size := lt_below hb5 ltg; have hl5_1 := Nat.le_of_lt hz5_1; have hz5_2 : w1.heap.size < w5.heap.size := lt_below hb5 ltg; have hl5_2 := Nat.le_of_lt hz5_2; have hA5 := bnext (w0 := w) bgo hb5; have hs5 := hA5.size; clear hb5)
    | (go_at_call 35; refine (cF3 _).mono ?_; rintro r w6 ⟨vS, rfl, uS, hb6⟩; clear cF3; obtain ⟨hc6, hf6⟩ := bcell hb6; have hz6_0 : w.heap.size < w6.heap.size := lt_below hb6 ltg; have hl6_0 := Nat.le_of_lt hz6_0; have hz6_1 : w.heap.size + 1 < w6.heap.size := lt_below hb6 ltg; have hl6_1 := Nat.le_of_lt hz6_1; have hz6_2 : w1.heap.size < w6.heap.size := lt_below hb6 ltg; have hl6_2 := Nat.le_of_lt hz6_2; have hz6_3 : w5.heap.size < w6.heap.size := lt_below hb6 ltg; have hl6_3 := Nat.le_of_lt hz6_3; have hA6 := bnext (w0 := w) bgo hb6; have hs6 := hA6.size; clear hb6; have q62_0 : w.heap.size < w6.heap.size + 1 + 1 := (by omega); have q62_1 : w.heap.size + 1 < w6.heap.size + 1 + 1 := (by omega); have q62_2 : w1.heap.size < w6.heap.size + 1 + 1 := (by omega); have q62_3 : w5.heap.size < w6.heap.size + 1 + 1 := (by omega); have q62_4 : w6.heap.size < w6.heap.size + 1 + 1 := (by omega); have q62_5 : w6.heap.size + 1 < w6.heap.size + 1 + 1 := (by omega))
    | (go_at_call 33; refine (cM3 _ _ uS).mono ?_; rintro r w0 ⟨rfl, rfl⟩; clear cM3 uS)
    | (go_at_call 54; refine (cW _).mono ?_; rintro r w8 ⟨rfl, hb8⟩; obtain ⟨hc8, hf8⟩ := bcell hb8; have hz8_0 : w.heap.size < w8.heap.size := lt_below hb8 ltg; have hl8_0 := Nat.le_of_lt hz8_0; have hz8_1 : w.heap.size + 1 < w8.heap.size := lt_below hb8 ltg; have hl8_1 := Nat.le_of_lt hz8_1; have hz8_2 : w1.heap.size < w8.heap.size := lt_below hb8 ltg; have hl8_2 := Nat.le_of_lt hz8_2; have hz8_3 : w5.heap.size < w8.heap.size := lt_below hb8 ltg; have hl8_3 := Nat.le_of_lt hz8_3; have hz8_4 : w6.heap.size < w8.heap.size := lt_below hb8 ltg; have hl8_4 := Nat.le_of_lt hz8_4; have hz8_5 : w6.heap.size + 1 < w8.heap.size := lt_below hb8 ltg; have hl8_5 := Nat.le_of_lt hz8_5; have hA8 := bnext (w0 := w) bgo hb8; have hs8 := hA8.size; clear hb8))
  exact bodyPost_ret (by simp only [results, Tryd.results23]; go_simp) rfl ⟨rfl, bgo⟩
set_option maxHeartbeats 4000000 in
theorem vmn_nfn (wm : Nat) (g : Bool)
    (cO : ∀ W, Calls Tryd.prog 24 #[.int .i64 n] W fun r w' => r = .returned (.tuple #[IDec n nm wd pr ex le mo pa false, .int .i64 0]) ∧ Below W.heap.size W w')
    (cS : ∀ W, Calls Tryd.prog 26 #[IDec n nm wd pr ex le mo pa false] W fun r w' => r = .returned (.tuple #[.int .i64 G, .int .i64 T, .int .i64 J]) ∧ Below W.heap.size W w')
    (h30 : (V == 30) = false) (h31 : (V == 31) = true) (hw6 : G - 6 = (wm : Int)) (hwm : wm ≤ 12) (hgg : (bits .and .u64 ((A : Int) / 2 ^ wm) 1 == 1) = g)
    (cW : ∀ W, Calls Tryd.prog 54 #[A4 Rr, .int .i64 10, .int .i64 pa] W fun r w' => r = .returned (.bool false) ∧ Below W.heap.size W w') :
    Calls Tryd.prog 23 #[.int .i64 n, A4 Bb] w fun r w' => r = .returned (.agg #[.int .i64 3, .bool s, .bool g, .int .i64 0, .int .u64 0, .int .u64 0, .int .u64 0, .int .u64 0]) ∧ Below w.heap.size w w' := by
  have hsm := cell_set_map
  unfold DV A4 at *
  go_enter Tryd.func23, Tryd.ntmps23
  go_wp2_with (first
    | (go_at_call 24; refine (cO _).mono ?_; rintro r w1 ⟨rfl, hb1⟩; obtain ⟨hc1, hf1⟩ := bcell hb1; have hz1_0 : w.heap.size < w1.heap.size := lt_below hb1 ltg; have hl1_0 := Nat.le_of_lt hz1_0; have hz1_1 : w.heap.size + 1 < w1.heap.size := lt_below hb1 ltg; have hl1_1 := Nat.le_of_lt hz1_1; have hA1 := bnext (w0 := w) bgo hb1; have hs1 := hA1.size; clear hb1)
    | (go_at_call 26; refine (cS _).mono ?_; rintro r w2 ⟨rfl, hb2⟩; obtain ⟨hc2, hf2⟩ := bcell hb2; have hz2_0 : w.heap.size < w2.heap.size := lt_below hb2 ltg; have hl2_0 := Nat.le_of_lt hz2_0; have hz2_1 : w.heap.size + 1 < w2.heap.size := lt_below hb2 ltg; have hl2_1 := Nat.le_of_lt hz2_1; have hz2_2 : w1.heap.size < w2.heap.size := lt_below hb2 ltg; have hl2_2 := Nat.le_of_lt hz2_2; have hA2 := bnext (w0 := w) bgo hb2; have hs2 := hA2.size; clear hb2)
    | (go_at_call 35; refine (cF1 _).mono ?_; rintro r w3 ⟨vA, rfl, uA, hb3⟩; clear cF1; obtain ⟨hc3, hf3⟩ := bcell hb3; have hz3_0 : w.heap.size < w3.heap.size := lt_below hb3 ltg; have hl3_0 := Nat.le_of_lt hz3_0; have hz3_1 : w.heap.size + 1 < w3.heap.size := lt_below hb3 ltg; have hl3_1 := Nat.le_of_lt hz3_1; have hz3_2 : w1.heap.size < w3.heap.size := lt_below hb3 ltg; have hl3_2 := Nat.le_of_lt hz3_2; have hA3 := bnext (w0 := w) bgo hb3; have hs3 := hA3.size; clear hb3)
    | (go_at_call 33; refine (cM1 _ _ uA).mono ?_; rintro r w0 ⟨rfl, rfl⟩; clear cM1 uA)
    | (go_at_call 35; refine (cF2 _).mono ?_; rintro r w4 ⟨vR, rfl, uR, hb4⟩; clear cF2; obtain ⟨hc4, hf4⟩ := bcell hb4; have hz4_0 : w.heap.size < w4.heap.size := lt_below hb4 ltg; have hl4_0 := Nat.le_of_lt hz4_0; have hz4_1 : w.heap.size + 1 < w4.heap.size := lt_below hb4 ltg; have hl4_1 := Nat.le_of_lt hz4_1; have hz4_2 : w1.heap.size < w4.heap.size := lt_below hb4 ltg; have hl4_2 := Nat.le_of_lt hz4_2; have hA4 := bnext (w0 := w) bgo hb4; have hs4 := hA4.size; clear hb4)
    | (go_at_call 32; refine (cB2 _ _ uR).mono ?_; rintro r w5 ⟨rfl, hb5⟩; clear cB2 uR; obtain ⟨hc5, hf5⟩ := bcell hb5; have hz5_0 : w.heap.size < w5.heap.size := lt_below hb5 ltg; have hl5_0 := Nat.le_of_lt hz5_0; have hz5_1 : w.heap.size + 1 < w5.heap.size := lt_below hb5 ltg; have hl5_1 := Nat.le_of_lt hz5_1; have hz5_2 : w1.heap.size < w5.heap.size := lt_below hb5 ltg; have hl5_2 := Nat.le_of_lt hz5_2; have hA5 := bnext (w0 := w) bgo hb5; have hs5 := hA5.size; clear hb5)
    | (go_at_call 35; refine (cF3 _).mono ?_; rintro r w6 ⟨vS, rfl, uS, hb6⟩; clear cF3; obtain ⟨hc6, hf6⟩ := bcell hb6; have hz6_0 : w.heap.size < w6.heap.size := lt_below hb6 ltg; have hl6_0 := Nat.le_of_lt hz6_0; have hz6_1 : w.heap.size + 1 < w6.heap.size := lt_below hb6 ltg; have hl6_1 := Nat.le_of_lt hz6_1; have hz6_2 : w1.heap.size < w6.heap.size := lt_below hb6 ltg; have hl6_2 := Nat.le_of_lt hz6_2; have hz6_3 : w5.heap.size < w6.heap.size := lt_below hb6 ltg; have hl6_3 := Nat.le_of_lt hz6_3; have hA6 := bnext (w0 := w) bgo hb6; have hs6 := hA6.size; clear hb6; have q62_0 : w.heap.size < w6.heap.size + 1 + 1 := (by omega); have q62_1 : w.heap.size + 1 < w6.heap.size + 1 + 1 := (by omega); have q62_2 : w1.heap.size < w6.heap.size + 1 + 1 := (by omega); have q62_3 : w5.heap.size < w6.heap.size + 1 + 1 := (by omega); have q62_4 : w6.heap.size < w6.heap.size + 1 + 1 := (by omega); have q62_5 : w6.heap.size + 1 < w6.heap.size + 1 + 1 := (by omega))
    | (go_at_call 33; refine (cM3 _ _ uS).mono ?_; rintro r w0 ⟨rfl, rfl⟩; clear cM3 uS)
    | (go_at_call 54; refine (cW _).mono ?_; rintro r w8 ⟨rfl, hb8⟩; obtain ⟨hc8, hf8⟩ := bcell hb8; have hz8_0 : w.heap.size < w8.heap.size := lt_below hb8 ltg; have hl8_0 := Nat.le_of_lt hz8_0; have hz8_1 : w.heap.size + 1 < w8.heap.size := lt_below hb8 ltg; have hl8_1 := Nat.le_of_lt hz8_1; have hz8_2 : w1.heap.size < w8.heap.size := lt_below hb8 ltg; have hl8_2 := Nat.le_of_lt hz8_2; have hz8_3 : w5.heap.size < w8.heap.size := lt_below hb8 ltg; have hl8_3 := Nat.le_of_lt hz8_3; have hz8_4 : w6.heap.size < w8.heap.size := lt_below hb8 ltg; have hl8_4 := Nat.le_of_lt hz8_4; have hz8_5 : w6.heap.size + 1 < w8.heap.size := lt_below hb8 ltg; have hl8_5 := Nat.le_of_lt hz8_5; have hA8 := bnext (w0 := w) bgo hb8; have hs8 := hA8.size; clear hb8))
  exact bodyPost_ret (by simp only [results, Tryd.results23]; go_simp) rfl ⟨rfl, bgo⟩
end
end
end Go.Proofs.YtehgnckgmdkfmaaDoor
