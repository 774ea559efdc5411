/-
  Texts that the proof leans on, joined: Vh, Ot, Ou, Vk.
-/
import Derived.Test.YtmommdhnogogdaaGreatDoorJ38
import Derived.Test.YtmommdhnogogdaaGreatDoorJ1
import Derived.Test.YtmommdhnogogdaaGreatDoorJ34
import Derived.Test.YtmommdhnogogdaaGreatDoorJ31
import Derived.Test.YtmommdhnogogdaaGreatDoorJ9
import Derived.Test.YtmommdhnogogdaaGreatDoorJ19
set_option linter.unusedVariables false
set_option linter.unusedSectionVars false
set_option linter.unusedSimpArgs false
set_option maxRecDepth 20000
namespace Go.Proofs.YtmommdhnogogdaaGreatDoor
open Go.RowKit
attribute [local irreducible] W4 NT NV
section
variable (n : Int) (nm : ByteArray) (wd pr ex le mo pa : Int) (G T J : Int) (Bb A Rr sN : Nat) (V : Int) (s : Bool) (wn : Nat) (w : World)
  (hG0 : 11 ≤ G) (hG1 : G ≤ 100) (hT0 : 0 ≤ T) (hT1 : T ≤ 200) (hJ0 : 0 ≤ J) (hJ1 : J ≤ 11) (hAb : (A : Int) ≤ 200000)
  (cF1 : ∀ W, Calls Tryz.prog 53 #[A4 Bb, .int .i64 T, .int .i64 G] W fun r w' => ∃ v, r = .returned v ∧ NT 19 A v w' ∧ Below W.heap.size W w')
  (cF2 : ∀ W, Calls Tryz.prog 53 #[A4 Bb, .int .i64 0, .int .i64 T] W fun r w' => ∃ v, r = .returned v ∧ NT 19 Rr v w' ∧ Below W.heap.size W w')
  (cF3 : ∀ W, Calls Tryz.prog 53 #[A4 Bb, .int .i64 (T + G), .int .i64 1] W fun r w' => ∃ v, r = .returned v ∧ NT 19 sN v w' ∧ Below W.heap.size W w')
  (cM1 : ∀ W v, NT 19 A v W → Calls Tryz.prog 52 #[v] W fun r w' => r = .returned (.int .i64 (A : Int)) ∧ W = w')
  (cM3 : ∀ W v, NT 19 sN v W → Calls Tryz.prog 52 #[v] W fun r w' => r = .returned (.int .i64 (sN : Int)) ∧ W = w')
  (cB2 : ∀ W v, NT 19 Rr v W → Calls Tryz.prog 18 #[v] W fun r w' => r = .returned (A4 Rr) ∧ Below W.heap.size W w')
  (hw : G - 5 = (wn : Int)) (hwn : wn ≤ 12) (hV : (A : Int) / 2 ^ wn = V) (hV0 : 0 ≤ V) (hV1 : V ≤ 31) (hsg : ((sN : Int) == 1) = s)
include hG0 hG1 hT0 hT1 hJ0 hJ1 hAb cF1 cF2 cF3 cM1 cM3 cB2 hw hwn hV hV0 hV1 hsg
set_option maxHeartbeats 4000000 in
theorem vmn_i (dn : Bool)
    (cO : ∀ W, Calls Tryz.prog 10 #[.int .i64 n] W fun r w' => r = .returned (.tuple #[IDec n nm wd pr ex le mo pa dn, .int .i64 0]) ∧ Below W.heap.size W w')
    (cS : ∀ W, Calls Tryz.prog 51 #[IDec n nm wd pr ex le mo pa dn] W fun r w' => r = .returned (.tuple #[.int .i64 G, .int .i64 T, .int .i64 J]) ∧ Below W.heap.size W w')
    (h30 : (V == 30) = true) :
    Calls Tryz.prog 21 #[.int .i64 n, A4 Bb] w fun r w' => r = .returned (.agg #[.int .i64 2, .bool s, .bool false, .int .i64 0, .int .u64 0, .int .u64 0, .int .u64 0, .int .u64 0]) ∧ Below w.heap.size w w' := by
  have hsm := cell_set_map
  unfold DV A4 at *
  go_enter Tryz.func21, Tryz.ntmps21
  go_wp2_with (first
    | (go_at_call 10; refine (cO _).mono ?_; rintro r w1 ⟨rfl, hb1⟩; obtain ⟨hc1, hf1⟩ := bcell hb1; have hz1_0 : w.heap.size < w1.heap.size := lt_below hb1 ltg; have hl1_0 := Nat.le_of_lt hz1_0; have hz1_1 : w.heap.size + 1 < w1.heap.size := lt_below hb1 ltg; have hl1_1 := Nat.le_of_lt hz1_1; have hA1 := bnext (w0 := w) bgo hb1; have hs1 := hA1.size; clear hb1)
    | (go_at_call 51; refine (cS _).mono ?_; rintro r w2 ⟨rfl, hb2⟩; obtain ⟨hc2, hf2⟩ := bcell hb2; have hz2_0 : w.heap.size < w2.heap.size := lt_below hb2 ltg; have hl2_0 := Nat.le_of_lt hz2_0; have hz2_1 : w.heap.size + 1 < w2.heap.size := lt_below hb2 ltg; have hl2_1 := Nat.le_of_lt hz2_1; have hz2_2 : w1.heap.size < w2.heap.size := lt_below hb2 ltg; have hl2_2 := Nat.le_of_lt hz2_2; have hA2 := bnext (w0 := w) bgo hb2; have hs2 := hA2.size; clear hb2)
    | (go_at_call 53; refine (cF1 _).mono ?_; rintro r w3 ⟨vA, rfl, uA, hb3⟩; clear cF1; obtain ⟨hc3, hf3⟩ := bcell hb3; have hz3_0 : w.heap.size < w3.heap.size := lt_below hb3 ltg; have hl3_0 := Nat.le_of_lt hz3_0; have hz3_1 : w.heap.size + 1 < w3.heap.size := lt_below hb3 ltg; have hl3_1 := Nat.le_of_lt hz3_1; have hz3_2 : w1.heap.size < w3.heap.size := lt_below hb3 ltg; have hl3_2 := Nat.le_of_lt hz3_2; have hA3 := bnext (w0 := w) bgo hb3; have hs3 := hA3.size; clear hb3)
    | (go_at_call 52; refine (cM1 _ _ uA).mono ?_; rintro r w0 ⟨rfl, rfl⟩; clear cM1 uA)
    | (go_at_call 53; refine (cF2 _).mono ?_; rintro r w4 ⟨vR, rfl, uR, hb4⟩; clear cF2; obtain ⟨hc4, hf4⟩ := bcell hb4; have hz4_0 : w.heap.size < w4.heap.size := lt_below hb4 ltg; have hl4_0 := Nat.le_of_lt hz4_0; have hz4_1 : w.heap.size + 1 < w4.heap.size := lt_below hb4 ltg; have hl4_1 := Nat.le_of_lt hz4_1; have hz4_2 : w1.heap.size < w4.heap.size := lt_below hb4 ltg; have hl4_2 := Nat.le_of_lt hz4_2; have hA4 := bnext (w0 := w) bgo hb4; have hs4 := hA4.size; clear hb4)
    | (go_at_call 18; refine (cB2 _ _ uR).mono ?_; rintro r w5 ⟨rfl, hb5⟩; clear cB2 uR; obtain ⟨hc5, hf5⟩ := bcell hb5; have hz5_0 : w.heap.size < w5.heap.size := lt_below hb5 ltg; have hl5_0 := Nat.le_of_lt hz5_0; have hz5_1 : w.heap.size + 1 < w5.heap.size := lt_below hb5 ltg; have hl5_1 := Nat.le_of_lt hz5_1; have hz5_2 : w1.heap.size < w5.heap.size := lt_below hb5 ltg; have hl5_2 := Nat.le_of_lt hz5_2; have hA5 := bnext (w0 := w) bgo hb5; have hs5 := hA5.size; clear hb5)
    | (go_at_call 53; refine (cF3 _).mono ?_; rintro r w6 ⟨vS, rfl, uS, hb6⟩; clear cF3; obtain ⟨hc6, hf6⟩ := bcell hb6; have hz6_0 : w.heap.size < w6.heap.size := lt_below hb6 ltg; have hl6_0 := Nat.le_of_lt hz6_0; have hz6_1 : w.heap.size + 1 < w6.heap.size := lt_below hb6 ltg; have hl6_1 := Nat.le_of_lt hz6_1; have hz6_2 : w1.heap.size < w6.heap.size := lt_below hb6 ltg; have hl6_2 := Nat.le_of_lt hz6_2; have hz6_3 : w5.heap.size < w6.heap.size := lt_below hb6 ltg; have hl6_3 := Nat.le_of_lt hz6_3; have hA6 := bnext (w0 := w) bgo hb6; have hs6 := hA6.size; clear hb6)
    | (go_at_call 52; refine (cM3 _ _ uS).mono ?_; rintro r w0 ⟨rfl, rfl⟩; clear cM3 uS))
  exact bodyPost_ret (by simp only [results, Tryz.results21]; go_simp) rfl ⟨rfl, bgo⟩
set_option maxHeartbeats 4000000 in
theorem vmn_nty (wm : Nat) (g : Bool) (U : Nat)
    (cO : ∀ W, Calls Tryz.prog 10 #[.int .i64 n] W fun r w' => r = .returned (.tuple #[IDec n nm wd pr ex le mo pa true, .int .i64 0]) ∧ Below W.heap.size W w')
    (cS : ∀ W, Calls Tryz.prog 51 #[IDec n nm wd pr ex le mo pa true] W fun r w' => r = .returned (.tuple #[.int .i64 G, .int .i64 T, .int .i64 J]) ∧ Below W.heap.size W w')
    (h30 : (V == 30) = false) (h31 : (V == 31) = true) (hw6 : G - 6 = (wm : Int)) (hwm : wm ≤ 12) (hgg : (bits .and .u64 ((A : Int) / 2 ^ wm) 1 == 1) = g)
    (cU : ∀ W, Calls Tryz.prog 54 #[A4 Rr, .int .i64 J] W fun r w' => r = .returned (.tuple #[A4 U, .int .i64 0]) ∧ Below W.heap.size W w')
    (cW : ∀ W, Calls Tryz.prog 17 #[A4 U, .int .i64 10, .int .i64 pa] W fun r w' => r = .returned (.bool true) ∧ Below W.heap.size W w') :
    Calls Tryz.prog 21 #[.int .i64 n, A4 Bb] w fun r w' => r = .returned (DV 3 s g 0 U) ∧ Below w.heap.size w w' := by
  have hsm := cell_set_map
  unfold DV A4 at *
  go_enter Tryz.func21, Tryz.ntmps21
  go_wp2_with (first
    | (go_at_call 10; refine (cO _).mono ?_; rintro r w1 ⟨rfl, hb1⟩; obtain ⟨hc1, hf1⟩ := bcell hb1; have hz1_0 : w.heap.size < w1.heap.size := lt_below hb1 ltg; have hl1_0 := Nat.le_of_lt hz1_0; have hz1_1 : w.heap.size + 1 < w1.heap.size := lt_below hb1 ltg; have hl1_1 := Nat.le_of_lt hz1_1; have hA1 := bnext (w0 := w) bgo hb1; have hs1 := hA1.size; clear hb1)
    | (go_at_call 51; refine (cS _).mono ?_; rintro r w2 ⟨rfl, hb2⟩; obtain ⟨hc2, hf2⟩ := bcell hb2; have hz2_0 : w.heap.size < w2.heap.size := lt_below hb2 ltg; have hl2_0 := Nat.le_of_lt hz2_0; have hz2_1 : w.heap.size + 1 < w2.heap.size := lt_below hb2 ltg; have hl2_1 := Nat.le_of_lt hz2_1; have hz2_2 : w1.heap.size < w2.heap.size := lt_below hb2 ltg; have hl2_2 := Nat.le_of_lt hz2_2; have hA2 := bnext (w0 := w) bgo hb2; have hs2 := hA2.size; clear hb2)
    | (go_at_call 53; refine (cF1 _).mono ?_; rintro r w3 ⟨vA, rfl, uA, hb3⟩; clear cF1; obtain ⟨hc3, hf3⟩ := bcell hb3; have hz3_0 : w.heap.size < w3.heap.size := lt_below hb3 ltg; have hl3_0 := Nat.le_of_lt hz3_0; have hz3_1 : w.heap.size + 1 < w3.heap.size := lt_below hb3 ltg; have hl3_1 := Nat.le_of_lt hz3_1; have hz3_2 : w1.heap.size < w3.heap.size := lt_below hb3 ltg; have hl3_2 := Nat.le_of_lt hz3_2; have hA3 := bnext (w0 := w) bgo hb3; have hs3 := hA3.size; clear hb3)
    | (go_at_call 52; refine (cM1 _ _ uA).mono ?_; rintro r w0 ⟨rfl, rfl⟩; clear cM1 uA)
    | (go_at_call 53; refine (cF2 _).mono ?_; rintro r w4 ⟨vR, rfl, uR, hb4⟩; clear cF2; obtain ⟨hc4, hf4⟩ := bcell hb4; have hz4_0 : w.heap.size < w4.heap.size := lt_below hb4 ltg; have hl4_0 := Nat.le_of_lt hz4_0; have hz4_1 : w.heap.size + 1 < w4.heap.size := lt_below hb4 ltg; have hl4_1 := Nat.le_of_lt hz4_1; have hz4_2 : w1.heap.size < w4.heap.size := lt_below hb4 ltg; have hl4_2 := Nat.le_of_lt hz4_2; have hA4 := bnext (w0 := w) bgo hb4; have hs4 := hA4.size; clear hb4)
    | (go_at_call 18; refine (cB2 _ _ uR).mono ?_; rintro r w5 ⟨rfl, hb5⟩; clear cB2 uR; obtain ⟨hc5, hf5⟩ := bcell hb5; have hz5_0 : w.heap.size < w5.heap.size := lt_below hb5 ltg; have hl5_0 := Nat.le_of_lt hz5_0; have hz5_1 : w.heap.size + 1 < w5.heap.size := lt_below hb5 ltg; have hl5_1 := Nat.le_of_lt hz5_1; have hz5_2 : w1.heap.size < w5.heap.size := lt_below hb5 ltg; have hl5_2 := Nat.le_of_lt hz5_2; have hA5 := bnext (w0 := w) bgo hb5; have hs5 := hA5.size; clear hb5)
    | (go_at_call 53; refine (cF3 _).mono ?_; rintro r w6 ⟨vS, rfl, uS, hb6⟩; clear cF3; obtain ⟨hc6, hf6⟩ := bcell hb6; have hz6_0 : w.heap.size < w6.heap.size := lt_below hb6 ltg; have hl6_0 := Nat.le_of_lt hz6_0; have hz6_1 : w.heap.size + 1 < w6.heap.size := lt_below hb6 ltg; have hl6_1 := Nat.le_of_lt hz6_1; have hz6_2 : w1.heap.size < w6.heap.size := lt_below hb6 ltg; have hl6_2 := Nat.le_of_lt hz6_2; have hz6_3 : w5.heap.size < w6.heap.size := lt_below hb6 ltg; have hl6_3 := Nat.le_of_lt hz6_3; have hA6 := bnext (w0 := w) bgo hb6; have hs6 := hA6.size; clear hb6; have q62_0 : w.heap.size < w6.heap.size + 1 + 1 := (by omega); have q62_1 : w.heap.size + 1 < w6.heap.size + 1 + 1 := (by omega); have q62_2 : w1.heap.size < w6.heap.size + 1 + 1 := (by omega); have q62_3 : w5.heap.size < w6.heap.size + 1 + 1 := (by omega); have q62_4 : w6.heap.size < w6.heap.size + 1 + 1 := (by omega); have q62_5 : w6.heap.size + 1 < w6.heap.size + 1 + 1 := (by omega))
    | (go_at_call 52; refine (cM3 _ _ uS).mono ?_; rintro r w0 ⟨rfl, rfl⟩; clear cM3 uS)
    | (go_at_call 54; refine (cU _).mono ?_; rintro r w7 ⟨rfl, hb7⟩; obtain ⟨hc7, hf7⟩ := bcell hb7; have hz7_0 : w.heap.size < w7.heap.size := lt_below hb7 ltg; have hl7_0 := Nat.le_of_lt hz7_0; have hz7_1 : w.heap.size + 1 < w7.heap.size := lt_below hb7 ltg; have hl7_1 := Nat.le_of_lt hz7_1; have hz7_2 : w1.heap.size < w7.heap.size := lt_below hb7 ltg; have hl7_2 := Nat.le_of_lt hz7_2; have hz7_3 : w5.heap.size < w7.heap.size := lt_below hb7 ltg; have hl7_3 := Nat.le_of_lt hz7_3; have hz7_4 : w6.heap.size < w7.heap.size := lt_below hb7 ltg; have hl7_4 := Nat.le_of_lt hz7_4; have hz7_5 : w6.heap.size + 1 < w7.heap.size := lt_below hb7 ltg; have hl7_5 := Nat.le_of_lt hz7_5; have hA7 := bnext (w0 := w) bgo hb7; have hs7 := hA7.size; clear hb7)
    | (go_at_call 17; refine (cW _).mono ?_; rintro r w8 ⟨rfl, hb8⟩; obtain ⟨hc8, hf8⟩ := bcell hb8; have hz8_0 : w.heap.size < w8.heap.size := lt_below hb8 ltg; have hl8_0 := Nat.le_of_lt hz8_0; have hz8_1 : w.heap.size + 1 < w8.heap.size := lt_below hb8 ltg; have hl8_1 := Nat.le_of_lt hz8_1; have hz8_2 : w1.heap.size < w8.heap.size := lt_below hb8 ltg; have hl8_2 := Nat.le_of_lt hz8_2; have hz8_3 : w5.heap.size < w8.heap.size := lt_below hb8 ltg; have hl8_3 := Nat.le_of_lt hz8_3; have hz8_4 : w6.heap.size < w8.heap.size := lt_below hb8 ltg; have hl8_4 := Nat.le_of_lt hz8_4; have hz8_5 : w6.heap.size + 1 < w8.heap.size := lt_below hb8 ltg; have hl8_5 := Nat.le_of_lt hz8_5; have hA8 := bnext (w0 := w) bgo hb8; have hs8 := hA8.size; clear hb8))
  exact bodyPost_ret (by simp only [results, Tryz.results21]; go_simp) rfl ⟨rfl, bgo⟩
set_option maxHeartbeats 4000000 in
theorem vmn_nfy (wm : Nat) (g : Bool)
    (cO : ∀ W, Calls Tryz.prog 10 #[.int .i64 n] W fun r w' => r = .returned (.tuple #[IDec n nm wd pr ex le mo pa false, .int .i64 0]) ∧ Below W.heap.size W w')
    (cS : ∀ W, Calls Tryz.prog 51 #[IDec n nm wd pr ex le mo pa false] W fun r w' => r = .returned (.tuple #[.int .i64 G, .int .i64 T, .int .i64 J]) ∧ Below W.heap.size W w')
    (h30 : (V == 30) = false) (h31 : (V == 31) = true) (hw6 : G - 6 = (wm : Int)) (hwm : wm ≤ 12) (hgg : (bits .and .u64 ((A : Int) / 2 ^ wm) 1 == 1) = g)
    (cW : ∀ W, Calls Tryz.prog 17 #[A4 Rr, .int .i64 10, .int .i64 pa] W fun r w' => r = .returned (.bool true) ∧ Below W.heap.size W w') :
    Calls Tryz.prog 21 #[.int .i64 n, A4 Bb] w fun r w' => r = .returned (DV 3 s g 0 Rr) ∧ Below w.heap.size w w' := by
  have hsm := cell_set_map
  unfold DV A4 at *
  go_enter Tryz.func21, Tryz.ntmps21
  go_wp2_with (first
    | (go_at_call 10; refine (cO _).mono ?_; rintro r w1 ⟨rfl, hb1⟩; obtain ⟨hc1, hf1⟩ := bcell hb1; have hz1_0 : w.heap.size < w1.heap.size := lt_below hb1 ltg; have hl1_0 := Nat.le_of_lt hz1_0; have hz1_1 : w.heap.size + 1 < w1.heap.size := lt_below hb1 ltg; have hl1_1 := Nat.le_of_lt hz1_1; have hA1 := bnext (w0 := w) bgo hb1; have hs1 := hA1.size; clear hb1)
    | (go_at_call 51; refine (cS _).mono ?_; rintro r w2 ⟨rfl, hb2⟩; obtain ⟨hc2, hf2⟩ := bcell hb2; have hz2_0 : w.heap.size < w2.heap.size := lt_below hb2 ltg; have hl2_0 := Nat.le_of_lt hz2_0; have hz2_1 : w.heap.size + 1 < w2.heap.size := lt_below hb2 ltg; have hl2_1 := Nat.le_of_lt hz2_1; have hz2_2 : w1.heap.size < w2.heap.size := lt_below hb2 ltg; have hl2_2 := Nat.le_of_lt hz2_2; have hA2 := bnext (w0 := w) bgo hb2; have hs2 := hA2.size; clear hb2)
    | (go_at_call 53; refine (cF1 _).mono ?_; rintro r w3 ⟨vA, rfl, uA, hb3⟩; clear cF1; obtain ⟨hc3, hf3⟩ := bcell hb3; have hz3_0 : w.heap.size < w3.heap.size := lt_below hb3 ltg; have hl3_0 := Nat.le_of_lt hz3_0; have hz3_1 : w.heap.size + 1 < w3.heap.size := lt_below hb3 ltg; have hl3_1 := Nat.le_of_lt hz3_1; have hz3_2 : w1.heap.size < w3.heap.size := lt_below hb3 ltg; have hl3_2 := Nat.le_of_lt hz3_2; have hA3 := bnext (w0 := w) bgo hb3; have hs3 := hA3.size; clear hb3)
    | (go_at_call 52; refine (cM1 _ _ uA).mono ?_; rintro r w0 ⟨rfl, rfl⟩; clear cM1 uA)
    | (go_at_call 53; refine (cF2 _).mono ?_; rintro r w4 ⟨vR, rfl, uR, hb4⟩; clear cF2; obtain ⟨hc4, hf4⟩ := bcell hb4; have hz4_0 : w.heap.size < w4.heap.size := lt_below hb4 ltg; have hl4_0 := Nat.le_of_lt hz4_0; have hz4_1 : w.heap.size + 1 < w4.heap.size := lt_below hb4 ltg; have hl4_1 := Nat.le_of_lt hz4_1; have hz4_2 : w1.heap.size < w4.heap.size := lt_below hb4 ltg; have hl4_2 := Nat.le_of_lt hz4_2; have hA4 := bnext (w0 := w) bgo hb4; have hs4 := hA4.size; clear hb4)
    | (go_at_call 18; refine (cB2 _ _ uR).mono ?_; rintro r w5 ⟨rfl, hb5⟩; clear cB2 uR; obtain ⟨hc5, hf5⟩ := bcell hb5; have hz5_0 : w.heap.size < w5.heap.size := lt_below hb5 ltg; have hl5_0 := Nat.le_of_lt hz5_0; have hz5_1 : w.heap.size + 1 < w5.heap.size := lt_below hb5 ltg; have hl5_1 := Nat.le_of_lt hz5_1; have hz5_2 : w1.heap.size < w5.heap.size := lt_below hb5 ltg; have hl5_2 := Nat.le_of_lt hz5_2; have hA5 := bnext (w0 := w) bgo hb5; have hs5 := hA5.size; clear hb5)
    | (go_at_call 53; refine (cF3 _).mono ?_; rintro r w6 ⟨vS, rfl, uS, hb6⟩; clear cF3; obtain ⟨hc6, hf6⟩ := bcell hb6; have hz6_0 : w.heap.size < w6.heap.size := lt_below hb6 ltg; have hl6_0 := Nat.le_of_lt hz6_0; have hz6_1 : w.heap.size + 1 < w6.heap.size := lt_below hb6 ltg; have hl6_1 := Nat.le_of_lt hz6_1; have hz6_2 : w1.heap.size < w6.heap.size := lt_below hb6 ltg; have hl6_2 := Nat.le_of_lt hz6_2; have hz6_3 : w5.heap.size < w6.heap.size := lt_below hb6 ltg; have hl6_3 := Nat.le_of_lt hz6_3; have hA6 := bnext (w0 := w) bgo hb6; have hs6 := hA6.size; clear hb6; have q62_0 : w.heap.size < w6.heap.size + 1 + 1 := (by omega); have q62_1 : w.heap.size + 1 < w6.heap.size + 1 + 1 := (by omega); have q62_2 : w1.heap.size < w6.heap.size + 1 + 1 := (by omega); have q62_3 : w5.heap.size < w6.heap.size + 1 + 1 := (by omega); have q62_4 : w6.heap.size < w6.heap.size + 1 + 1 := (by omega); have q62_5 : w6.heap.size + 1 < w6.heap.size + 1 + 1 := (by omega))
    | (go_at_call 52; refine (cM3 _ _ uS).mono ?_; rintro r w0 ⟨rfl, rfl⟩; clear cM3 uS)
    | (go_at_call 17; refine (cW _).mono ?_; rintro r w8 ⟨rfl, hb8⟩; obtain ⟨hc8, hf8⟩ := bcell hb8; have hz8_0 : w.heap.size < w8.heap.size := lt_below hb8 ltg; have hl8_0 := Nat.le_of_lt hz8_0; have hz8_1 : w.heap.size + 1 < w8.heap.size := lt_below hb8 ltg; have hl8_1 := Nat.le_of_lt hz8_1; have hz8_2 : w1.heap.size < w8.heap.size := lt_below hb8 ltg; have hl8_2 := Nat.le_of_lt hz8_2; have hz8_3 : w5.heap.size < w8.heap.size := lt_below hb8 ltg; have hl8_3 := Nat.le_of_lt hz8_3; have hz8_4 : w6.heap.size < w8.heap.size := lt_below hb8 ltg; have hl8_4 := Nat.le_of_lt hz8_4; have hz8_5 : w6.heap.size + 1 < w8.heap.size := lt_below hb8 ltg; have hl8_5 := Nat.le_of_lt hz8_5; have hA8 := bnext (w0 := w) bgo hb8; have hs8 := hA8.size; clear hb8))
  exact bodyPost_ret (by simp only [results, Tryz.results21]; go_simp) rfl ⟨rfl, bgo⟩
set_option maxHeartbeats 4000000 in
theorem vmn_nfn (wm : Nat) (g : Bool)
    (cO : ∀ W, Calls Tryz.prog 10 #[.int .i64 n] W fun r w' => r = .returned (.tuple #[IDec n nm wd pr ex le mo pa false, .int .i64 0]) ∧ Below W.heap.size W w')
    (cS : ∀ W, Calls Tryz.prog 51 #[IDec n nm wd pr ex le mo pa false] W fun r w' => r = .returned (.tuple #[.int .i64 G, .int .i64 T, .int .i64 J]) ∧ Below W.heap.size W w')
    (h30 : (V == 30) = false) (h31 : (V == 31) = true) (hw6 : G - 6 = (wm : Int)) (hwm : wm ≤ 12) (hgg : (bits .and .u64 ((A : Int) / 2 ^ wm) 1 == 1) = g)
    (cW : ∀ W, Calls Tryz.prog 17 #[A4 Rr, .int .i64 10, .int .i64 pa] W fun r w' => r = .returned (.bool false) ∧ Below W.heap.size W w') :
    Calls Tryz.prog 21 #[.int .i64 n, A4 Bb] w fun r w' => r = .returned (.agg #[.int .i64 3, .bool s, .bool g, .int .i64 0, .int .u64 0, .int .u64 0, .int .u64 0, .int .u64 0]) ∧ Below w.heap.size w w' := by
  have hsm := cell_set_map
  unfold DV A4 at *
  go_enter Tryz.func21, Tryz.ntmps21
  go_wp2_with (first
    | (go_at_call 10; refine (cO _).mono ?_; rintro r w1 ⟨rfl, hb1⟩; obtain ⟨hc1, hf1⟩ := bcell hb1; have hz1_0 : w.heap.size < w1.heap.size := lt_below hb1 ltg; have hl1_0 := Nat.le_of_lt hz1_0; have hz1_1 : w.heap.size + 1 < w1.heap.size := lt_below hb1 ltg; have hl1_1 := Nat.le_of_lt hz1_1; have hA1 := bnext (w0 := w) bgo hb1; have hs1 := hA1.size; clear hb1)
    | (go_at_call 51; refine (cS _).mono ?_; rintro r w2 ⟨rfl, hb2⟩; obtain ⟨hc2, hf2⟩ := bcell hb2; have hz2_0 : w.heap.size < w2.heap.size := lt_below hb2 ltg; have hl2_0 := Nat.le_of_lt hz2_0; have hz2_1 : w.heap.size + 1 < w2.heap.size := lt_below hb2 ltg; have hl2_1 := Nat.le_of_lt hz2_1; have hz2_2 : w1.heap.size < w2.heap.size := lt_below hb2 ltg; have hl2_2 := Nat.le_of_lt hz2_2; have hA2 := bnext (w0 := w) bgo hb2; have hs2 := hA2.size; clear hb2)
    | (go_at_call 53; refine (cF1 _).mono ?_; rintro r w3 ⟨vA, rfl, uA, hb3⟩; clear cF1; obtain ⟨hc3, hf3⟩ := bcell hb3; have hz3_0 : w.heap.size < w3.heap.size := lt_below hb3 ltg; have hl3_0 := Nat.le_of_lt hz3_0; have hz3_1 : w.heap.size + 1 < w3.heap.size := lt_below hb3 ltg; have hl3_1 := Nat.le_of_lt hz3_1; have hz3_2 : w1.heap.size < w3.heap.size := lt_below hb3 ltg; have hl3_2 := Nat.le_of_lt hz3_2; have hA3 := bnext (w0 := w) bgo hb3; have hs3 := hA3.size; clear hb3)
    | (go_at_call 52; refine (cM1 _ _ uA).mono ?_; rintro r w0 ⟨rfl, rfl⟩; clear cM1 uA)
    | (go_at_call 53; refine (cF2 _).mono ?_; rintro r w4 ⟨vR, rfl, uR, hb4⟩; clear cF2; obtain ⟨hc4, hf4⟩ := bcell hb4; have hz4_0 : w.heap.size < w4.heap.size := lt_below hb4 ltg; have hl4_0 := Nat.le_of_lt hz4_0; have hz4_1 : w.heap.size + 1 < w4.heap.size := lt_below hb4 ltg; have hl4_1 := Nat.le_of_lt hz4_1; have hz4_2 : w1.heap.size < w4.heap.size := lt_below hb4 ltg; have hl4_2 := Nat.le_of_lt hz4_2; have hA4 := bnext (w0 := w) bgo hb4; have hs4 := hA4.size; clear hb4)
    | (go_at_call 18; refine (cB2 _ _ uR).mono ?_; rintro r w5 ⟨rfl, hb5⟩; clear cB2 uR; obtain ⟨hc5, hf5⟩ := bcell hb5; have hz5_0 : w.heap.size < w5.heap.size := lt_below hb5 ltg; have hl5_0 := Nat.le_of_lt hz5_0; have hz5_1 : w.heap.size + 1 < w5.heap.size := lt_below hb5 ltg; have hl5_1 := Nat.le_of_lt hz5_1; have hz5_2 : w1.heap.size < w5.heap.size := lt_below hb5 ltg; have hl5_2 := Nat.le_of_lt hz5_2; have hA5 := bnext (w0 := w) bgo hb5; have hs5 := hA5.size; clear hb5)
    | (go_at_call 53; refine (cF3 _).mono ?_; rintro r w6 ⟨vS, rfl, uS, hb6⟩; clear cF3; obtain ⟨hc6, hf6⟩ := bcell hb6; have hz6_0 : w.heap.size < w6.heap.size := lt_below hb6 ltg; have hl6_0 := Nat.le_of_lt hz6_0; have hz6_1 : w.heap.size + 1 < w6.heap.size := lt_below hb6 ltg; have hl6_1 := Nat.le_of_lt hz6_1; have hz6_2 : w1.heap.size < w6.heap.size := lt_below hb6 ltg; have hl6_2 := Nat.le_of_lt hz6_2; have hz6_3 : w5.heap.size < w6.heap.size := lt_below hb6 ltg; have hl6_3 := Nat.le_of_lt hz6_3; have hA6 := bnext (w0 := w) bgo hb6; have hs6 := hA6.size; clear hb6; have q62_0 : w.heap.size < w6.heap.size + 1 + 1 := (by omega); have q62_1 : w.heap.size + 1 < w6.heap.size + 1 + 1 := (by omega); have q62_2 : w1.heap.size < w6.heap.size + 1 + 1 := (by omega); have q62_3 : w5.heap.size < w6.heap.size + 1 + 1 := (by omega); have q62_4 : w6.heap.size < w6.heap.size + 1 + 1 := (by omega); have q62_5 : w6.heap.size + 1 < w6.heap.size + 1 + 1 := (by omega))
    | (go_at_call 52; refine (cM3 _ _ uS).mono ?_; rintro r w0 ⟨rfl, rfl⟩; clear cM3 uS)
    | (go_at_call 17; refine (cW _).mono ?_; rintro r w8 ⟨rfl, hb8⟩; obtain ⟨hc8, hf8⟩ := bcell hb8; have hz8_0 : w.heap.size < w8.heap.size := lt_below hb8 ltg; have hl8_0 := Nat.le_of_lt hz8_0; have hz8_1 : w.heap.size + 1 < w8.heap.size := lt_below hb8 ltg; have hl8_1 := Nat.le_of_lt hz8_1; have hz8_2 : w1.heap.size < w8.heap.size := lt_below hb8 ltg; have hl8_2 := Nat.le_of_lt hz8_2; have hz8_3 : w5.heap.size < w8.heap.size := lt_below hb8 ltg; have hl8_3 := Nat.le_of_lt hz8_3; have hz8_4 : w6.heap.size < w8.heap.size := lt_below hb8 ltg; have hl8_4 := Nat.le_of_lt hz8_4; have hz8_5 : w6.heap.size + 1 < w8.heap.size := lt_below hb8 ltg; have hl8_5 := Nat.le_of_lt hz8_5; have hA8 := bnext (w0 := w) bgo hb8; have hs8 := hA8.size; clear hb8))
  exact bodyPost_ret (by simp only [results, Tryz.results21]; go_simp) rfl ⟨rfl, bgo⟩
end
end Go.Proofs.YtmommdhnogogdaaGreatDoor

namespace Go.Proofs.YtmommdhnogogdaaGreatDoor
open Go.RowKit

section
variable {a : Act} {w : World} {K : Act → World → Prop} {Q : Exit → Act → World → Prop} {d p : Nat} {ty : TypeId} {pos : String} {after : Array Edge} {gd : Option (Nat × Bool)}
theorem og_c1 {F : Nat} {p0 : Nat} {u0 : Value} {ts : Array TypeId} (hr : Sem.run Tryz.prog (callFunc F #[u0]) w = .ok (.enter F #[u0]) w) (h0 : slot a p0 = u0) (hc : Calls Tryz.prog F #[u0] w fun e w' => ∃ v, e = .returned v ∧ K (a.put (some d) v) w') : Oper.wp Tryz.prog { dst := some d, op := Op.call { callee := Callee.value (Operand.func F), args := #[Operand.tmp p0], argTypes := ts }, type := ty, pos := pos, after := after, guard := gd } a w K Q := by
  unfold slot at h0
  simp [go_sem, h0, hr]
  refine hc.mono ?_
  rintro e w' ⟨v, rfl, hK⟩
  exact hK
theorem og_c2 {F : Nat} {p0 p1 : Nat} {u0 u1 : Value} {ts : Array TypeId} (hr : Sem.run Tryz.prog (callFunc F #[u0, u1]) w = .ok (.enter F #[u0, u1]) w) (h0 : slot a p0 = u0) (h1 : slot a p1 = u1) (hc : Calls Tryz.prog F #[u0, u1] w fun e w' => ∃ v, e = .returned v ∧ K (a.put (some d) v) w') : Oper.wp Tryz.prog { dst := some d, op := Op.call { callee := Callee.value (Operand.func F), args := #[Operand.tmp p0, Operand.tmp p1], argTypes := ts }, type := ty, pos := pos, after := after, guard := gd } a w K Q := by
  unfold slot at h0 h1
  simp [go_sem, h0, h1, hr]
  refine hc.mono ?_
  rintro e w' ⟨v, rfl, hK⟩
  exact hK
theorem og_ext {P : Program} {vs : Array Value} {i : Nat} {v : Value} (h1 : slot a p = .tuple vs) (h2 : vs[i]? = some v) (hK : K (a.put (some d) v) w) : Oper.wp P { dst := some d, op := Op.extract (Operand.tmp p) i, type := ty, pos := pos, after := after, guard := gd } a w K Q := by
  unfold slot at h1
  simp [go_sem, h1, h2]
  exact hK
theorem og_sl4 {g : Nat} (h1 : slot a p = .pointer (some ⟨g, 4, none⟩)) (hK : K (a.put (some d) (.slice (some ⟨g, 4, none⟩) 4 4)) w) : Oper.wp Tryz.prog { dst := some d, op := Op.slice 24 (Operand.tmp p) none none none, type := ty, pos := pos, after := after, guard := gd } a w K Q := by
  unfold slot at h1
  simp [go_sem, h1]
  exact hK
end
end Go.Proofs.YtmommdhnogogdaaGreatDoor

namespace Go.Proofs.YtmommdhnogogdaaGreatDoor
open Go.RowKit

section
variable {P : Program} {ops : Array Oper} {Q : Exit → Act → World → Prop} {md : Region.Mode}
def invR (md : Region.Mode) (ops : Array Oper) (n : Nat) : Bool :=
  Region.sinkB md ops n && chainC md ops n && decide (n < ops.size) && backB md ops n && restB md ops n
theorem rest_of {n : Nat} {l : List Oper} {a : Act} {w : World} (hn : n < l.length) (hR : restB .any l.toArray n = true) (hQ : ∀ c a d v w, Q (.panic c) (Act.put a d v) w → Q (.panic c) a w) (h : wpList P l.toArray Q (l.drop n) a w) : wpAny P .any l.toArray Q (l.drop n).length (fdone n l.toArray.size) a w := by
  have hsz : l.toArray.size = l.length := by simp
  simp only [restB, Bool.and_eq_true, List.isEmpty_iff] at hR
  obtain ⟨⟨hsel, hall⟩, hend⟩ := hR
  exact wpAny_rest (P := P) (md := .any) (Q := Q) hsel hQ hend (l.drop n) n a w (fun j => by simp [List.getElem?_drop]) (by simp; omega) (fun j hj1 hj2 => by
    have h5 := List.all_eq_true.1 hall (j - n) (List.mem_range.2 (by omega))
    rw [show n + (j - n) = j by omega] at h5
    simp only [Bool.or_eq_true, Bool.and_eq_true, decide_eq_true_eq] at h5
    rcases h5 with h5 | ⟨⟨h5, h6⟩, h7⟩
    · exact Or.inl h5
    · refine Or.inr ⟨h5, h6, ?_⟩
      cases ho : l.toArray[j]? with
      | none => rw [ho] at h7; cases h7
      | some o =>
        rw [ho] at h7
        simp only [Option.map_some, Option.getD_some, Bool.and_eq_true, Option.isNone_iff_eq_none] at h7
        exact ⟨o, rfl, h7.1, h7.2⟩) h
theorem wpAny_inv4 {n : Nat} {B : (Nat → Prop) → Act → World → Prop} {l : List Oper} (hs : Region.sinkB .any l.toArray n = true) (hc : chainC .any l.toArray n = true) (hn : n < l.toArray.size) (hb : backB .any l.toArray n = true) (hR : restB .any l.toArray n = true) (hQ : ∀ c a d v w, Q (.panic c) (Act.put a d v) w → Q (.panic c) a w)
    (hstep : ∀ (L : Nat → Prop) i o a w, i < n → l.toArray[i]? = some o → ¬ L i → (∀ j oj, l.toArray[j]? = some oj → L j → ∀ e ∈ oj.after, Region.binds .any e = true → L e.on) → (∀ e ∈ o.after, Region.binds .any e = true → L e.on) → B L a w → wpOp P l.toArray Q i (fun a' w' => B (fun j => L j ∨ j = i) a' w') a w)
    (hend : ∀ (L : Nat → Prop) a w, (∀ i, i < n → L i) → B L a w → wpList P l.toArray Q (l.drop n) a w) :
    ∀ (f : Nat) (listed : Array Bool) (a : Act) (w : World), HeadInv .any l.toArray n listed → toCome listed n = f → B (fun j => listed.getD j false = true) a w → wpAny P .any l.toArray Q (f + (l.drop n).length) listed a w
  | 0, listed, a, w, inv, hf, hB => by
    have hz := toCome_zero n hf
    have he := headDone_eq (Nat.le_of_lt hn) inv hz
    have hw := hend _ a w (fun i hi => getD_true_in (by rw [inv.size]; omega) (hz i hi)) hB
    rw [Nat.zero_add, he]
    exact rest_of (by simpa using hn) hR hQ hw
  | f + 1, listed, a, w, inv, hf, hB => by
    obtain ⟨k, hk, hku, hkl⟩ := toCome_least (listed := listed) n (by omega)
    rw [show f + 1 + (l.drop n).length = (f + (l.drop n).length) + 1 by omega]
    refine ⟨fun h0 => ?_, fun i hi => ?_⟩
    · obtain ⟨o, ho, hlt⟩ := backB_spec hb k hk
      have : k ∈ Region.ready .any l.toArray listed := mem_ready.2 ⟨hku, o, ho, fun e he hbd => by
        have := hlt e he hbd
        exact getD_true_in (by rw [inv.size]; omega) (hkl _ this)⟩
      rw [h0] at this; cases this
    · have hin : i < n := by
        rcases Nat.lt_or_ge i n with h | h
        · exact h
        · exact absurd hi (waits_tail hs hc hn inv hk hku i h)
      obtain ⟨hu, o, ho, hall⟩ := mem_ready.1 hi
      refine wpOp_mono (fun a' w' h3 => ?_) (hstep (fun j => listed.getD j false = true) i o a w hin ho (by show ¬ (listed.getD i false = true); rw [getD_both hu]; decide) inv.closed hall hB)
      refine wpAny_inv4 hs hc hn hb hR hQ hstep hend f _ a' w' (inv.set hi hin) (by have := toCome_set hu n hin; omega) ?_
      rw [listed_set (by rw [inv.size]; omega)]
      exact h3
theorem wp_region_inv4 (n : Nat) (B : (Nat → Prop) → Act → World → Prop) {id : Nat} {l : List Oper} {a : Act} {w : World} (hm : P.follows .mixedOrders = true) (hI : invR .any l.toArray n = true) (hQ : ∀ c a d v w, Q (.panic c) (Act.put a d v) w → Q (.panic c) a w)
    (h0 : B (fun _ => False) a w.drew)
    (hstep : ∀ (L : Nat → Prop) i o a w, i < n → l[i]? = some o → ¬ L i → (∀ j oj, l[j]? = some oj → L j → ∀ e ∈ oj.after, Region.binds .any e = true → L e.on) → (∀ e ∈ o.after, Region.binds .any e = true → L e.on) → B L a w → wpOp P l.toArray Q i (fun a' w' => B (fun j => L j ∨ j = i) a' w') a w)
    (hend : ∀ (L : Nat → Prop) a w, (∀ i, i < n → L i) → B L a w → wpList P l.toArray Q (l.drop n) a w) : (Code.region id l.toArray true).wp P Q a w := by
  simp only [invR, Bool.and_eq_true, decide_eq_true_eq] at hI
  obtain ⟨⟨⟨⟨hs, hc⟩, hn⟩, hb⟩, hR⟩ := hI
  have hdl : (l.drop n).length = l.toArray.size - n := by simp
  refine wp_region_any hm ?_
  have hf0 : (fun j => (Array.replicate l.toArray.size false).getD j false = true) = fun _ => False := by
    funext j
    rw [getD_replicate_false]
    simp
  have H := wpAny_inv4 (P := P) (Q := Q) (n := n) (B := B) (l := l) hs hc hn hb hR hQ
    (fun L i o a w hi ho hL hcl he hB => hstep L i o a w hi (by simpa using ho) hL (fun j oj hj => hcl j oj (by simpa using hj)) he hB) hend n (Array.replicate l.toArray.size false) a w.drew
    ⟨by simp, fun j oj _ hl => (by rw [getD_replicate_false] at hl; cases hl), fun t _ ht => getD_in (by simpa using ht) (getD_replicate_false _ _)⟩
    (toCome_replicate _ n (by simpa using Nat.le_of_lt hn)) (by rw [hf0]; exact h0)
  rw [hdl] at H
  have : n + (l.toArray.size - n) = l.toArray.size := by omega
  rw [this] at H
  exact H
theorem wp_region_memr (n m : Nat) (D : List Nat) (S : List (Value → World → Prop)) (T : World → World → Prop) (M : (Nat → Prop) → (Nat → Value) → World → Prop) {id : Nat} {l : List Oper} {a0 : Act} {w0 : World} (hm : P.follows .mixedOrders = true) (hI : invR .any l.toArray n = true) (hQ : ∀ c a d v w, Q (.panic c) (Act.put a d v) w → Q (.panic c) a w) (hD : dstM l D n m = true)
    (hsz : a0.tmps.size = m) (hS : ∀ p ∈ S, ∀ v w w', p v w → T w w' → p v w') (hM0 : M (fun _ => False) (slot a0) w0.drew)
    (hstep : ∀ (L : Nat → Prop) i o a w, i < n → l[i]? = some o → ¬ L i → (∀ j oj, l[j]? = some oj → L j → ∀ e ∈ oj.after, Region.binds .any e = true → L e.on) → (∀ e ∈ o.after, Region.binds .any e = true → L e.on) → M L (slot a) w →
      (∀ t, (∀ i, i < n → D.getD i 0 ≠ t) → slot a t = slot a0 t) → (∀ j, j < n → wrS l D j → L j → (S.getD j fun _ _ => True) (slot a (D.getD j 0)) w) →
      o.wp P a w (fun a' w' => ∃ v, a' = a.put o.dst v ∧ (S.getD i fun _ _ => True) v w' ∧ T w w' ∧ M (fun j => L j ∨ j = i) (fun t => if o.dst = some t then v else slot a t) w') Q)
    (hend : ∀ (L : Nat → Prop) a w, (∀ i, i < n → L i) → M L (slot a) w → a.tmps.size = m → a.defers = a0.defers → (∀ t, (∀ i, i < n → D.getD i 0 ≠ t) → slot a t = slot a0 t) → (∀ i, i < n → wrS l D i → (S.getD i fun _ _ => True) (slot a (D.getD i 0)) w) → wpList P l.toArray Q (l.drop n) a w) :
    (Code.region id l.toArray true).wp P Q a0 w0 := by
  have hSt : ∀ i v w w', (S.getD i fun _ _ => True) v w → T w w' → (S.getD i fun _ _ => True) v w' := by
    intro i
    rcases Nat.lt_or_ge i S.length with h | h
    · rw [List.getD_eq_getElem?_getD, List.getElem?_eq_getElem h]; exact hS _ (List.getElem_mem h)
    · rw [List.getD_eq_getElem?_getD, List.getElem?_eq_none h]; exact fun _ _ _ _ _ => trivial
  refine wp_region_inv4 n (fun L a w => M L (slot a) w ∧ a.tmps.size = m ∧ a.defers = a0.defers ∧ (∀ t, (∀ i, i < n → D.getD i 0 ≠ t) → slot a t = slot a0 t) ∧ ∀ j, j < n → wrS l D j → L j → (S.getD j fun _ _ => True) (slot a (D.getD j 0)) w) hm hI hQ
    ⟨hM0, hsz, rfl, fun _ _ => rfl, fun _ _ _ h => h.elim⟩ ?_ (fun L a w hL hB => hend L a w hL hB.1 hB.2.1 hB.2.2.1 hB.2.2.2.1 fun i hi hw => hB.2.2.2.2 i hi hw (hL i hi))
  intro L i o a w hi ho hL hcl he hB
  obtain ⟨hd, hg, hne⟩ := dstM_spec hD i hi o ho
  have hw := hstep L i o a w hi ho hL hcl he hB.1 hB.2.2.2.1 hB.2.2.2.2
  unfold wpOp
  have ho' : l.toArray[i]? = some o := by simpa using ho
  simp only [ho']
  rw [if_pos (by unfold Region.wanted; rw [hg])]
  refine Or.inl (Oper.wp_mono ?_ hw)
  rintro a' w' ⟨v, rfl, hv, hT, hM⟩
  rcases hd with hd | ⟨hd, hlt⟩
  · have ea : a.put o.dst v = a := by rw [hd]; rfl
    have em : (fun t => if o.dst = some t then v else slot a t) = slot a := by funext t; rw [hd]; simp
    rw [ea]
    rw [em] at hM
    refine ⟨hM, hB.2.1, hB.2.2.1, hB.2.2.2.1, fun j hj hwj hLj => ?_⟩
    rcases hLj with hLj | rfl
    · exact hSt j _ _ _ (hB.2.2.2.2 j hj hwj hLj) hT
    · unfold wrS at hwj; rw [ho] at hwj; simp [hd] at hwj
  · have em : (fun t => if o.dst = some t then v else slot a t) = slot (a.put o.dst v) := by
      funext t
      rw [hd]
      by_cases h : D.getD i 0 = t
      · subst h
        rw [if_pos rfl, slot_put (by rw [hB.2.1]; exact hlt)]
      · rw [if_neg (fun e => h (Option.some.inj e)), slot_put_ne h]
    rw [em] at hM
    refine ⟨hM, by rw [hd]; simp [Act.put, hB.2.1], by rw [hd]; exact hB.2.2.1, fun t ht => ?_, fun j hj hwj hLj => ?_⟩
    · rw [hd, slot_put_ne (ht i hi)]; exact hB.2.2.2.1 t ht
    · by_cases hji : j = i
      · subst hji
        rw [hd, slot_put (by rw [hB.2.1]; exact hlt)]; exact hv
      · rw [hd, slot_put_ne (fun h => hne j hj hji h.symm)]
        exact hSt j _ _ _ (hB.2.2.2.2 j hj hwj (hLj.resolve_right hji)) hT
end
end Go.Proofs.YtmommdhnogogdaaGreatDoor

namespace Go.Proofs.YtmommdhnogogdaaGreatDoor
open Go.RowKit
attribute [local irreducible] W4 NT NV
section
variable {a : Act} {w : World} {K : Act → World → Prop} {Q : Exit → Act → World → Prop} {d p : Nat} {ty : TypeId} {pos : String} {after : Array Edge} {gd : Option (Nat × Bool)}
theorem og_mulV {x c : Int} (h0 : 0 ≤ x) (h1 : x ≤ 1000) (hc0 : 0 ≤ c) (hc1 : c ≤ 1000) (hc2 : 0 ≤ c * x) (hc3 : c * x ≤ 1000000) (hx : slot a p = .int .i64 x) (hK : K (a.put (some d) (.int .i64 (c * x))) w) : Oper.wp Tryz.prog { dst := some d, op := Op.binOp BinOp.mul 3 (Operand.const (.int .i64 c)) (Operand.tmp p) 3, type := ty, pos := pos, after := after, guard := gd } a w K Q := by
  unfold slot at hx
  have e : IntKind.i64.wrap (c * x) = c * x := by
    rw [IntKind.wrap_i64]
    generalize c * x = y at *
    omega
  simp [go_sem, hx, e]
  exact hK
end
noncomputable def ops28 : List Oper := (Tryz.f21.body.bind (findR 28)).getD []
def slots28 : List Nat := [146, 147, 148, 149, 150, 151, 152]
def slotsA28 : List Nat := [146, 147, 148, 149, 150, 151, 152, 16]
theorem put_sizeV {a : Act} {d : Nat} {v : Value} : (a.put (some d) v).tmps.size = a.tmps.size := by simp [Act.put]
set_option maxHeartbeats 4000000 in
theorem reg28 {gl gt lead D M C U : Nat} {J : Int} {a0 : Act} {ws : World} {Q : Exit → Act → World → Prop} (hP : ∀ c a d v w, Q (.panic c) (Act.put a d v) w → Q (.panic c) a w) (hs : a0.tmps.size = 174)
    (g16 : slot a0 16 = .slice (some ⟨gl, 0, none⟩) 1 1) (g9 : slot a0 9 = .int .i64 J) (g14 : slot a0 14 = .pointer (some ⟨gt, 0, none⟩)) (hJ0 : 0 ≤ J) (hJ1 : J ≤ 11)
    (uL : NV 1 lead (.slice (some ⟨gl, 0, none⟩) 1 1) ws) (uT : NV 4 U (.slice (some ⟨gt, 0, none⟩) 4 4) ws)
    (cP : ∀ W, Calls Tryz.prog 56 #[.int .u64 10, .int .i64 (3 * J)] W fun r w' => ∃ v, r = .returned v ∧ NV 50000 D v w' ∧ Below W.heap.size W w')
    (cT : ∀ W v v', NV 1 lead v W → NV 50000 D v' W → Calls Tryz.prog 15 #[v, v'] W fun r w' => ∃ v, r = .returned v ∧ NT 60000 M v w' ∧ Below W.heap.size W w')
    (cA : ∀ W v v', NT 60000 M v W → NV 4 U v' W → Calls Tryz.prog 55 #[v, v'] W fun r w' => ∃ v, r = .returned v ∧ NV 70000 C v w' ∧ Below W.heap.size W w')
    (hQ : ∀ (a : Act) (w : World) (u : Value), slot a 16 = u → NV 70000 C u w → a.tmps.size = 174 → a.defers = a0.defers → (∀ t, (∀ i, i < 8 → slotsA28.getD i 0 ≠ t) → slot a t = slot a0 t) → Below ws.heap.size ws w → Q .normal a w) :
    (Code.region 28 ops28.toArray true).wp Tryz.prog Q a0 ws := by
  refine wp_region_memr 7 174 slots28 [iW (.slice (some ⟨gl, 0, none⟩) 1 1), iW (.int .i64 J), iW (.int .i64 (3 * J)), NV 50000 D, NT 60000 M, iW (.slice (some ⟨gt, 0, none⟩) 4 4), NV 70000 C] (fun w w' => Below w.heap.size w w') (fun L f w => Below ws.heap.size ws w) (by kernel_rfl) (by kernel_rfl) hP (by kernel_rfl) hs ?_ (Below.refl _ _).drew ?_ ?_
  · intro p hp
    simp only [List.mem_cons, List.not_mem_nil, or_false] at hp
    rcases hp with rfl | rfl | rfl | rfl | rfl | rfl | rfl
    all_goals first | exact fun _ _ _ h _ => h | exact fun _ _ _ h hb => h.next hb
  · intro L i o a w hi ho hL hcl he hM hF hv
    have f16 : slot a 16 = .slice (some ⟨gl, 0, none⟩) 1 1 := (hF 16 (by decide)).trans g16
    have f9 : slot a 9 = .int .i64 J := (hF 9 (by decide)).trans g9
    have f14 : slot a 14 = .pointer (some ⟨gt, 0, none⟩) := (hF 14 (by decide)).trans g14
    have hor : i = 0 ∨ i = 1 ∨ i = 2 ∨ i = 3 ∨ i = 4 ∨ i = 5 ∨ i = 6 := by omega
    rcases hor with rfl | rfl | rfl | rfl | rfl | rfl | rfl
    · obtain rfl := Option.some.inj (show ops28[0]? = some o from ho)
      exact og_mv f16 ⟨_, rfl, rfl, Below.refl _ _, hM⟩
    · obtain rfl := Option.some.inj (show ops28[1]? = some o from ho)
      exact og_mv f9 ⟨_, rfl, rfl, Below.refl _ _, hM⟩
    · obtain rfl := Option.some.inj (show ops28[2]? = some o from ho)
      exact og_mulV hJ0 (by omega) (by decide) (by decide) (by omega) (by omega) (hv 1 (by decide) rfl (he ⟨1, .data⟩ (by simp) rfl) : slot a 147 = .int .i64 J) ⟨_, rfl, rfl, Below.refl _ _, hM⟩
    · obtain rfl := Option.some.inj (show ops28[3]? = some o from ho)
      refine og_pow (u0 := .int .u64 10) (hv 2 (by decide) rfl (he ⟨2, .data⟩ (by simp) rfl) : slot a 148 = .int .i64 (3 * J)) ((cP w).mono ?_)
      rintro e w' ⟨v, rfl, hSv, hb⟩
      exact ⟨v, rfl, _, rfl, hSv, hb, bnx hM hb⟩
    · obtain rfl := Option.some.inj (show ops28[4]? = some o from ho)
      refine og_c2 (by simp [go_sem]) (hv 0 (by decide) rfl (he ⟨0, .data⟩ (by simp) rfl) : slot a 146 = .slice (some ⟨gl, 0, none⟩) 1 1) rfl ((cT w _ _ (uL.next hM) (hv 3 (by decide) rfl (he ⟨3, .data⟩ (by simp) rfl))).mono ?_)
      rintro e w' ⟨v, rfl, hSv, hb⟩
      exact ⟨v, rfl, _, rfl, hSv, hb, bnx hM hb⟩
    · obtain rfl := Option.some.inj (show ops28[5]? = some o from ho)
      exact og_slB f14 ⟨_, rfl, rfl, Below.refl _ _, hM⟩
    · obtain rfl := Option.some.inj (show ops28[6]? = some o from ho)
      refine og_c2 (by simp [go_sem]) rfl (hv 5 (by decide) rfl (he ⟨5, .data⟩ (by simp) rfl) : slot a 151 = .slice (some ⟨gt, 0, none⟩) 4 4) ((cA w _ _ (hv 4 (by decide) rfl (he ⟨4, .data⟩ (by simp) rfl)) (uT.next hM)).mono ?_)
      rintro e w' ⟨v, rfl, hSv, hb⟩
      exact ⟨v, rfl, _, rfl, hSv, hb, bnx hM hb⟩
  · intro L a w hL hM hsz hdf hF hv
    have hq := (hv 6 (by decide) rfl : NV 70000 C (slot a 152) w)
    refine BigFrame.wpList_want rfl fun K hK => og_as rfl (hK _ _ ?_)
    clear K hK
    refine hQ _ _ _ (slot_put (by omega)) hq (by simp only [put_sizeV]; exact hsz) hdf (fun t ht => ?_) hM
    rw [slot_put_ne (show 16 ≠ t from ht 7 (by decide))]
    exact hF t fun i hi => by
      have := ht i (by omega)
      have hor : i = 0 ∨ i = 1 ∨ i = 2 ∨ i = 3 ∨ i = 4 ∨ i = 5 ∨ i = 6 := by omega
      rcases hor with rfl | rfl | rfl | rfl | rfl | rfl | rfl <;> exact this
end Go.Proofs.YtmommdhnogogdaaGreatDoor
