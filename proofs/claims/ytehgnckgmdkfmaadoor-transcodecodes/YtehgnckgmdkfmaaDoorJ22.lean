/-
  Texts that the proof leans on.
-/
import Derived.Test.YtehgnckgmdkfmaaDoorJ17
import Derived.Test.YtehgnckgmdkfmaaDoorJ20
import Derived.Test.YtehgnckgmdkfmaaDoorJ15
import Derived.Deep.Cut
import Derived.Deep.CutRange
import Derived.Test.YtehgnckgmdkfmaaDoorJ5
set_option linter.unusedVariables false
set_option linter.unusedSectionVars false
set_option linter.unusedSimpArgs false
set_option maxRecDepth 20000
namespace Go.Proofs.YtehgnckgmdkfmaaDoor
open Go.RowKit
section
theorem nv_cells {g X : Nat} {W : World} (hX : X < 2 ^ 256) (hg : g < W.heap.size) (h0 : W.cell? ⟨g, 0, none⟩ = some (.int .u64 (W4 X 0))) (h1 : W.cell? ⟨g, 1, none⟩ = some (.int .u64 (W4 X 1))) (h2 : W.cell? ⟨g, 2, none⟩ = some (.int .u64 (W4 X 2))) (h3 : W.cell? ⟨g, 3, none⟩ = some (.int .u64 (W4 X 3))) : NV 4 X (.slice (some ⟨g, 0, none⟩) 4 4) W := by
  refine ⟨g, 4, 4, lowW (W4 X) 4, rfl, Nat.le_refl _, ⟨Nat.le_refl _, by unfold maxLen; omega, lowW_words (W4_words X) 4, fun i hi => lowW_ge hi, Or.inr ⟨g, 0, rfl, hg, fun i hi => ?_⟩⟩, ?_⟩
  · rw [lowW_lt hi]
    have : i = 0 ∨ i = 1 ∨ i = 2 ∨ i = 3 := by omega
    rcases this with rfl | rfl | rfl | rfl
    · exact h0
    · exact h1
    · exact h2
    · exact h3
  · rw [val_congr (x := lowW (W4 X) 4) (y := W4 X) 4 (fun i hi => lowW_lt hi), W4_val4 hX]
theorem number_wide {K V : Nat} {v : Value} {w : World} (h : NV K V v w) (hK : K < 100000) (hV : V < 9223372036854775808) :
    Calls Tryd.prog 33 #[v] w fun e w' => e = .returned (.int .i64 V) ∧ w' = w := by
  obtain ⟨g, k, cap, z, rfl, hk, hN, hv⟩ := h
  obtain ⟨h1, h2, h3, h4, h5⟩ := hN
  rcases h5 with ⟨h5, _⟩ | ⟨b, off, e, hb, hc⟩
  · cases h5
  · cases e
    rcases Nat.eq_zero_or_pos k with hk0 | hk0
    · subst hk0
      have : V = 0 := by have : val z 0 = 0 := rfl
                         omega
      subst this
      go_enter Tryd.func33, Tryd.ntmps33
      go_wp2
      go_ret
      exact ⟨rfl, rfl⟩
    · have hc0 := hc 0 hk0
      have hz0 := h3 0
      have e0 : z 0 = (V : Int) := by
        have hl := nv_low h3 h4 hv
        obtain ⟨j, rfl⟩ : ∃ j, k = 1 + j := ⟨k - 1, by omega⟩
        have hs := val_split z 1 j
        have hb2 := val_bd (segW_words h3 1 j) j
        have h10 : val z 1 = z 0 := by show val z 0 + z 0 * 18446744073709551616 ^ 0 = z 0; simp [val]
        rw [hv, h10] at hs
        simp only [Int.pow_one] at hs
        have hm : 0 ≤ val (segW z 1 j) j := hb2.1
        by_cases hp : 0 < val (segW z 1 j) j
        · exfalso; omega
        · have : val (segW z 1 j) j = 0 := by omega
          rw [this] at hs; omega
      have hk1 : ¬ ((k : Int) = 0) := by omega
      rw [e0] at hc0
      simp only [Nat.add_zero] at hc0
      have hkb : (k == 0) = false := by simp; omega
      have hki : (0 : Int) < k := by omega
      clear hc h3 h4 hv e0 hz0
      go_enter Tryd.func33, Tryd.ntmps33
      go_wp2
      go_ret
      exact ⟨rfl, rfl⟩
attribute [local irreducible] W4 NT NV
section
variable (n : Int) (nm : ByteArray) (wd pr ex le mo pa : Int) (G T J : Int) (x : Int) (k S : Nat) (w : World)
  (cD : ∀ W, Calls Tryd.prog 13 #[.int .i64 n] W fun r w' => r = .returned (.bool true) ∧ W = w')
  (hG0 : 11 ≤ G) (hG1 : G ≤ 100) (hT0 : 0 ≤ T) (hT1 : T ≤ 200) (hJ0 : 0 ≤ J) (hJ1 : J ≤ 11)
  (cN : ∀ W, Calls Tryd.prog 28 #[A4 k] W fun r w' => ∃ g n cap, r = .returned (.slice (some ⟨g, 0, none⟩) n cap) ∧ W.heap.size < g ∧ NT 4 k (.slice (some ⟨g, 0, none⟩) n cap) w' ∧ Below W.heap.size W w')
include cD hG0 hG1 hT0 hT1 hJ0 hJ1 cN
set_option maxHeartbeats 4000000 in
theorem vpk2_t (R : Nat) (g dn : Bool)
    (cO : ∀ W, Calls Tryd.prog 24 #[.int .i64 n] W fun r w' => r = .returned (.tuple #[IDec n nm wd pr ex le mo pa dn, .int .i64 0]) ∧ Below W.heap.size W w')
    (cI : ∀ W, Calls Tryd.prog 25 #[IDec n nm wd pr ex le mo pa dn, DV 2 true g x k] W fun r w' => r = .returned (.bool true) ∧ Below W.heap.size W w')
    (cS : ∀ W, Calls Tryd.prog 26 #[IDec n nm wd pr ex le mo pa dn] W fun r w' => r = .returned (.tuple #[.int .i64 G, .int .i64 T, .int .i64 J]) ∧ Below W.heap.size W w')
    (cL1 : ∀ W v, NV 1 1 v W → Calls Tryd.prog 27 #[Z4, v, .int .i64 (T + G)] W fun r w' => r = .returned (A4 S) ∧ Below W.heap.size W w')
    (cL2 : ∀ W v, NV 1 30 v W → Calls Tryd.prog 27 #[A4 S, v, .int .i64 (T + G - 5)] W fun r w' => r = .returned (A4 R) ∧ Below W.heap.size W w') :
    Calls Tryd.prog 17 #[.int .i64 n, DV 2 true g x k] w fun r w' => r = .returned (.tuple #[A4 R, .int .i64 0]) ∧ Below w.heap.size w w' := by
  have hsm := cell_set_map
  unfold DV A4 Z4 at *
  go_enter Tryd.func17, Tryd.ntmps17
  go_wp2_with (first
    | (go_at_call 13; refine (cD _).mono ?_; rintro r w0 ⟨rfl, rfl⟩)
    | (go_at_call 24; refine (cO _).mono ?_; rintro r w1 ⟨rfl, hb1⟩; obtain ⟨hc1, hf1⟩ := bcell hb1; have hz1_0 : w.heap.size < w1.heap.size := lt_below hb1 ltg; have hl1_0 := Nat.le_of_lt hz1_0; have hz1_1 : w.heap.size + 1 < w1.heap.size := lt_below hb1 ltg; have hl1_1 := Nat.le_of_lt hz1_1; have hA1 := bnext (w0 := w) bgo hb1; have hs1 := hA1.size; clear hb1)
    | (go_at_call 25; refine (cI _).mono ?_; rintro r w2 ⟨rfl, hb2⟩; obtain ⟨hc2, hf2⟩ := bcell hb2; have hz2_0 : w.heap.size < w2.heap.size := lt_below hb2 ltg; have hl2_0 := Nat.le_of_lt hz2_0; have hz2_1 : w.heap.size + 1 < w2.heap.size := lt_below hb2 ltg; have hl2_1 := Nat.le_of_lt hz2_1; have hz2_2 : w1.heap.size < w2.heap.size := lt_below hb2 ltg; have hl2_2 := Nat.le_of_lt hz2_2; have hA2 := bnext (w0 := w) bgo hb2; have hs2 := hA2.size; clear hb2)
    | (go_at_call 26; refine (cS _).mono ?_; rintro r w3 ⟨rfl, hb3⟩; obtain ⟨hc3, hf3⟩ := bcell hb3; have hz3_0 : w.heap.size < w3.heap.size := lt_below hb3 ltg; have hl3_0 := Nat.le_of_lt hz3_0; have hz3_1 : w.heap.size + 1 < w3.heap.size := lt_below hb3 ltg; have hl3_1 := Nat.le_of_lt hz3_1; have hz3_2 : w1.heap.size < w3.heap.size := lt_below hb3 ltg; have hl3_2 := Nat.le_of_lt hz3_2; have hA3 := bnext (w0 := w) bgo hb3; have hs3 := hA3.size; clear hb3; have q0 : w.heap.size < w3.heap.size + 1 + 1 := (by omega); have q1 : w.heap.size + 1 < w3.heap.size + 1 + 1 := (by omega); have q2 : w1.heap.size < w3.heap.size + 1 + 1 := (by omega); have q3 : w3.heap.size < w3.heap.size + 1 + 1 := (by omega))
    | (go_at_call 27; refine (cL1 _ _ (nv_dec (by simp) (by rfl) (by decide))).mono ?_; rintro r w4 ⟨rfl, hb4⟩; clear cL1; obtain ⟨hc4, hf4⟩ := bcell hb4; have hz4_0 : w.heap.size < w4.heap.size := lt_below hb4 ltg; have hl4_0 := Nat.le_of_lt hz4_0; have hz4_1 : w.heap.size + 1 < w4.heap.size := lt_below hb4 ltg; have hl4_1 := Nat.le_of_lt hz4_1; have hz4_2 : w1.heap.size < w4.heap.size := lt_below hb4 ltg; have hl4_2 := Nat.le_of_lt hz4_2; have hz4_3 : w3.heap.size < w4.heap.size := lt_below hb4 ltg; have hl4_3 := Nat.le_of_lt hz4_3; have hA4 := bnext (w0 := w) bgo hb4; have hs4 := hA4.size; clear hb4)
    | (go_at_call 28; refine (cN _).mono ?_; rintro r w5 ⟨gn, nn, cn, rfl, hg5, hn5, hb5⟩; have hgn : gn ≠ w3.heap.size := (by first | omega | (simp at hg5; omega)); clear hg5; obtain ⟨hc5, hf5⟩ := bcell hb5; have hz5_0 : w.heap.size < w5.heap.size := lt_below hb5 ltg; have hl5_0 := Nat.le_of_lt hz5_0; have hz5_1 : w.heap.size + 1 < w5.heap.size := lt_below hb5 ltg; have hl5_1 := Nat.le_of_lt hz5_1; have hz5_2 : w1.heap.size < w5.heap.size := lt_below hb5 ltg; have hl5_2 := Nat.le_of_lt hz5_2; have hz5_3 : w3.heap.size < w5.heap.size := lt_below hb5 ltg; have hl5_3 := Nat.le_of_lt hz5_3; have hA5 := bnext (w0 := w) bgo hb5; have hs5 := hA5.size; clear hb5)
    | (go_at_call 27; refine (cL2 _ _ (nv_dec (by simp) (by rfl) (by decide))).mono ?_; rintro r w6 ⟨rfl, hb6⟩; obtain ⟨hc6, hf6⟩ := bcell hb6; have hz6_0 : w.heap.size < w6.heap.size := lt_below hb6 ltg; have hl6_0 := Nat.le_of_lt hz6_0; have hz6_1 : w.heap.size + 1 < w6.heap.size := lt_below hb6 ltg; have hl6_1 := Nat.le_of_lt hz6_1; have hz6_2 : w1.heap.size < w6.heap.size := lt_below hb6 ltg; have hl6_2 := Nat.le_of_lt hz6_2; have hz6_3 : w3.heap.size < w6.heap.size := lt_below hb6 ltg; have hl6_3 := Nat.le_of_lt hz6_3; have hA6 := bnext (w0 := w) bgo hb6; have hs6 := hA6.size; clear hb6))
  exact bodyPost_ret (v := .tuple #[A4 R, .int .i64 0]) (by simp only [results, Tryd.results17]; go_simp) rfl ⟨rfl, bgo⟩
set_option maxHeartbeats 4000000 in
theorem vpk3_ttt (R : Nat) (R1 R2 p : Nat)
    (cO : ∀ W, Calls Tryd.prog 24 #[.int .i64 n] W fun r w' => r = .returned (.tuple #[IDec n nm wd pr ex le mo pa true, .int .i64 0]) ∧ Below W.heap.size W w')
    (cI : ∀ W, Calls Tryd.prog 25 #[IDec n nm wd pr ex le mo pa true, DV 3 true true x k] W fun r w' => r = .returned (.bool true) ∧ Below W.heap.size W w')
    (cS : ∀ W, Calls Tryd.prog 26 #[IDec n nm wd pr ex le mo pa true] W fun r w' => r = .returned (.tuple #[.int .i64 G, .int .i64 T, .int .i64 J]) ∧ Below W.heap.size W w')
    (cL1 : ∀ W v, NV 1 1 v W → Calls Tryd.prog 27 #[Z4, v, .int .i64 (T + G)] W fun r w' => r = .returned (A4 S) ∧ Below W.heap.size W w')
    (cL3 : ∀ W v, NV 1 31 v W → Calls Tryd.prog 27 #[A4 S, v, .int .i64 (T + G - 5)] W fun r w' => r = .returned (A4 R1) ∧ Below W.heap.size W w')
    (cL4 : ∀ W v, NV 1 1 v W → Calls Tryd.prog 27 #[A4 R1, v, .int .i64 (T + G - 6)] W fun r w' => r = .returned (A4 R2) ∧ Below W.heap.size W w')
    (hp : p < 2 ^ 256) (cP : ∀ W, Calls Tryd.prog 29 #[A4 k, .int .i64 J] W fun r w' => r = .returned (.tuple #[A4 p, .int .i64 0]) ∧ Below W.heap.size W w')
    (cL5 : ∀ W v, NV 4 p v W → Calls Tryd.prog 27 #[A4 R2, v, .int .i64 0] W fun r w' => r = .returned (A4 R) ∧ Below W.heap.size W w') :
    Calls Tryd.prog 17 #[.int .i64 n, DV 3 true true x k] w fun r w' => r = .returned (.tuple #[A4 R, .int .i64 0]) ∧ Below w.heap.size w w' := by
  have hsm := cell_set_map
  unfold DV A4 Z4 at *
  go_enter Tryd.func17, Tryd.ntmps17
  go_wp2_with (first
    | (go_at_call 13; refine (cD _).mono ?_; rintro r w0 ⟨rfl, rfl⟩)
    | (go_at_call 24; refine (cO _).mono ?_; rintro r w1 ⟨rfl, hb1⟩; obtain ⟨hc1, hf1⟩ := bcell hb1; have hz1_0 : w.heap.size < w1.heap.size := lt_below hb1 ltg; have hl1_0 := Nat.le_of_lt hz1_0; have hz1_1 : w.heap.size + 1 < w1.heap.size := lt_below hb1 ltg; have hl1_1 := Nat.le_of_lt hz1_1; have hA1 := bnext (w0 := w) bgo hb1; have hs1 := hA1.size; clear hb1)
    | (go_at_call 25; refine (cI _).mono ?_; rintro r w2 ⟨rfl, hb2⟩; obtain ⟨hc2, hf2⟩ := bcell hb2; have hz2_0 : w.heap.size < w2.heap.size := lt_below hb2 ltg; have hl2_0 := Nat.le_of_lt hz2_0; have hz2_1 : w.heap.size + 1 < w2.heap.size := lt_below hb2 ltg; have hl2_1 := Nat.le_of_lt hz2_1; have hz2_2 : w1.heap.size < w2.heap.size := lt_below hb2 ltg; have hl2_2 := Nat.le_of_lt hz2_2; have hA2 := bnext (w0 := w) bgo hb2; have hs2 := hA2.size; clear hb2)
    | (go_at_call 26; refine (cS _).mono ?_; rintro r w3 ⟨rfl, hb3⟩; obtain ⟨hc3, hf3⟩ := bcell hb3; have hz3_0 : w.heap.size < w3.heap.size := lt_below hb3 ltg; have hl3_0 := Nat.le_of_lt hz3_0; have hz3_1 : w.heap.size + 1 < w3.heap.size := lt_below hb3 ltg; have hl3_1 := Nat.le_of_lt hz3_1; have hz3_2 : w1.heap.size < w3.heap.size := lt_below hb3 ltg; have hl3_2 := Nat.le_of_lt hz3_2; have hA3 := bnext (w0 := w) bgo hb3; have hs3 := hA3.size; clear hb3; have q0 : w.heap.size < w3.heap.size + 1 + 1 := (by omega); have q1 : w.heap.size + 1 < w3.heap.size + 1 + 1 := (by omega); have q2 : w1.heap.size < w3.heap.size + 1 + 1 := (by omega); have q3 : w3.heap.size < w3.heap.size + 1 + 1 := (by omega))
    | (go_at_call 27; refine (cL1 _ _ (nv_dec (by simp) (by rfl) (by decide))).mono ?_; rintro r w4 ⟨rfl, hb4⟩; clear cL1; obtain ⟨hc4, hf4⟩ := bcell hb4; have hz4_0 : w.heap.size < w4.heap.size := lt_below hb4 ltg; have hl4_0 := Nat.le_of_lt hz4_0; have hz4_1 : w.heap.size + 1 < w4.heap.size := lt_below hb4 ltg; have hl4_1 := Nat.le_of_lt hz4_1; have hz4_2 : w1.heap.size < w4.heap.size := lt_below hb4 ltg; have hl4_2 := Nat.le_of_lt hz4_2; have hz4_3 : w3.heap.size < w4.heap.size := lt_below hb4 ltg; have hl4_3 := Nat.le_of_lt hz4_3; have hA4 := bnext (w0 := w) bgo hb4; have hs4 := hA4.size; clear hb4)
    | (go_at_call 28; refine (cN _).mono ?_; rintro r w5 ⟨gn, nn, cn, rfl, hg5, hn5, hb5⟩; have hgn : gn ≠ w3.heap.size := (by first | omega | (simp at hg5; omega)); clear hg5; obtain ⟨hc5, hf5⟩ := bcell hb5; have hz5_0 : w.heap.size < w5.heap.size := lt_below hb5 ltg; have hl5_0 := Nat.le_of_lt hz5_0; have hz5_1 : w.heap.size + 1 < w5.heap.size := lt_below hb5 ltg; have hl5_1 := Nat.le_of_lt hz5_1; have hz5_2 : w1.heap.size < w5.heap.size := lt_below hb5 ltg; have hl5_2 := Nat.le_of_lt hz5_2; have hz5_3 : w3.heap.size < w5.heap.size := lt_below hb5 ltg; have hl5_3 := Nat.le_of_lt hz5_3; have hA5 := bnext (w0 := w) bgo hb5; have hs5 := hA5.size; clear hb5)
    | (go_at_call 27; refine (cL3 _ _ (nv_dec (by simp) (by rfl) (by decide))).mono ?_; rintro r w6 ⟨rfl, hb6⟩; clear cL3; obtain ⟨hc6, hf6⟩ := bcell hb6; have hz6_0 : w.heap.size < w6.heap.size := lt_below hb6 ltg; have hl6_0 := Nat.le_of_lt hz6_0; have hz6_1 : w.heap.size + 1 < w6.heap.size := lt_below hb6 ltg; have hl6_1 := Nat.le_of_lt hz6_1; have hz6_2 : w1.heap.size < w6.heap.size := lt_below hb6 ltg; have hl6_2 := Nat.le_of_lt hz6_2; have hz6_3 : w3.heap.size < w6.heap.size := lt_below hb6 ltg; have hl6_3 := Nat.le_of_lt hz6_3; have hA6 := bnext (w0 := w) bgo hb6; have hs6 := hA6.size; clear hb6)
    | (go_at_call 27; refine (cL4 _ _ (nv_dec (by simp) (by rfl) (by decide))).mono ?_; rintro r w7 ⟨rfl, hb7⟩; clear cL4; obtain ⟨hc7, hf7⟩ := bcell hb7; have hz7_0 : w.heap.size < w7.heap.size := lt_below hb7 ltg; have hl7_0 := Nat.le_of_lt hz7_0; have hz7_1 : w.heap.size + 1 < w7.heap.size := lt_below hb7 ltg; have hl7_1 := Nat.le_of_lt hz7_1; have hz7_2 : w1.heap.size < w7.heap.size := lt_below hb7 ltg; have hl7_2 := Nat.le_of_lt hz7_2; have hz7_3 : w3.heap.size < w7.heap.size := lt_below hb7 ltg; have hl7_3 := Nat.le_of_lt hz7_3; have hA7 := bnext (w0 := w) bgo hb7; have hs7 := hA7.size; clear hb7)
    | (go_at_call 29; refine (cP _).mono ?_; rintro r w8 ⟨rfl, hb8⟩; obtain ⟨hc8, hf8⟩ := bcell hb8; have hz8_0 : w.heap.size < w8.heap.size := lt_below hb8 ltg; have hl8_0 := Nat.le_of_lt hz8_0; have hz8_1 : w.heap.size + 1 < w8.heap.size := lt_below hb8 ltg; have hl8_1 := Nat.le_of_lt hz8_1; have hz8_2 : w1.heap.size < w8.heap.size := lt_below hb8 ltg; have hl8_2 := Nat.le_of_lt hz8_2; have hz8_3 : w3.heap.size < w8.heap.size := lt_below hb8 ltg; have hl8_3 := Nat.le_of_lt hz8_3; have hA8 := bnext (w0 := w) bgo hb8; have hs8 := hA8.size; clear hb8)
    | (go_at_call 27; refine (cL5 _ _ (nv_cells hp (by simp) (by go_simp) (by go_simp) (by go_simp) (by go_simp))).mono ?_; rintro r w9 ⟨rfl, hb9⟩; obtain ⟨hc9, hf9⟩ := bcell hb9; have hz9_0 : w.heap.size < w9.heap.size := lt_below hb9 ltg; have hl9_0 := Nat.le_of_lt hz9_0; have hz9_1 : w.heap.size + 1 < w9.heap.size := lt_below hb9 ltg; have hl9_1 := Nat.le_of_lt hz9_1; have hz9_2 : w1.heap.size < w9.heap.size := lt_below hb9 ltg; have hl9_2 := Nat.le_of_lt hz9_2; have hz9_3 : w3.heap.size < w9.heap.size := lt_below hb9 ltg; have hl9_3 := Nat.le_of_lt hz9_3; have hA9 := bnext (w0 := w) bgo hb9; have hs9 := hA9.size; clear hb9))
  exact bodyPost_ret (v := .tuple #[A4 R, .int .i64 0]) (by simp only [results, Tryd.results17]; go_simp) rfl ⟨rfl, bgo⟩
set_option maxHeartbeats 4000000 in
theorem vpk3_ttf (R : Nat) (R1 R2 : Nat)
    (cO : ∀ W, Calls Tryd.prog 24 #[.int .i64 n] W fun r w' => r = .returned (.tuple #[IDec n nm wd pr ex le mo pa false, .int .i64 0]) ∧ Below W.heap.size W w')
    (cI : ∀ W, Calls Tryd.prog 25 #[IDec n nm wd pr ex le mo pa false, DV 3 true true x k] W fun r w' => r = .returned (.bool true) ∧ Below W.heap.size W w')
    (cS : ∀ W, Calls Tryd.prog 26 #[IDec n nm wd pr ex le mo pa false] W fun r w' => r = .returned (.tuple #[.int .i64 G, .int .i64 T, .int .i64 J]) ∧ Below W.heap.size W w')
    (cL1 : ∀ W v, NV 1 1 v W → Calls Tryd.prog 27 #[Z4, v, .int .i64 (T + G)] W fun r w' => r = .returned (A4 S) ∧ Below W.heap.size W w')
    (cL3 : ∀ W v, NV 1 31 v W → Calls Tryd.prog 27 #[A4 S, v, .int .i64 (T + G - 5)] W fun r w' => r = .returned (A4 R1) ∧ Below W.heap.size W w')
    (cL4 : ∀ W v, NV 1 1 v W → Calls Tryd.prog 27 #[A4 R1, v, .int .i64 (T + G - 6)] W fun r w' => r = .returned (A4 R2) ∧ Below W.heap.size W w')
    (cL5 : ∀ W v, NV 4 k v W → Calls Tryd.prog 27 #[A4 R2, v, .int .i64 0] W fun r w' => r = .returned (A4 R) ∧ Below W.heap.size W w') :
    Calls Tryd.prog 17 #[.int .i64 n, DV 3 true true x k] w fun r w' => r = .returned (.tuple #[A4 R, .int .i64 0]) ∧ Below w.heap.size w w' := by
  have hsm := cell_set_map
  unfold DV A4 Z4 at *
  go_enter Tryd.func17, Tryd.ntmps17
  go_wp2_with (first
    | (go_at_call 13; refine (cD _).mono ?_; rintro r w0 ⟨rfl, rfl⟩)
    | (go_at_call 24; refine (cO _).mono ?_; rintro r w1 ⟨rfl, hb1⟩; obtain ⟨hc1, hf1⟩ := bcell hb1; have hz1_0 : w.heap.size < w1.heap.size := lt_below hb1 ltg; have hl1_0 := Nat.le_of_lt hz1_0; have hz1_1 : w.heap.size + 1 < w1.heap.size := lt_below hb1 ltg; have hl1_1 := Nat.le_of_lt hz1_1; have hA1 := bnext (w0 := w) bgo hb1; have hs1 := hA1.size; clear hb1)
    | (go_at_call 25; refine (cI _).mono ?_; rintro r w2 ⟨rfl, hb2⟩; obtain ⟨hc2, hf2⟩ := bcell hb2; have hz2_0 : w.heap.size < w2.heap.size := lt_below hb2 ltg; have hl2_0 := Nat.le_of_lt hz2_0; have hz2_1 : w.heap.size + 1 < w2.heap.size := lt_below hb2 ltg; have hl2_1 := Nat.le_of_lt hz2_1; have hz2_2 : w1.heap.size < w2.heap.size := lt_below hb2 ltg; have hl2_2 := Nat.le_of_lt hz2_2; have hA2 := bnext (w0 := w) bgo hb2; have hs2 := hA2.size; clear hb2)
    | (go_at_call 26; refine (cS _).mono ?_; rintro r w3 ⟨rfl, hb3⟩; obtain ⟨hc3, hf3⟩ := bcell hb3; have hz3_0 : w.heap.size < w3.heap.size := lt_below hb3 ltg; have hl3_0 := Nat.le_of_lt hz3_0; have hz3_1 : w.heap.size + 1 < w3.heap.size := lt_below hb3 ltg; have hl3_1 := Nat.le_of_lt hz3_1; have hz3_2 : w1.heap.size < w3.heap.size := lt_below hb3 ltg; have hl3_2 := Nat.le_of_lt hz3_2; have hA3 := bnext (w0 := w) bgo hb3; have hs3 := hA3.size; clear hb3; have q0 : w.heap.size < w3.heap.size + 1 + 1 := (by omega); have q1 : w.heap.size + 1 < w3.heap.size + 1 + 1 := (by omega); have q2 : w1.heap.size < w3.heap.size + 1 + 1 := (by omega); have q3 : w3.heap.size < w3.heap.size + 1 + 1 := (by omega))
    | (go_at_call 27; refine (cL1 _ _ (nv_dec (by simp) (by rfl) (by decide))).mono ?_; rintro r w4 ⟨rfl, hb4⟩; clear cL1; obtain ⟨hc4, hf4⟩ := bcell hb4; have hz4_0 : w.heap.size < w4.heap.size := lt_below hb4 ltg; have hl4_0 := Nat.le_of_lt hz4_0; have hz4_1 : w.heap.size + 1 < w4.heap.size := lt_below hb4 ltg; have hl4_1 := Nat.le_of_lt hz4_1; have hz4_2 : w1.heap.size < w4.heap.size := lt_below hb4 ltg; have hl4_2 := Nat.le_of_lt hz4_2; have hz4_3 : w3.heap.size < w4.heap.size := lt_below hb4 ltg; have hl4_3 := Nat.le_of_lt hz4_3; have hA4 := bnext (w0 := w) bgo hb4; have hs4 := hA4.size; clear hb4)
    | (go_at_call 28; refine (cN _).mono ?_; rintro r w5 ⟨gn, nn, cn, rfl, hg5, hn5, hb5⟩; have hgn : gn ≠ w3.heap.size := (by first | omega | (simp at hg5; omega)); clear hg5; obtain ⟨hc5, hf5⟩ := bcell hb5; have hz5_0 : w.heap.size < w5.heap.size := lt_below hb5 ltg; have hl5_0 := Nat.le_of_lt hz5_0; have hz5_1 : w.heap.size + 1 < w5.heap.size := lt_below hb5 ltg; have hl5_1 := Nat.le_of_lt hz5_1; have hz5_2 : w1.heap.size < w5.heap.size := lt_below hb5 ltg; have hl5_2 := Nat.le_of_lt hz5_2; have hz5_3 : w3.heap.size < w5.heap.size := lt_below hb5 ltg; have hl5_3 := Nat.le_of_lt hz5_3; have hA5 := bnext (w0 := w) bgo hb5; have hs5 := hA5.size; clear hb5)
    | (go_at_call 27; refine (cL3 _ _ (nv_dec (by simp) (by rfl) (by decide))).mono ?_; rintro r w6 ⟨rfl, hb6⟩; clear cL3; have hn6 := ((hn5.next (below1 _ _)).next hb6).upd hgn (put4C_upd _ _ R1); obtain ⟨hc6, hf6⟩ := bcell hb6; have hz6_0 : w.heap.size < w6.heap.size := lt_below hb6 ltg; have hl6_0 := Nat.le_of_lt hz6_0; have hz6_1 : w.heap.size + 1 < w6.heap.size := lt_below hb6 ltg; have hl6_1 := Nat.le_of_lt hz6_1; have hz6_2 : w1.heap.size < w6.heap.size := lt_below hb6 ltg; have hl6_2 := Nat.le_of_lt hz6_2; have hz6_3 : w3.heap.size < w6.heap.size := lt_below hb6 ltg; have hl6_3 := Nat.le_of_lt hz6_3; have hA6 := bnext (w0 := w) bgo hb6; have hs6 := hA6.size; clear hb6)
    | (go_at_call 27; refine (cL4 _ _ (nv_dec (by simp) (by rfl) (by decide))).mono ?_; rintro r w7 ⟨rfl, hb7⟩; clear cL4; have hn7 := ((hn6.next (below1 _ _)).next hb7).upd hgn (put4C_upd _ _ R2); obtain ⟨hc7, hf7⟩ := bcell hb7; have hz7_0 : w.heap.size < w7.heap.size := lt_below hb7 ltg; have hl7_0 := Nat.le_of_lt hz7_0; have hz7_1 : w.heap.size + 1 < w7.heap.size := lt_below hb7 ltg; have hl7_1 := Nat.le_of_lt hz7_1; have hz7_2 : w1.heap.size < w7.heap.size := lt_below hb7 ltg; have hl7_2 := Nat.le_of_lt hz7_2; have hz7_3 : w3.heap.size < w7.heap.size := lt_below hb7 ltg; have hl7_3 := Nat.le_of_lt hz7_3; have hA7 := bnext (w0 := w) bgo hb7; have hs7 := hA7.size; clear hb7)
    | (go_at_call 27; refine (cL5 _ _ hn7.nv).mono ?_; rintro r w9 ⟨rfl, hb9⟩; obtain ⟨hc9, hf9⟩ := bcell hb9; have hz9_0 : w.heap.size < w9.heap.size := lt_below hb9 ltg; have hl9_0 := Nat.le_of_lt hz9_0; have hz9_1 : w.heap.size + 1 < w9.heap.size := lt_below hb9 ltg; have hl9_1 := Nat.le_of_lt hz9_1; have hz9_2 : w1.heap.size < w9.heap.size := lt_below hb9 ltg; have hl9_2 := Nat.le_of_lt hz9_2; have hz9_3 : w3.heap.size < w9.heap.size := lt_below hb9 ltg; have hl9_3 := Nat.le_of_lt hz9_3; have hA9 := bnext (w0 := w) bgo hb9; have hs9 := hA9.size; clear hb9))
  exact bodyPost_ret (v := .tuple #[A4 R, .int .i64 0]) (by simp only [results, Tryd.results17]; go_simp) rfl ⟨rfl, bgo⟩
set_option maxHeartbeats 4000000 in
theorem vpk3_tft (R : Nat) (R1 p : Nat)
    (cO : ∀ W, Calls Tryd.prog 24 #[.int .i64 n] W fun r w' => r = .returned (.tuple #[IDec n nm wd pr ex le mo pa true, .int .i64 0]) ∧ Below W.heap.size W w')
    (cI : ∀ W, Calls Tryd.prog 25 #[IDec n nm wd pr ex le mo pa true, DV 3 true false x k] W fun r w' => r = .returned (.bool true) ∧ Below W.heap.size W w')
    (cS : ∀ W, Calls Tryd.prog 26 #[IDec n nm wd pr ex le mo pa true] W fun r w' => r = .returned (.tuple #[.int .i64 G, .int .i64 T, .int .i64 J]) ∧ Below W.heap.size W w')
    (cL1 : ∀ W v, NV 1 1 v W → Calls Tryd.prog 27 #[Z4, v, .int .i64 (T + G)] W fun r w' => r = .returned (A4 S) ∧ Below W.heap.size W w')
    (cL3 : ∀ W v, NV 1 31 v W → Calls Tryd.prog 27 #[A4 S, v, .int .i64 (T + G - 5)] W fun r w' => r = .returned (A4 R1) ∧ Below W.heap.size W w')
    (hp : p < 2 ^ 256) (cP : ∀ W, Calls Tryd.prog 29 #[A4 k, .int .i64 J] W fun r w' => r = .returned (.tuple #[A4 p, .int .i64 0]) ∧ Below W.heap.size W w')
    (cL5 : ∀ W v, NV 4 p v W → Calls Tryd.prog 27 #[A4 R1, v, .int .i64 0] W fun r w' => r = .returned (A4 R) ∧ Below W.heap.size W w') :
    Calls Tryd.prog 17 #[.int .i64 n, DV 3 true false x k] w fun r w' => r = .returned (.tuple #[A4 R, .int .i64 0]) ∧ Below w.heap.size w w' := by
  have hsm := cell_set_map
  unfold DV A4 Z4 at *
  go_enter Tryd.func17, Tryd.ntmps17
  go_wp2_with (first
    | (go_at_call 13; refine (cD _).mono ?_; rintro r w0 ⟨rfl, rfl⟩)
    | (go_at_call 24; refine (cO _).mono ?_; rintro r w1 ⟨rfl, hb1⟩; obtain ⟨hc1, hf1⟩ := bcell hb1; have hz1_0 : w.heap.size < w1.heap.size := lt_below hb1 ltg; have hl1_0 := Nat.le_of_lt hz1_0; have hz1_1 : w.heap.size + 1 < w1.heap.size := lt_below hb1 ltg; have hl1_1 := Nat.le_of_lt hz1_1; have hA1 := bnext (w0 := w) bgo hb1; have hs1 := hA1.size; clear hb1)
    | (go_at_call 25; refine (cI _).mono ?_; rintro r w2 ⟨rfl, hb2⟩; obtain ⟨hc2, hf2⟩ := bcell hb2; have hz2_0 : w.heap.size < w2.heap.size := lt_below hb2 ltg; have hl2_0 := Nat.le_of_lt hz2_0; have hz2_1 : w.heap.size + 1 < w2.heap.size := lt_below hb2 ltg; have hl2_1 := Nat.le_of_lt hz2_1; have hz2_2 : w1.heap.size < w2.heap.size := lt_below hb2 ltg; have hl2_2 := Nat.le_of_lt hz2_2; have hA2 := bnext (w0 := w) bgo hb2; have hs2 := hA2.size; clear hb2)
    | (go_at_call 26; refine (cS _).mono ?_; rintro r w3 ⟨rfl, hb3⟩; obtain ⟨hc3, hf3⟩ := bcell hb3; have hz3_0 : w.heap.size < w3.heap.size := lt_below hb3 ltg; have hl3_0 := Nat.le_of_lt hz3_0; have hz3_1 : w.heap.size + 1 < w3.heap.size := lt_below hb3 ltg; have hl3_1 := Nat.le_of_lt hz3_1; have hz3_2 : w1.heap.size < w3.heap.size := lt_below hb3 ltg; have hl3_2 := Nat.le_of_lt hz3_2; have hA3 := bnext (w0 := w) bgo hb3; have hs3 := hA3.size; clear hb3; have q0 : w.heap.size < w3.heap.size + 1 + 1 := (by omega); have q1 : w.heap.size + 1 < w3.heap.size + 1 + 1 := (by omega); have q2 : w1.heap.size < w3.heap.size + 1 + 1 := (by omega); have q3 : w3.heap.size < w3.heap.size + 1 + 1 := (by omega))
    | (go_at_call 27; refine (cL1 _ _ (nv_dec (by simp) (by rfl) (by decide))).mono ?_; rintro r w4 ⟨rfl, hb4⟩; clear cL1; obtain ⟨hc4, hf4⟩ := bcell hb4; have hz4_0 : w.heap.size < w4.heap.size := lt_below hb4 ltg; have hl4_0 := Nat.le_of_lt hz4_0; have hz4_1 : w.heap.size + 1 < w4.heap.size := lt_below hb4 ltg; have hl4_1 := Nat.le_of_lt hz4_1; have hz4_2 : w1.heap.size < w4.heap.size := lt_below hb4 ltg; have hl4_2 := Nat.le_of_lt hz4_2; have hz4_3 : w3.heap.size < w4.heap.size := lt_below hb4 ltg; have hl4_3 := Nat.le_of_lt hz4_3; have hA4 := bnext (w0 := w) bgo hb4; have hs4 := hA4.size; clear hb4)
    | (go_at_call 28; refine (cN _).mono ?_; rintro r w5 ⟨gn, nn, cn, rfl, hg5, hn5, hb5⟩; have hgn : gn ≠ w3.heap.size := (by first | omega | (simp at hg5; omega)); clear hg5; obtain ⟨hc5, hf5⟩ := bcell hb5; have hz5_0 : w.heap.size < w5.heap.size := lt_below hb5 ltg; have hl5_0 := Nat.le_of_lt hz5_0; have hz5_1 : w.heap.size + 1 < w5.heap.size := lt_below hb5 ltg; have hl5_1 := Nat.le_of_lt hz5_1; have hz5_2 : w1.heap.size < w5.heap.size := lt_below hb5 ltg; have hl5_2 := Nat.le_of_lt hz5_2; have hz5_3 : w3.heap.size < w5.heap.size := lt_below hb5 ltg; have hl5_3 := Nat.le_of_lt hz5_3; have hA5 := bnext (w0 := w) bgo hb5; have hs5 := hA5.size; clear hb5)
    | (go_at_call 27; refine (cL3 _ _ (nv_dec (by simp) (by rfl) (by decide))).mono ?_; rintro r w6 ⟨rfl, hb6⟩; clear cL3; obtain ⟨hc6, hf6⟩ := bcell hb6; have hz6_0 : w.heap.size < w6.heap.size := lt_below hb6 ltg; have hl6_0 := Nat.le_of_lt hz6_0; have hz6_1 : w.heap.size + 1 < w6.heap.size := lt_below hb6 ltg; have hl6_1 := Nat.le_of_lt hz6_1; have hz6_2 : w1.heap.size < w6.heap.size := lt_below hb6 ltg; have hl6_2 := Nat.le_of_lt hz6_2; have hz6_3 : w3.heap.size < w6.heap.size := lt_below hb6 ltg; have hl6_3 := Nat.le_of_lt hz6_3; have hA6 := bnext (w0 := w) bgo hb6; have hs6 := hA6.size; clear hb6)
    | (go_at_call 29; refine (cP _).mono ?_; rintro r w8 ⟨rfl, hb8⟩; obtain ⟨hc8, hf8⟩ := bcell hb8; have hz8_0 : w.heap.size < w8.heap.size := lt_below hb8 ltg; have hl8_0 := Nat.le_of_lt hz8_0; have hz8_1 : w.heap.size + 1 < w8.heap.size := lt_below hb8 ltg; have hl8_1 := Nat.le_of_lt hz8_1; have hz8_2 : w1.heap.size < w8.heap.size := lt_below hb8 ltg; have hl8_2 := Nat.le_of_lt hz8_2; have hz8_3 : w3.heap.size < w8.heap.size := lt_below hb8 ltg; have hl8_3 := Nat.le_of_lt hz8_3; have hA8 := bnext (w0 := w) bgo hb8; have hs8 := hA8.size; clear hb8)
    | (go_at_call 27; refine (cL5 _ _ (nv_cells hp (by simp) (by go_simp) (by go_simp) (by go_simp) (by go_simp))).mono ?_; rintro r w9 ⟨rfl, hb9⟩; obtain ⟨hc9, hf9⟩ := bcell hb9; have hz9_0 : w.heap.size < w9.heap.size := lt_below hb9 ltg; have hl9_0 := Nat.le_of_lt hz9_0; have hz9_1 : w.heap.size + 1 < w9.heap.size := lt_below hb9 ltg; have hl9_1 := Nat.le_of_lt hz9_1; have hz9_2 : w1.heap.size < w9.heap.size := lt_below hb9 ltg; have hl9_2 := Nat.le_of_lt hz9_2; have hz9_3 : w3.heap.size < w9.heap.size := lt_below hb9 ltg; have hl9_3 := Nat.le_of_lt hz9_3; have hA9 := bnext (w0 := w) bgo hb9; have hs9 := hA9.size; clear hb9))
  exact bodyPost_ret (v := .tuple #[A4 R, .int .i64 0]) (by simp only [results, Tryd.results17]; go_simp) rfl ⟨rfl, bgo⟩
set_option maxHeartbeats 4000000 in
theorem vpk3_tff (R : Nat) (R1 : Nat)
    (cO : ∀ W, Calls Tryd.prog 24 #[.int .i64 n] W fun r w' => r = .returned (.tuple #[IDec n nm wd pr ex le mo pa false, .int .i64 0]) ∧ Below W.heap.size W w')
    (cI : ∀ W, Calls Tryd.prog 25 #[IDec n nm wd pr ex le mo pa false, DV 3 true false x k] W fun r w' => r = .returned (.bool true) ∧ Below W.heap.size W w')
    (cS : ∀ W, Calls Tryd.prog 26 #[IDec n nm wd pr ex le mo pa false] W fun r w' => r = .returned (.tuple #[.int .i64 G, .int .i64 T, .int .i64 J]) ∧ Below W.heap.size W w')
    (cL1 : ∀ W v, NV 1 1 v W → Calls Tryd.prog 27 #[Z4, v, .int .i64 (T + G)] W fun r w' => r = .returned (A4 S) ∧ Below W.heap.size W w')
    (cL3 : ∀ W v, NV 1 31 v W → Calls Tryd.prog 27 #[A4 S, v, .int .i64 (T + G - 5)] W fun r w' => r = .returned (A4 R1) ∧ Below W.heap.size W w')
    (cL5 : ∀ W v, NV 4 k v W → Calls Tryd.prog 27 #[A4 R1, v, .int .i64 0] W fun r w' => r = .returned (A4 R) ∧ Below W.heap.size W w') :
    Calls Tryd.prog 17 #[.int .i64 n, DV 3 true false x k] w fun r w' => r = .returned (.tuple #[A4 R, .int .i64 0]) ∧ Below w.heap.size w w' := by
  have hsm := cell_set_map
  unfold DV A4 Z4 at *
  go_enter Tryd.func17, Tryd.ntmps17
  go_wp2_with (first
    | (go_at_call 13; refine (cD _).mono ?_; rintro r w0 ⟨rfl, rfl⟩)
    | (go_at_call 24; refine (cO _).mono ?_; rintro r w1 ⟨rfl, hb1⟩; obtain ⟨hc1, hf1⟩ := bcell hb1; have hz1_0 : w.heap.size < w1.heap.size := lt_below hb1 ltg; have hl1_0 := Nat.le_of_lt hz1_0; have hz1_1 : w.heap.size + 1 < w1.heap.size := lt_below hb1 ltg; have hl1_1 := Nat.le_of_lt hz1_1; have hA1 := bnext (w0 := w) bgo hb1; have hs1 := hA1.size; clear hb1)
    | (go_at_call 25; refine (cI _).mono ?_; rintro r w2 ⟨rfl, hb2⟩; obtain ⟨hc2, hf2⟩ := bcell hb2; have hz2_0 : w.heap.size < w2.heap.size := lt_below hb2 ltg; have hl2_0 := Nat.le_of_lt hz2_0; have hz2_1 : w.heap.size + 1 < w2.heap.size := lt_below hb2 ltg; have hl2_1 := Nat.le_of_lt hz2_1; have hz2_2 : w1.heap.size < w2.heap.size := lt_below hb2 ltg; have hl2_2 := Nat.le_of_lt hz2_2; have hA2 := bnext (w0 := w) bgo hb2; have hs2 := hA2.size; clear hb2)
    | (go_at_call 26; refine (cS _).mono ?_; rintro r w3 ⟨rfl, hb3⟩; obtain ⟨hc3, hf3⟩ := bcell hb3; have hz3_0 : w.heap.size < w3.heap.size := lt_below hb3 ltg; have hl3_0 := Nat.le_of_lt hz3_0; have hz3_1 : w.heap.size + 1 < w3.heap.size := lt_below hb3 ltg; have hl3_1 := Nat.le_of_lt hz3_1; have hz3_2 : w1.heap.size < w3.heap.size := lt_below hb3 ltg; have hl3_2 := Nat.le_of_lt hz3_2; have hA3 := bnext (w0 := w) bgo hb3; have hs3 := hA3.size; clear hb3; have q0 : w.heap.size < w3.heap.size + 1 + 1 := (by omega); have q1 : w.heap.size + 1 < w3.heap.size + 1 + 1 := (by omega); have q2 : w1.heap.size < w3.heap.size + 1 + 1 := (by omega); have q3 : w3.heap.size < w3.heap.size + 1 + 1 := (by omega))
    | (go_at_call 27; refine (cL1 _ _ (nv_dec (by simp) (by rfl) (by decide))).mono ?_; rintro r w4 ⟨rfl, hb4⟩; clear cL1; obtain ⟨hc4, hf4⟩ := bcell hb4; have hz4_0 : w.heap.size < w4.heap.size := lt_below hb4 ltg; have hl4_0 := Nat.le_of_lt hz4_0; have hz4_1 : w.heap.size + 1 < w4.heap.size := lt_below hb4 ltg; have hl4_1 := Nat.le_of_lt hz4_1; have hz4_2 : w1.heap.size < w4.heap.size := lt_below hb4 ltg; have hl4_2 := Nat.le_of_lt hz4_2; have hz4_3 : w3.heap.size < w4.heap.size := lt_below hb4 ltg; have hl4_3 := Nat.le_of_lt hz4_3; have hA4 := bnext (w0 := w) bgo hb4; have hs4 := hA4.size; clear hb4)
    | (go_at_call 28; refine (cN _).mono ?_; rintro r w5 ⟨gn, nn, cn, rfl, hg5, hn5, hb5⟩; have hgn : gn ≠ w3.heap.size := (by first | omega | (simp at hg5; omega)); clear hg5; obtain ⟨hc5, hf5⟩ := bcell hb5; have hz5_0 : w.heap.size < w5.heap.size := lt_below hb5 ltg; have hl5_0 := Nat.le_of_lt hz5_0; have hz5_1 : w.heap.size + 1 < w5.heap.size := lt_below hb5 ltg; have hl5_1 := Nat.le_of_lt hz5_1; have hz5_2 : w1.heap.size < w5.heap.size := lt_below hb5 ltg; have hl5_2 := Nat.le_of_lt hz5_2; have hz5_3 : w3.heap.size < w5.heap.size := lt_below hb5 ltg; have hl5_3 := Nat.le_of_lt hz5_3; have hA5 := bnext (w0 := w) bgo hb5; have hs5 := hA5.size; clear hb5)
    | (go_at_call 27; refine (cL3 _ _ (nv_dec (by simp) (by rfl) (by decide))).mono ?_; rintro r w6 ⟨rfl, hb6⟩; clear cL3; have hn6 := ((hn5.next (below1 _ _)).next hb6).upd hgn (put4C_upd _ _ R1); obtain ⟨hc6, hf6⟩ := bcell hb6; have hz6_0 : w.heap.size < w6.heap.size := lt_below hb6 ltg; have hl6_0 := Nat.le_of_lt hz6_0; have hz6_1 : w.heap.size + 1 < w6.heap.size := lt_below hb6 ltg; have hl6_1 := Nat.le_of_lt hz6_1; have hz6_2 : w1.heap.size < w6.heap.size := lt_below hb6 ltg; have hl6_2 := Nat.le_of_lt hz6_2; have hz6_3 : w3.heap.size < w6.heap.size := lt_below hb6 ltg; have hl6_3 := Nat.le_of_lt hz6_3; have hA6 := bnext (w0 := w) bgo hb6; have hs6 := hA6.size; clear hb6)
    | (go_at_call 27; refine (cL5 _ _ hn6.nv).mono ?_; rintro r w9 ⟨rfl, hb9⟩; obtain ⟨hc9, hf9⟩ := bcell hb9; have hz9_0 : w.heap.size < w9.heap.size := lt_below hb9 ltg; have hl9_0 := Nat.le_of_lt hz9_0; have hz9_1 : w.heap.size + 1 < w9.heap.size := lt_below hb9 ltg; have hl9_1 := Nat.le_of_lt hz9_1; have hz9_2 : w1.heap.size < w9.heap.size := lt_below hb9 ltg; have hl9_2 := Nat.le_of_lt hz9_2; have hz9_3 : w3.heap.size < w9.heap.size := lt_below hb9 ltg; have hl9_3 := Nat.le_of_lt hz9_3; have hA9 := bnext (w0 := w) bgo hb9; have hs9 := hA9.size; clear hb9))
  exact bodyPost_ret (v := .tuple #[A4 R, .int .i64 0]) (by simp only [results, Tryd.results17]; go_simp) rfl ⟨rfl, bgo⟩
set_option maxHeartbeats 4000000 in
theorem vpk2_f (R : Nat) (g dn : Bool)
    (cO : ∀ W, Calls Tryd.prog 24 #[.int .i64 n] W fun r w' => r = .returned (.tuple #[IDec n nm wd pr ex le mo pa dn, .int .i64 0]) ∧ Below W.heap.size W w')
    (cI : ∀ W, Calls Tryd.prog 25 #[IDec n nm wd pr ex le mo pa dn, DV 2 false g x k] W fun r w' => r = .returned (.bool true) ∧ Below W.heap.size W w')
    (cS : ∀ W, Calls Tryd.prog 26 #[IDec n nm wd pr ex le mo pa dn] W fun r w' => r = .returned (.tuple #[.int .i64 G, .int .i64 T, .int .i64 J]) ∧ Below W.heap.size W w')
    (cL2 : ∀ W v, NV 1 30 v W → Calls Tryd.prog 27 #[Z4, v, .int .i64 (T + G - 5)] W fun r w' => r = .returned (A4 R) ∧ Below W.heap.size W w') :
    Calls Tryd.prog 17 #[.int .i64 n, DV 2 false g x k] w fun r w' => r = .returned (.tuple #[A4 R, .int .i64 0]) ∧ Below w.heap.size w w' := by
  have hsm := cell_set_map
  unfold DV A4 Z4 at *
  go_enter Tryd.func17, Tryd.ntmps17
  go_wp2_with (first
    | (go_at_call 13; refine (cD _).mono ?_; rintro r w0 ⟨rfl, rfl⟩)
    | (go_at_call 24; refine (cO _).mono ?_; rintro r w1 ⟨rfl, hb1⟩; obtain ⟨hc1, hf1⟩ := bcell hb1; have hz1_0 : w.heap.size < w1.heap.size := lt_below hb1 ltg; have hl1_0 := Nat.le_of_lt hz1_0; have hz1_1 : w.heap.size + 1 < w1.heap.size := lt_below hb1 ltg; have hl1_1 := Nat.le_of_lt hz1_1; have hA1 := bnext (w0 := w) bgo hb1; have hs1 := hA1.size; clear hb1)
    | (go_at_call 25; refine (cI _).mono ?_; rintro r w2 ⟨rfl, hb2⟩; obtain ⟨hc2, hf2⟩ := bcell hb2; have hz2_0 : w.heap.size < w2.heap.size := lt_below hb2 ltg; have hl2_0 := Nat.le_of_lt hz2_0; have hz2_1 : w.heap.size + 1 < w2.heap.size := lt_below hb2 ltg; have hl2_1 := Nat.le_of_lt hz2_1; have hz2_2 : w1.heap.size < w2.heap.size := lt_below hb2 ltg; have hl2_2 := Nat.le_of_lt hz2_2; have hA2 := bnext (w0 := w) bgo hb2; have hs2 := hA2.size; clear hb2)
    | (go_at_call 26; refine (cS _).mono ?_; rintro r w3 ⟨rfl, hb3⟩; obtain ⟨hc3, hf3⟩ := bcell hb3; have hz3_0 : w.heap.size < w3.heap.size := lt_below hb3 ltg; have hl3_0 := Nat.le_of_lt hz3_0; have hz3_1 : w.heap.size + 1 < w3.heap.size := lt_below hb3 ltg; have hl3_1 := Nat.le_of_lt hz3_1; have hz3_2 : w1.heap.size < w3.heap.size := lt_below hb3 ltg; have hl3_2 := Nat.le_of_lt hz3_2; have hA3 := bnext (w0 := w) bgo hb3; have hs3 := hA3.size; clear hb3; have q0 : w.heap.size < w3.heap.size + 1 + 1 := (by omega); have q1 : w.heap.size + 1 < w3.heap.size + 1 + 1 := (by omega); have q2 : w1.heap.size < w3.heap.size + 1 + 1 := (by omega); have q3 : w3.heap.size < w3.heap.size + 1 + 1 := (by omega))
    | (go_at_call 28; refine (cN _).mono ?_; rintro r w5 ⟨gn, nn, cn, rfl, hg5, hn5, hb5⟩; have hgn : gn ≠ w3.heap.size := (by first | omega | (simp at hg5; omega)); clear hg5; obtain ⟨hc5, hf5⟩ := bcell hb5; have hz5_0 : w.heap.size < w5.heap.size := lt_below hb5 ltg; have hl5_0 := Nat.le_of_lt hz5_0; have hz5_1 : w.heap.size + 1 < w5.heap.size := lt_below hb5 ltg; have hl5_1 := Nat.le_of_lt hz5_1; have hz5_2 : w1.heap.size < w5.heap.size := lt_below hb5 ltg; have hl5_2 := Nat.le_of_lt hz5_2; have hz5_3 : w3.heap.size < w5.heap.size := lt_below hb5 ltg; have hl5_3 := Nat.le_of_lt hz5_3; have hA5 := bnext (w0 := w) bgo hb5; have hs5 := hA5.size; clear hb5)
    | (go_at_call 27; refine (cL2 _ _ (nv_dec (by simp) (by rfl) (by decide))).mono ?_; rintro r w6 ⟨rfl, hb6⟩; obtain ⟨hc6, hf6⟩ := bcell hb6; have hz6_0 : w.heap.size < w6.heap.size := lt_below hb6 ltg; have hl6_0 := Nat.le_of_lt hz6_0; have hz6_1 : w.heap.size + 1 < w6.heap.size := lt_below hb6 ltg; have hl6_1 := Nat.le_of_lt hz6_1; have hz6_2 : w1.heap.size < w6.heap.size := lt_below hb6 ltg; have hl6_2 := Nat.le_of_lt hz6_2; have hz6_3 : w3.heap.size < w6.heap.size := lt_below hb6 ltg; have hl6_3 := Nat.le_of_lt hz6_3; have hA6 := bnext (w0 := w) bgo hb6; have hs6 := hA6.size; clear hb6))
  exact bodyPost_ret (v := .tuple #[A4 R, .int .i64 0]) (by simp only [results, Tryd.results17]; go_simp) rfl ⟨rfl, bgo⟩
set_option maxHeartbeats 4000000 in
theorem vpk3_ftt (R : Nat) (R1 R2 p : Nat)
    (cO : ∀ W, Calls Tryd.prog 24 #[.int .i64 n] W fun r w' => r = .returned (.tuple #[IDec n nm wd pr ex le mo pa true, .int .i64 0]) ∧ Below W.heap.size W w')
    (cI : ∀ W, Calls Tryd.prog 25 #[IDec n nm wd pr ex le mo pa true, DV 3 false true x k] W fun r w' => r = .returned (.bool true) ∧ Below W.heap.size W w')
    (cS : ∀ W, Calls Tryd.prog 26 #[IDec n nm wd pr ex le mo pa true] W fun r w' => r = .returned (.tuple #[.int .i64 G, .int .i64 T, .int .i64 J]) ∧ Below W.heap.size W w')
    (cL3 : ∀ W v, NV 1 31 v W → Calls Tryd.prog 27 #[Z4, v, .int .i64 (T + G - 5)] W fun r w' => r = .returned (A4 R1) ∧ Below W.heap.size W w')
    (cL4 : ∀ W v, NV 1 1 v W → Calls Tryd.prog 27 #[A4 R1, v, .int .i64 (T + G - 6)] W fun r w' => r = .returned (A4 R2) ∧ Below W.heap.size W w')
    (hp : p < 2 ^ 256) (cP : ∀ W, Calls Tryd.prog 29 #[A4 k, .int .i64 J] W fun r w' => r = .returned (.tuple #[A4 p, .int .i64 0]) ∧ Below W.heap.size W w')
    (cL5 : ∀ W v, NV 4 p v W → Calls Tryd.prog 27 #[A4 R2, v, .int .i64 0] W fun r w' => r = .returned (A4 R) ∧ Below W.heap.size W w') :
    Calls Tryd.prog 17 #[.int .i64 n, DV 3 false true x k] w fun r w' => r = .returned (.tuple #[A4 R, .int .i64 0]) ∧ Below w.heap.size w w' := by
  have hsm := cell_set_map
  unfold DV A4 Z4 at *
  go_enter Tryd.func17, Tryd.ntmps17
  go_wp2_with (first
    | (go_at_call 13; refine (cD _).mono ?_; rintro r w0 ⟨rfl, rfl⟩)
    | (go_at_call 24; refine (cO _).mono ?_; rintro r w1 ⟨rfl, hb1⟩; obtain ⟨hc1, hf1⟩ := bcell hb1; have hz1_0 : w.heap.size < w1.heap.size := lt_below hb1 ltg; have hl1_0 := Nat.le_of_lt hz1_0; have hz1_1 : w.heap.size + 1 < w1.heap.size := lt_below hb1 ltg; have hl1_1 := Nat.le_of_lt hz1_1; have hA1 := bnext (w0 := w) bgo hb1; have hs1 := hA1.size; clear hb1)
    | (go_at_call 25; refine (cI _).mono ?_; rintro r w2 ⟨rfl, hb2⟩; obtain ⟨hc2, hf2⟩ := bcell hb2; have hz2_0 : w.heap.size < w2.heap.size := lt_below hb2 ltg; have hl2_0 := Nat.le_of_lt hz2_0; have hz2_1 : w.heap.size + 1 < w2.heap.size := lt_below hb2 ltg; have hl2_1 := Nat.le_of_lt hz2_1; have hz2_2 : w1.heap.size < w2.heap.size := lt_below hb2 ltg; have hl2_2 := Nat.le_of_lt hz2_2; have hA2 := bnext (w0 := w) bgo hb2; have hs2 := hA2.size; clear hb2)
    | (go_at_call 26; refine (cS _).mono ?_; rintro r w3 ⟨rfl, hb3⟩; obtain ⟨hc3, hf3⟩ := bcell hb3; have hz3_0 : w.heap.size < w3.heap.size := lt_below hb3 ltg; have hl3_0 := Nat.le_of_lt hz3_0; have hz3_1 : w.heap.size + 1 < w3.heap.size := lt_below hb3 ltg; have hl3_1 := Nat.le_of_lt hz3_1; have hz3_2 : w1.heap.size < w3.heap.size := lt_below hb3 ltg; have hl3_2 := Nat.le_of_lt hz3_2; have hA3 := bnext (w0 := w) bgo hb3; have hs3 := hA3.size; clear hb3; have q0 : w.heap.size < w3.heap.size + 1 + 1 := (by omega); have q1 : w.heap.size + 1 < w3.heap.size + 1 + 1 := (by omega); have q2 : w1.heap.size < w3.heap.size + 1 + 1 := (by omega); have q3 : w3.heap.size < w3.heap.size + 1 + 1 := (by omega))
    | (go_at_call 28; refine (cN _).mono ?_; rintro r w5 ⟨gn, nn, cn, rfl, hg5, hn5, hb5⟩; have hgn : gn ≠ w3.heap.size := (by first | omega | (simp at hg5; omega)); clear hg5; obtain ⟨hc5, hf5⟩ := bcell hb5; have hz5_0 : w.heap.size < w5.heap.size := lt_below hb5 ltg; have hl5_0 := Nat.le_of_lt hz5_0; have hz5_1 : w.heap.size + 1 < w5.heap.size := lt_below hb5 ltg; have hl5_1 := Nat.le_of_lt hz5_1; have hz5_2 : w1.heap.size < w5.heap.size := lt_below hb5 ltg; have hl5_2 := Nat.le_of_lt hz5_2; have hz5_3 : w3.heap.size < w5.heap.size := lt_below hb5 ltg; have hl5_3 := Nat.le_of_lt hz5_3; have hA5 := bnext (w0 := w) bgo hb5; have hs5 := hA5.size; clear hb5)
    | (go_at_call 27; refine (cL3 _ _ (nv_dec (by simp) (by rfl) (by decide))).mono ?_; rintro r w6 ⟨rfl, hb6⟩; clear cL3; obtain ⟨hc6, hf6⟩ := bcell hb6; have hz6_0 : w.heap.size < w6.heap.size := lt_below hb6 ltg; have hl6_0 := Nat.le_of_lt hz6_0; have hz6_1 : w.heap.size + 1 < w6.heap.size := lt_below hb6 ltg; have hl6_1 := Nat.le_of_lt hz6_1; have hz6_2 : w1.heap.size < w6.heap.size := lt_below hb6 ltg; have hl6_2 := Nat.le_of_lt hz6_2; have hz6_3 : w3.heap.size < w6.heap.size := lt_below hb6 ltg; have hl6_3 := Nat.le_of_lt hz6_3; have hA6 := bnext (w0 := w) bgo hb6; have hs6 := hA6.size; clear hb6)
    | (go_at_call 27; refine (cL4 _ _ (nv_dec (by simp) (by rfl) (by decide))).mono ?_; rintro r w7 ⟨rfl, hb7⟩; clear cL4; obtain ⟨hc7, hf7⟩ := bcell hb7; have hz7_0 : w.heap.size < w7.heap.size := lt_below hb7 ltg; have hl7_0 := Nat.le_of_lt hz7_0; have hz7_1 : w.heap.size + 1 < w7.heap.size := lt_below hb7 ltg; have hl7_1 := Nat.le_of_lt hz7_1; have hz7_2 : w1.heap.size < w7.heap.size := lt_below hb7 ltg; have hl7_2 := Nat.le_of_lt hz7_2; have hz7_3 : w3.heap.size < w7.heap.size := lt_below hb7 ltg; have hl7_3 := Nat.le_of_lt hz7_3; have hA7 := bnext (w0 := w) bgo hb7; have hs7 := hA7.size; clear hb7)
    | (go_at_call 29; refine (cP _).mono ?_; rintro r w8 ⟨rfl, hb8⟩; obtain ⟨hc8, hf8⟩ := bcell hb8; have hz8_0 : w.heap.size < w8.heap.size := lt_below hb8 ltg; have hl8_0 := Nat.le_of_lt hz8_0; have hz8_1 : w.heap.size + 1 < w8.heap.size := lt_below hb8 ltg; have hl8_1 := Nat.le_of_lt hz8_1; have hz8_2 : w1.heap.size < w8.heap.size := lt_below hb8 ltg; have hl8_2 := Nat.le_of_lt hz8_2; have hz8_3 : w3.heap.size < w8.heap.size := lt_below hb8 ltg; have hl8_3 := Nat.le_of_lt hz8_3; have hA8 := bnext (w0 := w) bgo hb8; have hs8 := hA8.size; clear hb8)
    | (go_at_call 27; refine (cL5 _ _ (nv_cells hp (by simp) (by go_simp) (by go_simp) (by go_simp) (by go_simp))).mono ?_; rintro r w9 ⟨rfl, hb9⟩; obtain ⟨hc9, hf9⟩ := bcell hb9; have hz9_0 : w.heap.size < w9.heap.size := lt_below hb9 ltg; have hl9_0 := Nat.le_of_lt hz9_0; have hz9_1 : w.heap.size + 1 < w9.heap.size := lt_below hb9 ltg; have hl9_1 := Nat.le_of_lt hz9_1; have hz9_2 : w1.heap.size < w9.heap.size := lt_below hb9 ltg; have hl9_2 := Nat.le_of_lt hz9_2; have hz9_3 : w3.heap.size < w9.heap.size := lt_below hb9 ltg; have hl9_3 := Nat.le_of_lt hz9_3; have hA9 := bnext (w0 := w) bgo hb9; have hs9 := hA9.size; clear hb9))
  exact bodyPost_ret (v := .tuple #[A4 R, .int .i64 0]) (by simp only [results, Tryd.results17]; go_simp) rfl ⟨rfl, bgo⟩
set_option maxHeartbeats 4000000 in
theorem vpk3_ftf (R : Nat) (R1 R2 : Nat)
    (cO : ∀ W, Calls Tryd.prog 24 #[.int .i64 n] W fun r w' => r = .returned (.tuple #[IDec n nm wd pr ex le mo pa false, .int .i64 0]) ∧ Below W.heap.size W w')
    (cI : ∀ W, Calls Tryd.prog 25 #[IDec n nm wd pr ex le mo pa false, DV 3 false true x k] W fun r w' => r = .returned (.bool true) ∧ Below W.heap.size W w')
    (cS : ∀ W, Calls Tryd.prog 26 #[IDec n nm wd pr ex le mo pa false] W fun r w' => r = .returned (.tuple #[.int .i64 G, .int .i64 T, .int .i64 J]) ∧ Below W.heap.size W w')
    (cL3 : ∀ W v, NV 1 31 v W → Calls Tryd.prog 27 #[Z4, v, .int .i64 (T + G - 5)] W fun r w' => r = .returned (A4 R1) ∧ Below W.heap.size W w')
    (cL4 : ∀ W v, NV 1 1 v W → Calls Tryd.prog 27 #[A4 R1, v, .int .i64 (T + G - 6)] W fun r w' => r = .returned (A4 R2) ∧ Below W.heap.size W w')
    (cL5 : ∀ W v, NV 4 k v W → Calls Tryd.prog 27 #[A4 R2, v, .int .i64 0] W fun r w' => r = .returned (A4 R) ∧ Below W.heap.size W w') :
    Calls Tryd.prog 17 #[.int .i64 n, DV 3 false true x k] w fun r w' => r = .returned (.tuple #[A4 R, .int .i64 0]) ∧ Below w.heap.size w w' := by
  have hsm := cell_set_map
  unfold DV A4 Z4 at *
  go_enter Tryd.func17, Tryd.ntmps17
  go_wp2_with (first
    | (go_at_call 13; refine (cD _).mono ?_; rintro r w0 ⟨rfl, rfl⟩)
    | (go_at_call 24; refine (cO _).mono ?_; rintro r w1 ⟨rfl, hb1⟩; obtain ⟨hc1, hf1⟩ := bcell hb1; have hz1_0 : w.heap.size < w1.heap.size := lt_below hb1 ltg; have hl1_0 := Nat.le_of_lt hz1_0; have hz1_1 : w.heap.size + 1 < w1.heap.size := lt_below hb1 ltg; have hl1_1 := Nat.le_of_lt hz1_1; have hA1 := bnext (w0 := w) bgo hb1; have hs1 := hA1.size; clear hb1)
    | (go_at_call 25; refine (cI _).mono ?_; rintro r w2 ⟨rfl, hb2⟩; obtain ⟨hc2, hf2⟩ := bcell hb2; have hz2_0 : w.heap.size < w2.heap.size := lt_below hb2 ltg; have hl2_0 := Nat.le_of_lt hz2_0; have hz2_1 : w.heap.size + 1 < w2.heap.size := lt_below hb2 ltg; have hl2_1 := Nat.le_of_lt hz2_1; have hz2_2 : w1.heap.size < w2.heap.size := lt_below hb2 ltg; have hl2_2 := Nat.le_of_lt hz2_2; have hA2 := bnext (w0 := w) bgo hb2; have hs2 := hA2.size; clear hb2)
    | (go_at_call 26; refine (cS _).mono ?_; rintro r w3 ⟨rfl, hb3⟩; obtain ⟨hc3, hf3⟩ := bcell hb3; have hz3_0 : w.heap.size < w3.heap.size := lt_below hb3 ltg; have hl3_0 := Nat.le_of_lt hz3_0; have hz3_1 : w.heap.size + 1 < w3.heap.size := lt_below hb3 ltg; have hl3_1 := Nat.le_of_lt hz3_1; have hz3_2 : w1.heap.size < w3.heap.size := lt_below hb3 ltg; have hl3_2 := Nat.le_of_lt hz3_2; have hA3 := bnext (w0 := w) bgo hb3; have hs3 := hA3.size; clear hb3; have q0 : w.heap.size < w3.heap.size + 1 + 1 := (by omega); have q1 : w.heap.size + 1 < w3.heap.size + 1 + 1 := (by omega); have q2 : w1.heap.size < w3.heap.size + 1 + 1 := (by omega); have q3 : w3.heap.size < w3.heap.size + 1 + 1 := (by omega))
    | (go_at_call 28; refine (cN _).mono ?_; rintro r w5 ⟨gn, nn, cn, rfl, hg5, hn5, hb5⟩; have hgn : gn ≠ w3.heap.size := (by first | omega | (simp at hg5; omega)); clear hg5; obtain ⟨hc5, hf5⟩ := bcell hb5; have hz5_0 : w.heap.size < w5.heap.size := lt_below hb5 ltg; have hl5_0 := Nat.le_of_lt hz5_0; have hz5_1 : w.heap.size + 1 < w5.heap.size := lt_below hb5 ltg; have hl5_1 := Nat.le_of_lt hz5_1; have hz5_2 : w1.heap.size < w5.heap.size := lt_below hb5 ltg; have hl5_2 := Nat.le_of_lt hz5_2; have hz5_3 : w3.heap.size < w5.heap.size := lt_below hb5 ltg; have hl5_3 := Nat.le_of_lt hz5_3; have hA5 := bnext (w0 := w) bgo hb5; have hs5 := hA5.size; clear hb5)
    | (go_at_call 27; refine (cL3 _ _ (nv_dec (by simp) (by rfl) (by decide))).mono ?_; rintro r w6 ⟨rfl, hb6⟩; clear cL3; have hn6 := ((hn5.next (below1 _ _)).next hb6).upd hgn (put4C_upd _ _ R1); obtain ⟨hc6, hf6⟩ := bcell hb6; have hz6_0 : w.heap.size < w6.heap.size := lt_below hb6 ltg; have hl6_0 := Nat.le_of_lt hz6_0; have hz6_1 : w.heap.size + 1 < w6.heap.size := lt_below hb6 ltg; have hl6_1 := Nat.le_of_lt hz6_1; have hz6_2 : w1.heap.size < w6.heap.size := lt_below hb6 ltg; have hl6_2 := Nat.le_of_lt hz6_2; have hz6_3 : w3.heap.size < w6.heap.size := lt_below hb6 ltg; have hl6_3 := Nat.le_of_lt hz6_3; have hA6 := bnext (w0 := w) bgo hb6; have hs6 := hA6.size; clear hb6)
    | (go_at_call 27; refine (cL4 _ _ (nv_dec (by simp) (by rfl) (by decide))).mono ?_; rintro r w7 ⟨rfl, hb7⟩; clear cL4; have hn7 := ((hn6.next (below1 _ _)).next hb7).upd hgn (put4C_upd _ _ R2); obtain ⟨hc7, hf7⟩ := bcell hb7; have hz7_0 : w.heap.size < w7.heap.size := lt_below hb7 ltg; have hl7_0 := Nat.le_of_lt hz7_0; have hz7_1 : w.heap.size + 1 < w7.heap.size := lt_below hb7 ltg; have hl7_1 := Nat.le_of_lt hz7_1; have hz7_2 : w1.heap.size < w7.heap.size := lt_below hb7 ltg; have hl7_2 := Nat.le_of_lt hz7_2; have hz7_3 : w3.heap.size < w7.heap.size := lt_below hb7 ltg; have hl7_3 := Nat.le_of_lt hz7_3; have hA7 := bnext (w0 := w) bgo hb7; have hs7 := hA7.size; clear hb7)
    | (go_at_call 27; refine (cL5 _ _ hn7.nv).mono ?_; rintro r w9 ⟨rfl, hb9⟩; obtain ⟨hc9, hf9⟩ := bcell hb9; have hz9_0 : w.heap.size < w9.heap.size := lt_below hb9 ltg; have hl9_0 := Nat.le_of_lt hz9_0; have hz9_1 : w.heap.size + 1 < w9.heap.size := lt_below hb9 ltg; have hl9_1 := Nat.le_of_lt hz9_1; have hz9_2 : w1.heap.size < w9.heap.size := lt_below hb9 ltg; have hl9_2 := Nat.le_of_lt hz9_2; have hz9_3 : w3.heap.size < w9.heap.size := lt_below hb9 ltg; have hl9_3 := Nat.le_of_lt hz9_3; have hA9 := bnext (w0 := w) bgo hb9; have hs9 := hA9.size; clear hb9))
  exact bodyPost_ret (v := .tuple #[A4 R, .int .i64 0]) (by simp only [results, Tryd.results17]; go_simp) rfl ⟨rfl, bgo⟩
set_option maxHeartbeats 4000000 in
theorem vpk3_fft (R : Nat) (R1 p : Nat)
    (cO : ∀ W, Calls Tryd.prog 24 #[.int .i64 n] W fun r w' => r = .returned (.tuple #[IDec n nm wd pr ex le mo pa true, .int .i64 0]) ∧ Below W.heap.size W w')
    (cI : ∀ W, Calls Tryd.prog 25 #[IDec n nm wd pr ex le mo pa true, DV 3 false false x k] W fun r w' => r = .returned (.bool true) ∧ Below W.heap.size W w')
    (cS : ∀ W, Calls Tryd.prog 26 #[IDec n nm wd pr ex le mo pa true] W fun r w' => r = .returned (.tuple #[.int .i64 G, .int .i64 T, .int .i64 J]) ∧ Below W.heap.size W w')
    (cL3 : ∀ W v, NV 1 31 v W → Calls Tryd.prog 27 #[Z4, v, .int .i64 (T + G - 5)] W fun r w' => r = .returned (A4 R1) ∧ Below W.heap.size W w')
    (hp : p < 2 ^ 256) (cP : ∀ W, Calls Tryd.prog 29 #[A4 k, .int .i64 J] W fun r w' => r = .returned (.tuple #[A4 p, .int .i64 0]) ∧ Below W.heap.size W w')
    (cL5 : ∀ W v, NV 4 p v W → Calls Tryd.prog 27 #[A4 R1, v, .int .i64 0] W fun r w' => r = .returned (A4 R) ∧ Below W.heap.size W w') :
    Calls Tryd.prog 17 #[.int .i64 n, DV 3 false false x k] w fun r w' => r = .returned (.tuple #[A4 R, .int .i64 0]) ∧ Below w.heap.size w w' := by
  have hsm := cell_set_map
  unfold DV A4 Z4 at *
  go_enter Tryd.func17, Tryd.ntmps17
  go_wp2_with (first
    | (go_at_call 13; refine (cD _).mono ?_; rintro r w0 ⟨rfl, rfl⟩)
    | (go_at_call 24; refine (cO _).mono ?_; rintro r w1 ⟨rfl, hb1⟩; obtain ⟨hc1, hf1⟩ := bcell hb1; have hz1_0 : w.heap.size < w1.heap.size := lt_below hb1 ltg; have hl1_0 := Nat.le_of_lt hz1_0; have hz1_1 : w.heap.size + 1 < w1.heap.size := lt_below hb1 ltg; have hl1_1 := Nat.le_of_lt hz1_1; have hA1 := bnext (w0 := w) bgo hb1; have hs1 := hA1.size; clear hb1)
    | (go_at_call 25; refine (cI _).mono ?_; rintro r w2 ⟨rfl, hb2⟩; obtain ⟨hc2, hf2⟩ := bcell hb2; have hz2_0 : w.heap.size < w2.heap.size := lt_below hb2 ltg; have hl2_0 := Nat.le_of_lt hz2_0; have hz2_1 : w.heap.size + 1 < w2.heap.size := lt_below hb2 ltg; have hl2_1 := Nat.le_of_lt hz2_1; have hz2_2 : w1.heap.size < w2.heap.size := lt_below hb2 ltg; have hl2_2 := Nat.le_of_lt hz2_2; have hA2 := bnext (w0 := w) bgo hb2; have hs2 := hA2.size; clear hb2)
    | (go_at_call 26; refine (cS _).mono ?_; rintro r w3 ⟨rfl, hb3⟩; obtain ⟨hc3, hf3⟩ := bcell hb3; have hz3_0 : w.heap.size < w3.heap.size := lt_below hb3 ltg; have hl3_0 := Nat.le_of_lt hz3_0; have hz3_1 : w.heap.size + 1 < w3.heap.size := lt_below hb3 ltg; have hl3_1 := Nat.le_of_lt hz3_1; have hz3_2 : w1.heap.size < w3.heap.size := lt_below hb3 ltg; have hl3_2 := Nat.le_of_lt hz3_2; have hA3 := bnext (w0 := w) bgo hb3; have hs3 := hA3.size; clear hb3; have q0 : w.heap.size < w3.heap.size + 1 + 1 := (by omega); have q1 : w.heap.size + 1 < w3.heap.size + 1 + 1 := (by omega); have q2 : w1.heap.size < w3.heap.size + 1 + 1 := (by omega); have q3 : w3.heap.size < w3.heap.size + 1 + 1 := (by omega))
    | (go_at_call 28; refine (cN _).mono ?_; rintro r w5 ⟨gn, nn, cn, rfl, hg5, hn5, hb5⟩; have hgn : gn ≠ w3.heap.size := (by first | omega | (simp at hg5; omega)); clear hg5; obtain ⟨hc5, hf5⟩ := bcell hb5; have hz5_0 : w.heap.size < w5.heap.size := lt_below hb5 ltg; have hl5_0 := Nat.le_of_lt hz5_0; have hz5_1 : w.heap.size + 1 < w5.heap.size := lt_below hb5 ltg; have hl5_1 := Nat.le_of_lt hz5_1; have hz5_2 : w1.heap.size < w5.heap.size := lt_below hb5 ltg; have hl5_2 := Nat.le_of_lt hz5_2; have hz5_3 : w3.heap.size < w5.heap.size := lt_below hb5 ltg; have hl5_3 := Nat.le_of_lt hz5_3; have hA5 := bnext (w0 := w) bgo hb5; have hs5 := hA5.size; clear hb5)
    | (go_at_call 27; refine (cL3 _ _ (nv_dec (by simp) (by rfl) (by decide))).mono ?_; rintro r w6 ⟨rfl, hb6⟩; clear cL3; obtain ⟨hc6, hf6⟩ := bcell hb6; have hz6_0 : w.heap.size < w6.heap.size := lt_below hb6 ltg; have hl6_0 := Nat.le_of_lt hz6_0; have hz6_1 : w.heap.size + 1 < w6.heap.size := lt_below hb6 ltg; have hl6_1 := Nat.le_of_lt hz6_1; have hz6_2 : w1.heap.size < w6.heap.size := lt_below hb6 ltg; have hl6_2 := Nat.le_of_lt hz6_2; have hz6_3 : w3.heap.size < w6.heap.size := lt_below hb6 ltg; have hl6_3 := Nat.le_of_lt hz6_3; have hA6 := bnext (w0 := w) bgo hb6; have hs6 := hA6.size; clear hb6)
    | (go_at_call 29; refine (cP _).mono ?_; rintro r w8 ⟨rfl, hb8⟩; obtain ⟨hc8, hf8⟩ := bcell hb8; have hz8_0 : w.heap.size < w8.heap.size := lt_below hb8 ltg; have hl8_0 := Nat.le_of_lt hz8_0; have hz8_1 : w.heap.size + 1 < w8.heap.size := lt_below hb8 ltg; have hl8_1 := Nat.le_of_lt hz8_1; have hz8_2 : w1.heap.size < w8.heap.size := lt_below hb8 ltg; have hl8_2 := Nat.le_of_lt hz8_2; have hz8_3 : w3.heap.size < w8.heap.size := lt_below hb8 ltg; have hl8_3 := Nat.le_of_lt hz8_3; have hA8 := bnext (w0 := w) bgo hb8; have hs8 := hA8.size; clear hb8)
    | (go_at_call 27; refine (cL5 _ _ (nv_cells hp (by simp) (by go_simp) (by go_simp) (by go_simp) (by go_simp))).mono ?_; rintro r w9 ⟨rfl, hb9⟩; obtain ⟨hc9, hf9⟩ := bcell hb9; have hz9_0 : w.heap.size < w9.heap.size := lt_below hb9 ltg; have hl9_0 := Nat.le_of_lt hz9_0; have hz9_1 : w.heap.size + 1 < w9.heap.size := lt_below hb9 ltg; have hl9_1 := Nat.le_of_lt hz9_1; have hz9_2 : w1.heap.size < w9.heap.size := lt_below hb9 ltg; have hl9_2 := Nat.le_of_lt hz9_2; have hz9_3 : w3.heap.size < w9.heap.size := lt_below hb9 ltg; have hl9_3 := Nat.le_of_lt hz9_3; have hA9 := bnext (w0 := w) bgo hb9; have hs9 := hA9.size; clear hb9))
  exact bodyPost_ret (v := .tuple #[A4 R, .int .i64 0]) (by simp only [results, Tryd.results17]; go_simp) rfl ⟨rfl, bgo⟩
set_option maxHeartbeats 4000000 in
theorem vpk3_fff (R : Nat) (R1 : Nat)
    (cO : ∀ W, Calls Tryd.prog 24 #[.int .i64 n] W fun r w' => r = .returned (.tuple #[IDec n nm wd pr ex le mo pa false, .int .i64 0]) ∧ Below W.heap.size W w')
    (cI : ∀ W, Calls Tryd.prog 25 #[IDec n nm wd pr ex le mo pa false, DV 3 false false x k] W fun r w' => r = .returned (.bool true) ∧ Below W.heap.size W w')
    (cS : ∀ W, Calls Tryd.prog 26 #[IDec n nm wd pr ex le mo pa false] W fun r w' => r = .returned (.tuple #[.int .i64 G, .int .i64 T, .int .i64 J]) ∧ Below W.heap.size W w')
    (cL3 : ∀ W v, NV 1 31 v W → Calls Tryd.prog 27 #[Z4, v, .int .i64 (T + G - 5)] W fun r w' => r = .returned (A4 R1) ∧ Below W.heap.size W w')
    (cL5 : ∀ W v, NV 4 k v W → Calls Tryd.prog 27 #[A4 R1, v, .int .i64 0] W fun r w' => r = .returned (A4 R) ∧ Below W.heap.size W w') :
    Calls Tryd.prog 17 #[.int .i64 n, DV 3 false false x k] w fun r w' => r = .returned (.tuple #[A4 R, .int .i64 0]) ∧ Below w.heap.size w w' := by
  have hsm := cell_set_map
  unfold DV A4 Z4 at *
  go_enter Tryd.func17, Tryd.ntmps17
  go_wp2_with (first
    | (go_at_call 13; refine (cD _).mono ?_; rintro r w0 ⟨rfl, rfl⟩)
    | (go_at_call 24; refine (cO _).mono ?_; rintro r w1 ⟨rfl, hb1⟩; obtain ⟨hc1, hf1⟩ := bcell hb1; have hz1_0 : w.heap.size < w1.heap.size := lt_below hb1 ltg; have hl1_0 := Nat.le_of_lt hz1_0; have hz1_1 : w.heap.size + 1 < w1.heap.size := lt_below hb1 ltg; have hl1_1 := Nat.le_of_lt hz1_1; have hA1 := bnext (w0 := w) bgo hb1; have hs1 := hA1.size; clear hb1)
    | (go_at_call 25; refine (cI _).mono ?_; rintro r w2 ⟨rfl, hb2⟩; obtain ⟨hc2, hf2⟩ := bcell hb2; have hz2_0 : w.heap.size < w2.heap.size := lt_below hb2 ltg; have hl2_0 := Nat.le_of_lt hz2_0; have hz2_1 : w.heap.size + 1 < w2.heap.size := lt_below hb2 ltg; have hl2_1 := Nat.le_of_lt hz2_1; have hz2_2 : w1.heap.size < w2.heap.size := lt_below hb2 ltg; have hl2_2 := Nat.le_of_lt hz2_2; have hA2 := bnext (w0 := w) bgo hb2; have hs2 := hA2.size; clear hb2)
    | (go_at_call 26; refine (cS _).mono ?_; rintro r w3 ⟨rfl, hb3⟩; obtain ⟨hc3, hf3⟩ := bcell hb3; have hz3_0 : w.heap.size < w3.heap.size := lt_below hb3 ltg; have hl3_0 := Nat.le_of_lt hz3_0; have hz3_1 : w.heap.size + 1 < w3.heap.size := lt_below hb3 ltg; have hl3_1 := Nat.le_of_lt hz3_1; have hz3_2 : w1.heap.size < w3.heap.size := lt_below hb3 ltg; have hl3_2 := Nat.le_of_lt hz3_2; have hA3 := bnext (w0 := w) bgo hb3; have hs3 := hA3.size; clear hb3; have q0 : w.heap.size < w3.heap.size + 1 + 1 := (by omega); have q1 : w.heap.size + 1 < w3.heap.size + 1 + 1 := (by omega); have q2 : w1.heap.size < w3.heap.size + 1 + 1 := (by omega); have q3 : w3.heap.size < w3.heap.size + 1 + 1 := (by omega))
    | (go_at_call 28; refine (cN _).mono ?_; rintro r w5 ⟨gn, nn, cn, rfl, hg5, hn5, hb5⟩; have hgn : gn ≠ w3.heap.size := (by first | omega | (simp at hg5; omega)); clear hg5; obtain ⟨hc5, hf5⟩ := bcell hb5; have hz5_0 : w.heap.size < w5.heap.size := lt_below hb5 ltg; have hl5_0 := Nat.le_of_lt hz5_0; have hz5_1 : w.heap.size + 1 < w5.heap.size := lt_below hb5 ltg; have hl5_1 := Nat.le_of_lt hz5_1; have hz5_2 : w1.heap.size < w5.heap.size := lt_below hb5 ltg; have hl5_2 := Nat.le_of_lt hz5_2; have hz5_3 : w3.heap.size < w5.heap.size := lt_below hb5 ltg; have hl5_3 := Nat.le_of_lt hz5_3; have hA5 := bnext (w0 := w) bgo hb5; have hs5 := hA5.size; clear hb5)
    | (go_at_call 27; refine (cL3 _ _ (nv_dec (by simp) (by rfl) (by decide))).mono ?_; rintro r w6 ⟨rfl, hb6⟩; clear cL3; have hn6 := ((hn5.next (below1 _ _)).next hb6).upd hgn (put4C_upd _ _ R1); obtain ⟨hc6, hf6⟩ := bcell hb6; have hz6_0 : w.heap.size < w6.heap.size := lt_below hb6 ltg; have hl6_0 := Nat.le_of_lt hz6_0; have hz6_1 : w.heap.size + 1 < w6.heap.size := lt_below hb6 ltg; have hl6_1 := Nat.le_of_lt hz6_1; have hz6_2 : w1.heap.size < w6.heap.size := lt_below hb6 ltg; have hl6_2 := Nat.le_of_lt hz6_2; have hz6_3 : w3.heap.size < w6.heap.size := lt_below hb6 ltg; have hl6_3 := Nat.le_of_lt hz6_3; have hA6 := bnext (w0 := w) bgo hb6; have hs6 := hA6.size; clear hb6)
    | (go_at_call 27; refine (cL5 _ _ hn6.nv).mono ?_; rintro r w9 ⟨rfl, hb9⟩; obtain ⟨hc9, hf9⟩ := bcell hb9; have hz9_0 : w.heap.size < w9.heap.size := lt_below hb9 ltg; have hl9_0 := Nat.le_of_lt hz9_0; have hz9_1 : w.heap.size + 1 < w9.heap.size := lt_below hb9 ltg; have hl9_1 := Nat.le_of_lt hz9_1; have hz9_2 : w1.heap.size < w9.heap.size := lt_below hb9 ltg; have hl9_2 := Nat.le_of_lt hz9_2; have hz9_3 : w3.heap.size < w9.heap.size := lt_below hb9 ltg; have hl9_3 := Nat.le_of_lt hz9_3; have hA9 := bnext (w0 := w) bgo hb9; have hs9 := hA9.size; clear hb9))
  exact bodyPost_ret (v := .tuple #[A4 R, .int .i64 0]) (by simp only [results, Tryd.results17]; go_simp) rfl ⟨rfl, bgo⟩
end
end
end Go.Proofs.YtehgnckgmdkfmaaDoor
