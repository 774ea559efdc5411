/-
  Texts that the proof leans on.
-/
import Derived.Test.YtpemdcnneabbfaaGreatDoorJ34
import Derived.StillTail
import Derived.Below
import Derived.WalkKit
import Derived.Deep.Cut
import Derived.Deep.CutRange
import Derived.Test.YtpemdcnneabbfaaGreatDoorJ3
set_option linter.unusedVariables false
set_option linter.unusedSectionVars false
set_option linter.unusedSimpArgs false
set_option maxRecDepth 20000
namespace Go.Proofs.YtpemdcnneabbfaaGreatDoor
open Go.RowKit
section
theorem pow_e' {e : Nat} (h15 : e ≤ 15) : (1 : Int) ≤ 2 ^ e ∧ (2 : Int) ^ e ≤ 32768 := by
  have b : (2 : Nat) ^ e ≤ 2 ^ 15 := Nat.pow_le_pow_right (by decide) h15
  have a : 1 ≤ 2 ^ e := Nat.one_le_two_pow
  have c : ((2 : Int) ^ e) = ((2 ^ e : Nat) : Int) := by simp
  rw [c]; omega
attribute [local irreducible] W4 NT NV
end
section
attribute [local irreducible] W4 NT NV
theorem rpow_nv (f : Nat) (w : World) (hf : f ≤ 12000) : Calls Tryz.prog 76 #[.int .u64 2, .int .i64 f] w fun x w' => ∃ r, x = .returned r ∧ NV 50000 (2 ^ f) r w' ∧ Below w.heap.size w w' := by
  refine (rpow_any 2 f w (by decide) (by omega)).mono ?_
  rintro x w' ⟨g, k, cap, z, rfl, hk, hN, hv, hb⟩
  refine ⟨_, rfl, ?_, hb⟩
  unfold NV
  exact ⟨g, k, cap, z, rfl, by omega, hN, by rw [hv]; simp⟩
theorem bin_more {n : Int} (h : binN n) : numN n = n ∧ denseN n = false := by
  rcases bin_cases h with rfl | rfl | rfl | rfl | rfl | rfl <;> exact ⟨by decide, by decide⟩
end
section
theorem nv_one {W : World} {g V : Nat} {vi : Int} (hg : g = W.heap.size) (hv : vi = (V : Int)) (hb : V < 18446744073709551616) : NV 1 V (.slice (some ⟨g, 0, none⟩) 1 1) (W.alloc (.cells #[.int .u64 vi] 23)) := by
  subst hg hv
  exact ⟨_, 1, 1, oneW V, rfl, Nat.le_refl _, num_one W V (by omega), val_one1 V⟩
theorem four_num {w : World} {g o k : Nat} (h : Four w g o k) (hg : g < w.heap.size) : Num w (some ⟨g, o, none⟩) 4 4 (lowW (W4 k) 4) := by
  refine ⟨Nat.le_refl _, by unfold maxLen; omega, lowW_words (W4_words k) 4, fun i hi => lowW_ge hi, Or.inr ⟨_, _, rfl, hg, fun i hi => ?_⟩⟩
  rw [lowW_lt hi]
  exact h.cell i hi
theorem rleft_off {g o k cap A : Nat} {z : Nat → Int} {w : World} (s : Nat) (hk : k < 1000) (hs : s ≤ 600) (hN : Num w (some ⟨g, o, none⟩) k cap z) (hv : val z k = (A : Int)) :
    Calls Tryz.prog 71 #[.slice (some ⟨g, o, none⟩) k cap, .int .i64 s] w fun e w' => ∃ v', e = .returned v' ∧ NV (k + 11) (A * 2 ^ s) v' w' ∧ Below w.heap.size w w' := by
  obtain ⟨q, hq⟩ : ∃ q : Nat, (s : Int) / 64 = q := ⟨((s : Int) / 64).toNat, by omega⟩
  obtain ⟨r, hr⟩ : ∃ r : Nat, (s : Int) % 64 = r := ⟨((s : Int) % 64).toNat, by omega⟩
  have hsn : s = 64 * q + r := by omega
  have hr6 : r < 64 := by omega
  have key : ∀ (w' : World) (g' k' cap' : Nat), k' ≤ k + q + 1 → Num w' (some ⟨g', 0, none⟩) k' cap' (finL z q r) → NV (k + 11) (A * 2 ^ s) (.slice (some ⟨g', 0, none⟩) k' cap') w' := fun w' g' k' cap' hk' hN' => by
    refine ⟨g', k', cap', _, rfl, by omega, hN', ?_⟩
    rw [← val_more hN'.2.2.2.1 (k + q + 1) hk', finL_val hN.2.2.1 hN.2.2.2.1 q hr6, hv, hsn]
    simp
  by_cases h0 : r = 0
  · subst h0
    refine (left_z g o k cap q s z w (by omega) (by omega) hq (by omega) (by omega) hN).mono ?_
    rintro e w' ⟨g', k', cap', rfl, hk', hN', hb⟩
    exact ⟨_, rfl, key w' g' k' cap' hk' hN', hb⟩
  · refine (left_p g o k cap q r s z w (by omega) (by omega) hr6 (by omega) hq hr (by omega) hN).mono ?_
    rintro e w' ⟨g', k', cap', rfl, hk', hN', hb⟩
    exact ⟨_, rfl, key w' g' k' cap' hk' hN', hb⟩
set_option maxHeartbeats 1000000 in
theorem lay_off (B A at_ k g o cap : Nat) (z : Nat → Int) (w : World) (hB : B < 2 ^ 256) (hK : k < 900) (ha : at_ ≤ 600) (hN : Num w (some ⟨g, o, none⟩) k cap z) (hv : val z k = (A : Int)) :
    Calls Tryz.prog 65 #[A4 B, .slice (some ⟨g, o, none⟩) k cap, .int .i64 at_] w fun e w' => e = .returned (A4 (B + A * 2 ^ at_)) ∧ Below w.heap.size w w' := by
  have c52 : ∀ W, Below w.heap.size w W → Calls Tryz.prog 71 #[.slice (some ⟨g, o, none⟩) k cap, .int .i64 at_] W fun e w' => ∃ v', e = .returned v' ∧ NV (k + 11) (A * 2 ^ at_) v' w' ∧ Below W.heap.size W w' := fun W hW => rleft_off at_ (by omega) ha (hN.next hW) hv
  clear hN
  go_enter Tryz.func65, Tryz.ntmps65
  go_wp2
  go_region_with (first
    | (go_at_call 71; refine (c52 _ bgo).mono ?_; rintro e w1 ⟨v1, rfl, hl, hb1⟩; have hbx := box_nv (w0 := w) (B := B) (t := 25) hB (bnext bgo hb1); obtain ⟨hc1, hf1⟩ := bcell hb1; have hz1_0 : w.heap.size < w1.heap.size := lt_below hb1 ltg; have hl1_0 := Nat.le_of_lt hz1_0; have hz1_1 : w.heap.size + 1 < w1.heap.size := lt_below hb1 ltg; have hl1_1 := Nat.le_of_lt hz1_1; have hA1 := bnext (w0 := w) bgo hb1; have hs1 := hA1.size; clear hb1)
    | (go_at_call 73; refine (radd_nv (by decide) (by omega) hbx hl).mono ?_; rintro e w2 ⟨v2, rfl, hs, hb2⟩; obtain ⟨hc2, hf2⟩ := bcell hb2; have hz2_0 : w.heap.size < w2.heap.size := lt_below hb2 ltg; have hl2_0 := Nat.le_of_lt hz2_0; have hz2_1 : w.heap.size + 1 < w2.heap.size := lt_below hb2 ltg; have hl2_1 := Nat.le_of_lt hz2_1; have hA2 := bnext (w0 := w) bgo hb2; have hs2 := hA2.size; clear hb2)
    | (go_at_call 37; refine (bits_nv hs).mono ?_; rintro e w3 ⟨rfl, hb3⟩; obtain ⟨hc3, hf3⟩ := bcell hb3; have hz3_0 : w.heap.size < w3.heap.size := lt_below hb3 ltg; have hl3_0 := Nat.le_of_lt hz3_0; have hz3_1 : w.heap.size + 1 < w3.heap.size := lt_below hb3 ltg; have hl3_1 := Nat.le_of_lt hz3_1; have hA3 := bnext (w0 := w) bgo hb3; have hs3 := hA3.size; clear hb3))
  have hsm := cell_set_map
  go_wp2
  exact bodyPost_ret (v := A4 (B + A * 2 ^ at_)) (by simp only [results, Tryz.results65]; go_simp) rfl ⟨rfl, bgo⟩
theorem set_far {g h : Nat} (hne : g ≠ h) (W : World) (i j : Nat) (v : Value) : (W.setCell ⟨g, j, none⟩ v).cell? ⟨h, i, none⟩ = W.cell? ⟨h, i, none⟩ :=
  World.cell?_setCell_other (h := fun q => hne (congrArg Addr.block q)) ..
theorem zeros4p {w : World} {g : Nat} {v : Value} (h0 : w.cell? ⟨g, 0, none⟩ = some v) (h1 : w.cell? ⟨g, 1, none⟩ = some v) (h2 : w.cell? ⟨g, 2, none⟩ = some v) (h3 : w.cell? ⟨g, 3, none⟩ = some v) : ∀ i, i < 4 → w.cell? ⟨g, i, none⟩ = some v := fun i hi => by
  have : i = 0 ∨ i = 1 ∨ i = 2 ∨ i = 3 := by omega
  rcases this with rfl | rfl | rfl | rfl <;> assumption
attribute [local irreducible] W4 NT NV
section
variable (n : Int) (nm : ByteArray) (wd : Int) (f e All R Bs : Nat) (l m : Int) (x : Int) (s g : Bool) (k : Nat) (w : World) (hf : 2 ≤ f ∧ f ≤ 240) (he : e ≤ 15) (hAll : (2 : Int) ^ e - 1 = (All : Int))
  (c35 : ∀ w, Calls Tryz.prog 14 #[.int .i64 n] w fun x w' => x = .returned (.bool true) ∧ w = w')
  (c25 : ∀ w, Calls Tryz.prog 28 #[.int .i64 n] w fun x w' => x = .returned (.tuple #[IV n nm wd f e l m, .int .i64 0]) ∧ Below w.heap.size w w')
  (cS : s = true → ∀ W v, NV 1 1 v W → Calls Tryz.prog 65 #[Z4, v, .int .i64 ((f : Int) + e)] W fun r w' => r = .returned (A4 Bs) ∧ Below W.heap.size W w')
  (hB0 : s = false → ∀ i, W4 Bs i = 0)
include hf he hAll c35 c25 cS hB0
set_option maxHeartbeats 2000000 in
theorem rpack2
  (c36 : ∀ w, Calls Tryz.prog 64 #[IV n nm wd f e l m, DV 2 s g x k] w fun r w' => r = .returned (.bool true) ∧ Below w.heap.size w w')
  (cA : ∀ W v, NV 1 All v W → Calls Tryz.prog 65 #[A4 Bs, v, .int .i64 f] W fun r w' => r = .returned (A4 R) ∧ Below W.heap.size W w') :
    Calls Tryz.prog 29 #[.int .i64 n, DV 2 s g x k] w fun r w' => r = .returned (.tuple #[A4 R, .int .i64 0]) ∧ Below w.heap.size w w' := by
  have hp := pow_e' he
  have hAb : All < 18446744073709551616 := by omega
  have hsm := cell_set_map
  go_enter Tryz.func29, Tryz.ntmps29
  go_upto_if 29 with (first
    | (go_at_call 14; refine (c35 _).mono ?_; rintro r w0 ⟨rfl, rfl⟩)
    | (go_at_call 28; refine (c25 _).mono ?_; rintro x w1 ⟨rfl, hb1⟩; obtain ⟨hc1, hf1⟩ := bcell hb1; have hz1_0 : w.heap.size < w1.heap.size := lt_below hb1 ltg; have hl1_0 := Nat.le_of_lt hz1_0; have hz1_1 : w.heap.size + 1 < w1.heap.size := lt_below hb1 ltg; have hl1_1 := Nat.le_of_lt hz1_1; have hA1 := bnext (w0 := w) bgo hb1; have hs1 := hA1.size; clear hb1)
    | (go_at_call 64; refine (c36 _).mono ?_; rintro x w2 ⟨rfl, hb2⟩; obtain ⟨hc2, hf2⟩ := bcell hb2; have hz2_0 : w.heap.size < w2.heap.size := lt_below hb2 ltg; have hl2_0 := Nat.le_of_lt hz2_0; have hz2_1 : w.heap.size + 1 < w2.heap.size := lt_below hb2 ltg; have hl2_1 := Nat.le_of_lt hz2_1; have hz2_2 : w1.heap.size < w2.heap.size := lt_below hb2 ltg; have hl2_2 := Nat.le_of_lt hz2_2; have hA2 := bnext (w0 := w) bgo hb2; have hs2 := hA2.size; clear hb2))
  have hn1 := set_far (Nat.ne_of_gt hz2_2)
  have hn0 := set_far (Nat.ne_of_gt hz2_0)
  have hn2 := set_far (Nat.ne_of_gt hz2_1)
  go_cut [] from 11 (fun wc => Four wc w2.heap.size 0 Bs ∧ Four wc w.heap.size 4 k ∧ (∀ i, i < 4 → wc.cell? ⟨w.heap.size + 1, i, none⟩ = some (.int .u64 0)) ∧ (∀ i, wc.frozen? ⟨w.heap.size + 1, i, none⟩ = false) ∧ (∀ i, wc.frozen? ⟨w2.heap.size, i, none⟩ = false)
      ∧ wc.cell? ⟨w.heap.size, 0, none⟩ = some (.int .i64 2) ∧ wc.cell? ⟨w.heap.size, 2, none⟩ = some (.bool g) ∧ wc.cell? ⟨w.heap.size, 3, none⟩ = some (.int .i64 x)
      ∧ wc.cell? ⟨w1.heap.size, 4, none⟩ = some (.int .i64 ((f : Int) + 1)) ∧ wc.cell? ⟨w1.heap.size, 5, none⟩ = some (.int .i64 e) ∧ wc.cell? ⟨w1.heap.size, 6, none⟩ = some (.int .i64 l) ∧ Below w.heap.size w wc ∧ w2.heap.size < wc.heap.size)
  case first =>
    cases s with
    | false =>
      have hB := hB0 rfl
      clear hB0 cS
      go_wp2
      go_meet
      exact ⟨.of (by rw [hB 0]; go_simp) (by rw [hB 1]; go_simp) (by rw [hB 2]; go_simp) (by rw [hB 3]; go_simp), .of (by go_simp) (by go_simp) (by go_simp) (by go_simp), zeros4p (by go_simp) (by go_simp) (by go_simp) (by go_simp), fun i => by go_simp, fun i => by go_simp, by go_simp, by go_simp, by go_simp, by go_simp, by go_simp, by go_simp, bgo, by simp; try omega⟩
    | true =>
      have hm0 : w.heap.size < w2.heap.size + 1 + 1 := by omega
      have hm1 : w1.heap.size < w2.heap.size + 1 + 1 := by omega
      have hm2 : w.heap.size < w2.heap.size + 2 := by omega
      have hm3 : w1.heap.size < w2.heap.size + 2 := by omega
      replace cS := cS rfl
      clear hB0
      go_wp2_with (go_at_call 65; refine (cS _ _ (nv_one (by simp) rfl (by decide))).mono ?_; rintro r w3 ⟨rfl, hb3⟩; obtain ⟨hc3, hf3⟩ := bcell hb3; have hz3_0 : w.heap.size < w3.heap.size := lt_below hb3 ltg; have hl3_0 := Nat.le_of_lt hz3_0; have hz3_1 : w.heap.size + 1 < w3.heap.size := lt_below hb3 ltg; have hl3_1 := Nat.le_of_lt hz3_1; have hz3_2 : w1.heap.size < w3.heap.size := lt_below hb3 ltg; have hl3_2 := Nat.le_of_lt hz3_2; have hz3_3 : w2.heap.size < w3.heap.size := lt_below hb3 ltg; have hl3_3 := Nat.le_of_lt hz3_3; have hA3 := bnext (w0 := w) bgo hb3; have hs3 := hA3.size; clear hb3)
      go_meet
      exact ⟨.of (by go_simp) (by go_simp) (by go_simp) (by go_simp), .of (by go_simp) (by go_simp) (by go_simp) (by go_simp), zeros4p (by go_simp) (by go_simp) (by go_simp) (by go_simp), fun i => by go_simp, fun i => by go_simp, by go_simp, by go_simp, by go_simp, by go_simp, by go_simp, by go_simp, bgo, by simp; try omega⟩
  case rest =>
    clear cS hB0
    have hcut0 := hcut
    obtain ⟨fB, fK, fz, fr4, fr9, d0, d2, d3, i4, i5, i6, hbw, hsz⟩ := hcut
    have hl0 : w.heap.size < wc.heap.size := by omega
    have hl1 : w.heap.size + 1 < wc.heap.size := by omega
    have hl2 : w1.heap.size < wc.heap.size := by omega
    have hle0 := Nat.le_of_lt hl0
    have hle1 := Nat.le_of_lt hl1
    have hle2 := Nat.le_of_lt hl2
    have hle3 := Nat.le_of_lt hsz
    have b0 := fB.cell 0 (by decide)
    have b1 := fB.cell 1 (by decide)
    have b2 := fB.cell 2 (by decide)
    have b3 := fB.cell 3 (by decide)
    have z0 := fz 0 (by decide)
    have z1 := fz 1 (by decide)
    have z2 := fz 2 (by decide)
    have z3 := fz 3 (by decide)
    have q0 := fK.cell 0 (by decide)
    have q1 := fK.cell 1 (by decide)
    have q2 := fK.cell 2 (by decide)
    have q3 := fK.cell 3 (by decide)
    simp only [Nat.zero_add, Nat.add_zero] at b0 b1 b2 b3
    simp only [Nat.reduceAdd] at q0 q1 q2 q3
    have hNk := four_num fK hl0
    go_wp2_with (go_at_call 65; refine (cA _ _ (nv_one (by simp) (by first | rfl | exact hAll) hAb)).mono ?_; rintro r w4 ⟨rfl, hb4⟩; obtain ⟨hc4, hf4⟩ := bcell hb4; have hz4_0 : w.heap.size < w4.heap.size := lt_below hb4 ltg; have hl4_0 := Nat.le_of_lt hz4_0; have hz4_1 : w.heap.size + 1 < w4.heap.size := lt_below hb4 ltg; have hl4_1 := Nat.le_of_lt hz4_1; have hz4_2 : w1.heap.size < w4.heap.size := lt_below hb4 ltg; have hl4_2 := Nat.le_of_lt hz4_2; have hz4_3 : w2.heap.size < w4.heap.size := lt_below hb4 ltg; have hl4_3 := Nat.le_of_lt hz4_3; have hA4 := bnext (w0 := w) bgo hb4; have hs4 := hA4.size; clear hb4)
    exact bodyPost_ret (v := .tuple #[A4 R, .int .i64 0]) (by simp only [results, Tryz.results29]; go_simp) rfl ⟨rfl, bgo⟩
end
end
end Go.Proofs.YtpemdcnneabbfaaGreatDoor
