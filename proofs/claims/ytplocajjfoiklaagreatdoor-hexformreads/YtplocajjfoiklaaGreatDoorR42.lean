/-
  Texts that the proof leans on, joined: Lr, Rp, Rp1, Rp3.
-/
import Derived.Test.YtplocajjfoiklaaGreatDoorR30
import Derived.Test.YtplocajjfoiklaaGreatDoorR41
import Derived.Deep.Cut
import Derived.Deep.CutRange
import Derived.Test.YtplocajjfoiklaaGreatDoorR1
set_option linter.unusedVariables false
set_option linter.unusedSectionVars false
set_option linter.unusedSimpArgs false
set_option maxHeartbeats 8000000
set_option maxRecDepth 20000
namespace Go.Proofs.YtplocajjfoiklaaGreatDoor
open Go.RowKit
section
structure Four (w : World) (g o k : Nat) : Prop where
 cell : ∀ i, i < 4 → w.cell? ⟨g, o + i, none⟩ = some (.int .u64 (W4 k i))
theorem Four.of {w : World} {g o k : Nat} (h0 : w.cell? ⟨g, o + 0, none⟩ = some (.int .u64 (W4 k 0))) (h1 : w.cell? ⟨g, o + 1, none⟩ = some (.int .u64 (W4 k 1))) (h2 : w.cell? ⟨g, o + 2, none⟩ = some (.int .u64 (W4 k 2))) (h3 : w.cell? ⟨g, o + 3, none⟩ = some (.int .u64 (W4 k 3))) : Four w g o k :=
 ⟨fun i hi => by
  have : i = 0 ∨ i = 1 ∨ i = 2 ∨ i = 3 := by omega
  rcases this with rfl | rfl | rfl | rfl <;> assumption⟩
theorem Four.next {w w' : World} {g o k : Nat} (h : Four w g o k) (hg : g < w.heap.size) (hb : Below w.heap.size w w') : Four w' g o k :=
 ⟨fun i hi => by rw [hb.cell (p := ⟨g, o + i, none⟩) hg]; exact h.cell i hi⟩
structure Dc (w : World) (g : Nat) (c : Int) (s b : Bool) (x : Int) (k : Nat) : Prop where
 c0 : w.cell? ⟨g, 0, none⟩ = some (.int .i64 c)
 c1 : w.cell? ⟨g, 1, none⟩ = some (.bool s)
 c2 : w.cell? ⟨g, 2, none⟩ = some (.bool b)
 c3 : w.cell? ⟨g, 3, none⟩ = some (.int .i64 x)
 c4 : w.cell? ⟨g, 4, none⟩ = some (.int .u64 (W4 k 0))
 c5 : w.cell? ⟨g, 5, none⟩ = some (.int .u64 (W4 k 1))
 c6 : w.cell? ⟨g, 6, none⟩ = some (.int .u64 (W4 k 2))
 c7 : w.cell? ⟨g, 7, none⟩ = some (.int .u64 (W4 k 3))
theorem Dc.next {w w' : World} {g : Nat} {c : Int} {s b : Bool} {x : Int} {k : Nat} (h : Dc w g c s b x k) (hg : g < w.heap.size) (hb : Below w.heap.size w w') : Dc w' g c s b x k :=
  ⟨by rw [hb.cell (p := ⟨g, 0, none⟩) hg, h.c0], by rw [hb.cell (p := ⟨g, 1, none⟩) hg, h.c1], by rw [hb.cell (p := ⟨g, 2, none⟩) hg, h.c2], by rw [hb.cell (p := ⟨g, 3, none⟩) hg, h.c3],
   by rw [hb.cell (p := ⟨g, 4, none⟩) hg, h.c4], by rw [hb.cell (p := ⟨g, 5, none⟩) hg, h.c5], by rw [hb.cell (p := ⟨g, 6, none⟩) hg, h.c6], by rw [hb.cell (p := ⟨g, 7, none⟩) hg, h.c7]⟩
def mo (A B i : Nat) : Bool := decide (val (W4 B) i < val (W4 A) i)
attribute [local irreducible] W4 mo
end
section
theorem nv_one {W : World} {g V : Nat} {vi : Int} (hg : g = W.heap.size) (hv : vi = (V : Int)) (hb : V < 18446744073709551616) : NV 1 V (.slice (some ⟨g, 0, none⟩) 1 1) (W.alloc (.cells #[.int .u64 vi] 22)) := by
 subst hg hv
 exact ⟨_, 1, 1, oneW V, rfl, Nat.le_refl _, num_one W V (by omega), val_one1 V⟩
theorem four_num {w : World} {g o k : Nat} (h : Four w g o k) (hg : g < w.heap.size) : Num w (some ⟨g, o, none⟩) 4 4 (lowW (W4 k) 4) := by
 refine ⟨Nat.le_refl _, by unfold maxLen; omega, lowW_words (W4_words k) 4, fun i hi => lowW_ge hi, Or.inr ⟨_, _, rfl, hg, fun i hi => ?_⟩⟩
 rw [lowW_lt hi]
 exact h.cell i hi
theorem rleft_off {g o k cap A : Nat} {z : Nat → Int} {w : World} (s : Nat) (hk : k < 1000) (hs : s ≤ 600) (hN : Num w (some ⟨g, o, none⟩) k cap z) (hv : val z k = (A : Int)) :
  Calls Tryz.prog 28 #[.slice (some ⟨g, o, none⟩) k cap, .int .i64 s] w fun e w' => ∃ v', e = .returned v' ∧ NV (k + 11) (A * 2 ^ s) v' w' ∧ Below w.heap.size w w' := by
 obtain ⟨q, hq⟩ : ∃ q : Nat, (s : Int) / 64 = q := ⟨((s : Int) / 64).toNat, by omega⟩
 obtain ⟨r, hr⟩ : ∃ r : Nat, (s : Int) % 64 = r := ⟨((s : Int) % 64).toNat, by omega⟩
 have hsn : s = 64 * q + r := by omega
 have hr6 : r < 64 := by omega
 have key : ∀ (w' : World) (g' k' cap' : Nat), k' ≤ k + q + 1 → Num w' (some ⟨g', 0, none⟩) k' cap' (finL z q r) → NV (k + 11) (A * 2 ^ s) (.slice (some ⟨g', 0, none⟩) k' cap') w' := fun w' g' k' cap' hk' hN' => by
  refine ⟨g', k', cap', _, rfl, by omega, hN', ?_⟩
  rw [← val_more hN'.2.2.2.1 (k + q + 1) hk', finL_val hN.2.2.1 hN.2.2.2.1 q hr6, hv, hsn]
  simp
 by_cases h0 : r = 0
 ·subst h0
  refine (left_z g o k cap q s z w (by omega) (by omega) hq (by omega) (by omega) hN).mono ?_
  rintro e w' ⟨g', k', cap', rfl, hk', hN', hb⟩
  exact ⟨_, rfl, key w' g' k' cap' hk' hN', hb⟩
 ·refine (left_p g o k cap q r s z w (by omega) (by omega) hr6 (by omega) hq hr (by omega) hN).mono ?_
  rintro e w' ⟨g', k', cap', rfl, hk', hN', hb⟩
  exact ⟨_, rfl, key w' g' k' cap' hk' hN', hb⟩
theorem lay_off (B A at_ k g o cap : Nat) (z : Nat → Int) (w : World) (hB : B < 2 ^ 256) (hK : k < 900) (ha : at_ ≤ 600) (hN : Num w (some ⟨g, o, none⟩) k cap z) (hv : val z k = (A : Int)) :
  Calls Tryz.prog 153 #[A4 B, .slice (some ⟨g, o, none⟩) k cap, .int .i64 at_] w fun e w' => e = .returned (A4 (B + A * 2 ^ at_)) ∧ Below w.heap.size w w' := by
 have c52 : ∀ W, Below w.heap.size w W → Calls Tryz.prog 28 #[.slice (some ⟨g, o, none⟩) k cap, .int .i64 at_] W fun e w' => ∃ v', e = .returned v' ∧ NV (k + 11) (A * 2 ^ at_) v' w' ∧ Below W.heap.size W w' := fun W hW => rleft_off at_ (by omega) ha (hN.next hW) hv
 clear hN
 go_enter Tryz.func153, Tryz.ntmps153
 go_wp2
 go_region_with (first
  | (go_at_call 28; refine (c52 _ bgo).mono ?_; rintro e w1 ⟨v1, rfl, hl, hb1⟩; have hbx := box_nv (w0 := w) (B := B) (t := 24) hB (bnext bgo hb1); obtain ⟨hc1, hf1, hz1_0, hl1_0, hA1, hs1⟩ := wz w hb1 w.heap.size; obtain ⟨hz1_1, hl1_1⟩ := zf hb1 (w.heap.size + 1); clear hb1)
  | (go_at_call 44; refine (radd_nv (by decide) (by omega) hbx hl).mono ?_; rintro e w2 ⟨v2, rfl, hs, hb2⟩; obtain ⟨hc2, hf2, hz2_0, hl2_0, hA2, hs2⟩ := wz w hb2 w.heap.size; obtain ⟨hz2_1, hl2_1⟩ := zf hb2 (w.heap.size + 1); clear hb2)
  | (go_at_call 60; refine (bits_nv hs).mono ?_; rintro e w3 ⟨rfl, hb3⟩; obtain ⟨hc3, hf3, hz3_0, hl3_0, hA3, hs3⟩ := wz w hb3 w.heap.size; obtain ⟨hz3_1, hl3_1⟩ := zf hb3 (w.heap.size + 1); clear hb3))
 have hsm := cell_set_map
 go_wp2
 exact bodyPost_ret (v := A4 (B + A * 2 ^ at_)) (by simp only [results, Tryz.results153]; go_simp) rfl ⟨rfl, bgo⟩
theorem set_far {g h : Nat} (hne : g ≠ h) (W : World) (i j : Nat) (v : Value) : (W.setCell ⟨g, j, none⟩ v).cell? ⟨h, i, none⟩ = W.cell? ⟨h, i, none⟩ :=
 World.cell?_setCell_other (h := fun q => hne (congrArg Addr.block q)) ..
theorem zeros4p {w : World} {g : Nat} {v : Value} (h0 : w.cell? ⟨g, 0, none⟩ = some v) (h1 : w.cell? ⟨g, 1, none⟩ = some v) (h2 : w.cell? ⟨g, 2, none⟩ = some v) (h3 : w.cell? ⟨g, 3, none⟩ = some v) : ∀ i, i < 4 → w.cell? ⟨g, i, none⟩ = some v := fun i hi => by
 have : i = 0 ∨ i = 1 ∨ i = 2 ∨ i = 3 := by omega
 rcases this with rfl | rfl | rfl | rfl <;> assumption
attribute [local irreducible] W4 NT NV
section
variable (n : Int) (nm : ByteArray) (wd : Int) (f e All R Bs : Nat) (l m : Int) (x : Int) (s g : Bool) (k : Nat) (w : World) (hf : 2 ≤ f ∧ f ≤ 240) (he : e ≤ 15) (hAll : (2 : Int) ^ e - 1 = (All : Int))
 (c35 : ∀ w, Calls Tryz.prog 14 #[.int .i64 n] w fun x w' => x = .returned (.bool true) ∧ w = w')
 (c25 : ∀ w, Calls Tryz.prog 58 #[.int .i64 n] w fun x w' => x = .returned (.tuple #[IV n nm wd f e l m, .int .i64 0]) ∧ Below w.heap.size w w')
 (cS : s = true → ∀ W v, NV 1 1 v W → Calls Tryz.prog 153 #[Z4, v, .int .i64 ((f : Int) + e)] W fun r w' => r = .returned (A4 Bs) ∧ Below W.heap.size W w')
 (hB0 : s = false → ∀ i, W4 Bs i = 0)
include hf he hAll c35 c25 cS hB0
theorem rpack2
 (c36 : ∀ w, Calls Tryz.prog 152 #[IV n nm wd f e l m, DV 2 s g x k] w fun r w' => r = .returned (.bool true) ∧ Below w.heap.size w w')
 (cA : ∀ W v, NV 1 All v W → Calls Tryz.prog 153 #[A4 Bs, v, .int .i64 f] W fun r w' => r = .returned (A4 R) ∧ Below W.heap.size W w') :
  Calls Tryz.prog 96 #[.int .i64 n, DV 2 s g x k] w fun r w' => r = .returned (.tuple #[A4 R, .int .i64 0]) ∧ Below w.heap.size w w' := by
 have hp := pow_e' he
 have hAb : All < 18446744073709551616 := by omega
 have hsm := cell_set_map
 go_enter Tryz.func96, Tryz.ntmps96
 go_upto_if 29 with (first
  | (go_at_call 14; refine (c35 _).mono ?_; rintro r w0 ⟨rfl, rfl⟩)
  | (go_at_call 58; refine (c25 _).mono ?_; rintro x w1 ⟨rfl, hb1⟩; obtain ⟨hc1, hf1, hz1_0, hl1_0, hA1, hs1⟩ := wz w hb1 w.heap.size; obtain ⟨hz1_1, hl1_1⟩ := zf hb1 (w.heap.size + 1); clear hb1)
  | (go_at_call 152; refine (c36 _).mono ?_; rintro x w2 ⟨rfl, hb2⟩; obtain ⟨hc2, hf2, hz2_0, hl2_0, hA2, hs2⟩ := wz w hb2 w.heap.size; obtain ⟨hz2_1, hl2_1⟩ := zf hb2 (w.heap.size + 1); obtain ⟨hz2_2, hl2_2⟩ := zf hb2 w1.heap.size; clear hb2))
 have hn1 := set_far (Nat.ne_of_gt hz2_2)
 have hn0 := set_far (Nat.ne_of_gt hz2_0)
 have hn2 := set_far (Nat.ne_of_gt hz2_1)
 go_cut [] from 11 (fun wc => Four wc w2.heap.size 0 Bs ∧ Four wc w.heap.size 4 k ∧ (∀ i, i < 4 → wc.cell? ⟨w.heap.size + 1, i, none⟩ = some (.int .u64 0)) ∧ (∀ i, wc.frozen? ⟨w.heap.size + 1, i, none⟩ = false) ∧ (∀ i, wc.frozen? ⟨w2.heap.size, i, none⟩ = false)
   ∧ wc.cell? ⟨w.heap.size, 0, none⟩ = some (.int .i64 2) ∧ wc.cell? ⟨w.heap.size, 2, none⟩ = some (.bool g) ∧ wc.cell? ⟨w.heap.size, 3, none⟩ = some (.int .i64 x)
   ∧ wc.cell? ⟨w1.heap.size, 4, none⟩ = some (.int .i64 ((f : Int) + 1)) ∧ wc.cell? ⟨w1.heap.size, 5, none⟩ = some (.int .i64 e) ∧ wc.cell? ⟨w1.heap.size, 6, none⟩ = some (.int .i64 l) ∧ Below w.heap.size w wc ∧ w2.heap.size < wc.heap.size)
 case first =>
  cases s with
  | false =>
   have hB := hB0 rfl
   clear hB0 cS
   go_wp2
   go_meet
   exact ⟨.of (by rw [hB 0]; go_simp) (by rw [hB 1]; go_simp) (by rw [hB 2]; go_simp) (by rw [hB 3]; go_simp), .of (by go_simp) (by go_simp) (by go_simp) (by go_simp), zeros4p (by go_simp) (by go_simp) (by go_simp) (by go_simp), fun i => by go_simp, fun i => by go_simp, by go_simp, by go_simp, by go_simp, by go_simp, by go_simp, by go_simp, bgo, by simp; try omega⟩
  | true =>
   have hm0 : w.heap.size < w2.heap.size + 1 + 1 := by omega
   have hm1 : w1.heap.size < w2.heap.size + 1 + 1 := by omega
   have hm2 : w.heap.size < w2.heap.size + 2 := by omega
   have hm3 : w1.heap.size < w2.heap.size + 2 := by omega
   replace cS := cS rfl
   clear hB0
   go_wp2_with (go_at_call 153; refine (cS _ _ (nv_one (by simp) rfl (by decide))).mono ?_; rintro r w3 ⟨rfl, hb3⟩; obtain ⟨hc3, hf3, hz3_0, hl3_0, hA3, hs3⟩ := wz w hb3 w.heap.size; obtain ⟨hz3_1, hl3_1⟩ := zf hb3 (w.heap.size + 1); obtain ⟨hz3_2, hl3_2⟩ := zf hb3 w1.heap.size; obtain ⟨hz3_3, hl3_3⟩ := zf hb3 w2.heap.size; clear hb3)
   go_meet
   exact ⟨.of (by go_simp) (by go_simp) (by go_simp) (by go_simp), .of (by go_simp) (by go_simp) (by go_simp) (by go_simp), zeros4p (by go_simp) (by go_simp) (by go_simp) (by go_simp), fun i => by go_simp, fun i => by go_simp, by go_simp, by go_simp, by go_simp, by go_simp, by go_simp, by go_simp, bgo, by simp; try omega⟩
 case rest =>
  clear cS hB0
  have hcut0 := hcut
  obtain ⟨fB, fK, fz, fr4, fr9, d0, d2, d3, i4, i5, i6, hbw, hsz⟩ := hcut
  have hl0 : w.heap.size < wc.heap.size := by omega
  have hl1 : w.heap.size + 1 < wc.heap.size := by omega
  have hl2 : w1.heap.size < wc.heap.size := by omega
  have hle0 := Nat.le_of_lt hl0
  have hle1 := Nat.le_of_lt hl1
  have hle2 := Nat.le_of_lt hl2
  have hle3 := Nat.le_of_lt hsz
  have b0 := fB.cell 0 (by decide)
  have b1 := fB.cell 1 (by decide)
  have b2 := fB.cell 2 (by decide)
  have b3 := fB.cell 3 (by decide)
  have z0 := fz 0 (by decide)
  have z1 := fz 1 (by decide)
  have z2 := fz 2 (by decide)
  have z3 := fz 3 (by decide)
  have q0 := fK.cell 0 (by decide)
  have q1 := fK.cell 1 (by decide)
  have q2 := fK.cell 2 (by decide)
  have q3 := fK.cell 3 (by decide)
  simp only [Nat.zero_add, Nat.add_zero] at b0 b1 b2 b3
  simp only [Nat.reduceAdd] at q0 q1 q2 q3
  have hNk := four_num fK hl0
  go_wp2_with (go_at_call 153; refine (cA _ _ (nv_one (by simp) (by first | rfl | exact hAll) hAb)).mono ?_; rintro r w4 ⟨rfl, hb4⟩; obtain ⟨hc4, hf4, hz4_0, hl4_0, hA4, hs4⟩ := wz w hb4 w.heap.size; obtain ⟨hz4_1, hl4_1⟩ := zf hb4 (w.heap.size + 1); obtain ⟨hz4_2, hl4_2⟩ := zf hb4 w1.heap.size; obtain ⟨hz4_3, hl4_3⟩ := zf hb4 w2.heap.size; clear hb4)
  exact bodyPost_ret (v := .tuple #[A4 R, .int .i64 0]) (by simp only [results, Tryz.results96]; go_simp) rfl ⟨rfl, bgo⟩
end
end
section
attribute [local irreducible] W4 NT NV
section
variable (n : Int) (nm : ByteArray) (wd : Int) (f e All R Bs : Nat) (l m : Int) (x : Int) (s g : Bool) (k : Nat) (w : World) (hf : 2 ≤ f ∧ f ≤ 240) (he : e ≤ 15) (hAll : (2 : Int) ^ e - 1 = (All : Int))
 (c35 : ∀ w, Calls Tryz.prog 14 #[.int .i64 n] w fun x w' => x = .returned (.bool true) ∧ w = w')
 (c25 : ∀ w, Calls Tryz.prog 58 #[.int .i64 n] w fun x w' => x = .returned (.tuple #[IV n nm wd f e l m, .int .i64 0]) ∧ Below w.heap.size w w')
 (cS : s = true → ∀ W v, NV 1 1 v W → Calls Tryz.prog 153 #[Z4, v, .int .i64 ((f : Int) + e)] W fun r w' => r = .returned (A4 Bs) ∧ Below W.heap.size W w')
 (hB0 : s = false → ∀ i, W4 Bs i = 0)
include hf he hAll c35 c25 cS hB0
theorem rpack1
 (c36 : ∀ w, Calls Tryz.prog 152 #[IV n nm wd f e l m, DV 1 s g x k] w fun r w' => r = .returned (.bool true) ∧ Below w.heap.size w w')
 (B1 Fr X : Nat) (L : Int) (hl : -1000000 ≤ l ∧ l ≤ 1000000) (hxl : l ≤ x ∧ x ≤ l + 1000000) (hX : x - l + 1 = (X : Int))
 (c38 : ∀ W, Num W (some ⟨w.heap.size, 4, none⟩) 4 4 (lowW (W4 k) 4) → Calls Tryz.prog 26 #[.slice (some ⟨w.heap.size, 4, none⟩) 4 4] W fun e w' => e = .returned (.int .i64 L) ∧ W = w')
 (cK : L < (f : Int) + 1 → ∀ W, Num W (some ⟨w.heap.size, 4, none⟩) 4 4 (lowW (W4 k) 4) → Calls Tryz.prog 153 #[A4 Bs, .slice (some ⟨w.heap.size, 4, none⟩) 4 4, .int .i64 0] W fun r w' => r = .returned (A4 R) ∧ Below W.heap.size W w')
 (c26 : ∀ W, Calls Tryz.prog 27 #[A4 k, .int .i64 0, .int .i64 f] W fun e w' => ∃ r, e = .returned r ∧ NV 19 Fr r w' ∧ Below W.heap.size W w')
 (cF : ∀ W v, NV 19 Fr v W → Calls Tryz.prog 153 #[A4 Bs, v, .int .i64 0] W fun r w' => r = .returned (A4 B1) ∧ Below W.heap.size W w')
 (cE : ¬ L < (f : Int) + 1 → ∀ W v, NV 1 X v W → Calls Tryz.prog 153 #[A4 B1, v, .int .i64 f] W fun r w' => r = .returned (A4 R) ∧ Below W.heap.size W w') :
  Calls Tryz.prog 96 #[.int .i64 n, DV 1 s g x k] w fun r w' => r = .returned (.tuple #[A4 R, .int .i64 0]) ∧ Below w.heap.size w w' := by
 have hp := pow_e' he
 have hAb : All < 18446744073709551616 := by omega
 have hsm := cell_set_map
 go_enter Tryz.func96, Tryz.ntmps96
 go_upto_if 29 with (first
  | (go_at_call 14; refine (c35 _).mono ?_; rintro r w0 ⟨rfl, rfl⟩)
  | (go_at_call 58; refine (c25 _).mono ?_; rintro x w1 ⟨rfl, hb1⟩; obtain ⟨hc1, hf1, hz1_0, hl1_0, hA1, hs1⟩ := wz w hb1 w.heap.size; obtain ⟨hz1_1, hl1_1⟩ := zf hb1 (w.heap.size + 1); clear hb1)
  | (go_at_call 152; refine (c36 _).mono ?_; rintro x w2 ⟨rfl, hb2⟩; obtain ⟨hc2, hf2, hz2_0, hl2_0, hA2, hs2⟩ := wz w hb2 w.heap.size; obtain ⟨hz2_1, hl2_1⟩ := zf hb2 (w.heap.size + 1); obtain ⟨hz2_2, hl2_2⟩ := zf hb2 w1.heap.size; clear hb2))
 have hn1 := set_far (Nat.ne_of_gt hz2_2)
 have hn0 := set_far (Nat.ne_of_gt hz2_0)
 have hn2 := set_far (Nat.ne_of_gt hz2_1)
 go_cut [] from 11 (fun wc => Four wc w2.heap.size 0 Bs ∧ Four wc w.heap.size 4 k ∧ (∀ i, i < 4 → wc.cell? ⟨w.heap.size + 1, i, none⟩ = some (.int .u64 0)) ∧ (∀ i, wc.frozen? ⟨w.heap.size + 1, i, none⟩ = false) ∧ (∀ i, wc.frozen? ⟨w2.heap.size, i, none⟩ = false)
   ∧ wc.cell? ⟨w.heap.size, 0, none⟩ = some (.int .i64 1) ∧ wc.cell? ⟨w.heap.size, 2, none⟩ = some (.bool g) ∧ wc.cell? ⟨w.heap.size, 3, none⟩ = some (.int .i64 x)
   ∧ wc.cell? ⟨w1.heap.size, 4, none⟩ = some (.int .i64 ((f : Int) + 1)) ∧ wc.cell? ⟨w1.heap.size, 5, none⟩ = some (.int .i64 e) ∧ wc.cell? ⟨w1.heap.size, 6, none⟩ = some (.int .i64 l) ∧ Below w.heap.size w wc ∧ w2.heap.size < wc.heap.size)
 case first =>
  cases s with
  | false =>
   have hB := hB0 rfl
   clear hB0 cS
   go_wp2
   go_meet
   exact ⟨.of (by rw [hB 0]; go_simp) (by rw [hB 1]; go_simp) (by rw [hB 2]; go_simp) (by rw [hB 3]; go_simp), .of (by go_simp) (by go_simp) (by go_simp) (by go_simp), zeros4p (by go_simp) (by go_simp) (by go_simp) (by go_simp), fun i => by go_simp, fun i => by go_simp, by go_simp, by go_simp, by go_simp, by go_simp, by go_simp, by go_simp, bgo, by simp; try omega⟩
  | true =>
   have hm0 : w.heap.size < w2.heap.size + 1 + 1 := by omega
   have hm1 : w1.heap.size < w2.heap.size + 1 + 1 := by omega
   have hm2 : w.heap.size < w2.heap.size + 2 := by omega
   have hm3 : w1.heap.size < w2.heap.size + 2 := by omega
   replace cS := cS rfl
   clear hB0
   go_wp2_with (go_at_call 153; refine (cS _ _ (nv_one (by simp) rfl (by decide))).mono ?_; rintro r w3 ⟨rfl, hb3⟩; obtain ⟨hc3, hf3, hz3_0, hl3_0, hA3, hs3⟩ := wz w hb3 w.heap.size; obtain ⟨hz3_1, hl3_1⟩ := zf hb3 (w.heap.size + 1); obtain ⟨hz3_2, hl3_2⟩ := zf hb3 w1.heap.size; obtain ⟨hz3_3, hl3_3⟩ := zf hb3 w2.heap.size; clear hb3)
   go_meet
   exact ⟨.of (by go_simp) (by go_simp) (by go_simp) (by go_simp), .of (by go_simp) (by go_simp) (by go_simp) (by go_simp), zeros4p (by go_simp) (by go_simp) (by go_simp) (by go_simp), fun i => by go_simp, fun i => by go_simp, by go_simp, by go_simp, by go_simp, by go_simp, by go_simp, by go_simp, bgo, by simp; try omega⟩
 case rest =>
  clear cS hB0
  have hcut0 := hcut
  obtain ⟨fB, fK, fz, fr4, fr9, d0, d2, d3, i4, i5, i6, hbw, hsz⟩ := hcut
  have hl0 : w.heap.size < wc.heap.size := by omega
  have hl1 : w.heap.size + 1 < wc.heap.size := by omega
  have hl2 : w1.heap.size < wc.heap.size := by omega
  have hle0 := Nat.le_of_lt hl0
  have hle1 := Nat.le_of_lt hl1
  have hle2 := Nat.le_of_lt hl2
  have hle3 := Nat.le_of_lt hsz
  have b0 := fB.cell 0 (by decide)
  have b1 := fB.cell 1 (by decide)
  have b2 := fB.cell 2 (by decide)
  have b3 := fB.cell 3 (by decide)
  have z0 := fz 0 (by decide)
  have z1 := fz 1 (by decide)
  have z2 := fz 2 (by decide)
  have z3 := fz 3 (by decide)
  have q0 := fK.cell 0 (by decide)
  have q1 := fK.cell 1 (by decide)
  have q2 := fK.cell 2 (by decide)
  have q3 := fK.cell 3 (by decide)
  simp only [Nat.zero_add, Nat.add_zero] at b0 b1 b2 b3
  simp only [Nat.reduceAdd] at q0 q1 q2 q3
  have hNk := four_num fK hl0
  go_upto_region 19 with fail
  go_cut [74] from 11 (fun t wx => t = .bool (decide (L < (f : Int) + 1)) ∧ Four wx w2.heap.size 0 Bs ∧ Four wx w.heap.size 4 k ∧ (∀ i, i < 4 → wx.cell? ⟨w.heap.size + 1, i, none⟩ = some (.int .u64 0)) ∧ (∀ i, wx.frozen? ⟨w.heap.size + 1, i, none⟩ = false) ∧ (∀ i, wx.frozen? ⟨w2.heap.size, i, none⟩ = false)
   ∧ wx.cell? ⟨w.heap.size, 0, none⟩ = some (.int .i64 1) ∧ wx.cell? ⟨w.heap.size, 2, none⟩ = some (.bool g) ∧ wx.cell? ⟨w.heap.size, 3, none⟩ = some (.int .i64 x)
   ∧ wx.cell? ⟨w1.heap.size, 4, none⟩ = some (.int .i64 ((f : Int) + 1)) ∧ wx.cell? ⟨w1.heap.size, 5, none⟩ = some (.int .i64 e) ∧ wx.cell? ⟨w1.heap.size, 6, none⟩ = some (.int .i64 l) ∧ Below w.heap.size w wx ∧ w2.heap.size < wx.heap.size)
  case first =>
   go_region_with (go_at_call 26; refine (c38 _ (hNk.next bgo)).mono ?_; rintro r w4 ⟨rfl, rfl⟩)
   all_goals (
    go_wp2_with fail
    go_meet
    exact ⟨rfl, .of (by go_simp) (by go_simp) (by go_simp) (by go_simp), .of (by go_simp) (by go_simp) (by go_simp) (by go_simp), zeros4p (by go_simp) (by go_simp) (by go_simp) (by go_simp), fun i => by go_simp, fun i => by go_simp, by go_simp, by go_simp, by go_simp, by go_simp, by go_simp, by go_simp, bgo, by simp; try omega⟩)
  case rest =>
   clear hcut0
   clear fB fK fz fr4 fr9 d0 d2 d3 i4 i5 i6 hbw hsz hl0 hl1 hl2 hle0 hle1 hle2 hle3 b0 b1 b2 b3 z0 z1 z2 z3 q0 q1 q2 q3 hNk
   obtain ⟨ht, hcut⟩ := hcut
   obtain ⟨fB, fK, fz, fr4, fr9, d0, d2, d3, i4, i5, i6, hbw, hsz⟩ := hcut
   have hl0 : w.heap.size < wc.heap.size := by omega
   have hl1 : w.heap.size + 1 < wc.heap.size := by omega
   have hl2 : w1.heap.size < wc.heap.size := by omega
   have hle0 := Nat.le_of_lt hl0
   have hle1 := Nat.le_of_lt hl1
   have hle2 := Nat.le_of_lt hl2
   have hle3 := Nat.le_of_lt hsz
   have b0 := fB.cell 0 (by decide)
   have b1 := fB.cell 1 (by decide)
   have b2 := fB.cell 2 (by decide)
   have b3 := fB.cell 3 (by decide)
   have z0 := fz 0 (by decide)
   have z1 := fz 1 (by decide)
   have z2 := fz 2 (by decide)
   have z3 := fz 3 (by decide)
   have q0 := fK.cell 0 (by decide)
   have q1 := fK.cell 1 (by decide)
   have q2 := fK.cell 2 (by decide)
   have q3 := fK.cell 3 (by decide)
   simp only [Nat.zero_add, Nat.add_zero] at b0 b1 b2 b3
   simp only [Nat.reduceAdd] at q0 q1 q2 q3
   have hNk := four_num fK hl0
   by_cases hL : L < (f : Int) + 1
   ·rw [decide_eq_true hL] at ht
    subst ht
    replace cK := cK hL
    clear cE
    have hds : ∀ W : World, W.drew.heap.size = W.heap.size := fun W => by simp
    go_wp2
    go_region_with (go_at_call 153; refine (cK _ (hNk.next bgo)).mono ?_; rintro r w5 ⟨rfl, hb5⟩; obtain ⟨hc5, hf5, hz5_0, hl5_0, hA5, hs5⟩ := wz w hb5 w.heap.size; obtain ⟨hz5_1, hl5_1⟩ := zf hb5 (w.heap.size + 1); obtain ⟨hz5_2, hl5_2⟩ := zf hb5 w1.heap.size; obtain ⟨hz5_3, hl5_3⟩ := zf hb5 w2.heap.size; clear hb5)
    all_goals (
     go_wp2_with fail
     exact bodyPost_ret (v := .tuple #[A4 R, .int .i64 0]) (by simp only [results, Tryz.results96]; go_simp) rfl ⟨rfl, bgo⟩)
   ·rw [decide_eq_false hL] at ht
    subst ht
    replace cE := cE (by omega)
    clear cK
    have hds : ∀ W : World, W.drew.heap.size = W.heap.size := fun W => by simp
    go_upto_region 21 with fail
    go_cut [] from 11 (fun wx => Four wx w2.heap.size 0 B1 ∧ Four wx w.heap.size 4 k ∧ (∀ i, i < 4 → wx.cell? ⟨w.heap.size + 1, i, none⟩ = some (.int .u64 0)) ∧ (∀ i, wx.frozen? ⟨w.heap.size + 1, i, none⟩ = false) ∧ (∀ i, wx.frozen? ⟨w2.heap.size, i, none⟩ = false)
   ∧ wx.cell? ⟨w.heap.size, 0, none⟩ = some (.int .i64 1) ∧ wx.cell? ⟨w.heap.size, 2, none⟩ = some (.bool g) ∧ wx.cell? ⟨w.heap.size, 3, none⟩ = some (.int .i64 x)
   ∧ wx.cell? ⟨w1.heap.size, 4, none⟩ = some (.int .i64 ((f : Int) + 1)) ∧ wx.cell? ⟨w1.heap.size, 5, none⟩ = some (.int .i64 e) ∧ wx.cell? ⟨w1.heap.size, 6, none⟩ = some (.int .i64 l) ∧ Below w.heap.size w wx ∧ w2.heap.size < wx.heap.size)
    case first =>
     go_region_with (first
      | (go_at_call 27; refine (c26 _).mono ?_; rintro r w5 ⟨v5, rfl, hv5, hb5⟩; obtain ⟨hc5, hf5, hz5_0, hl5_0, hA5, hs5⟩ := wz w hb5 w.heap.size; obtain ⟨hz5_1, hl5_1⟩ := zf hb5 (w.heap.size + 1); obtain ⟨hz5_2, hl5_2⟩ := zf hb5 w1.heap.size; obtain ⟨hz5_3, hl5_3⟩ := zf hb5 w2.heap.size; clear hb5)
      | (go_at_call 153; refine (cF _ _ hv5).mono ?_; rintro r w6 ⟨rfl, hb6⟩; obtain ⟨hc6, hf6, hz6_0, hl6_0, hA6, hs6⟩ := wz w hb6 w.heap.size; obtain ⟨hz6_1, hl6_1⟩ := zf hb6 (w.heap.size + 1); obtain ⟨hz6_2, hl6_2⟩ := zf hb6 w1.heap.size; obtain ⟨hz6_3, hl6_3⟩ := zf hb6 w2.heap.size; clear hb6))
     all_goals (
      go_wp2_with fail
      go_meet
      exact ⟨.of (by go_simp) (by go_simp) (by go_simp) (by go_simp), .of (by go_simp) (by go_simp) (by go_simp) (by go_simp), zeros4p (by go_simp) (by go_simp) (by go_simp) (by go_simp), fun i => by go_simp, fun i => by go_simp, by go_simp, by go_simp, by go_simp, by go_simp, by go_simp, by go_simp, bgo, by simp; try omega⟩)
    case rest =>
     clear fB fK fz fr4 fr9 d0 d2 d3 i4 i5 i6 hbw hsz hl0 hl1 hl2 hle0 hle1 hle2 hle3 b0 b1 b2 b3 z0 z1 z2 z3 q0 q1 q2 q3 hNk
     obtain ⟨fB, fK, fz, fr4, fr9, d0, d2, d3, i4, i5, i6, hbw, hsz⟩ := hcut
     have hl0 : w.heap.size < wc.heap.size := by omega
     have hl1 : w.heap.size + 1 < wc.heap.size := by omega
     have hl2 : w1.heap.size < wc.heap.size := by omega
     have hle0 := Nat.le_of_lt hl0
     have hle1 := Nat.le_of_lt hl1
     have hle2 := Nat.le_of_lt hl2
     have hle3 := Nat.le_of_lt hsz
     have b0 := fB.cell 0 (by decide)
     have b1 := fB.cell 1 (by decide)
     have b2 := fB.cell 2 (by decide)
     have b3 := fB.cell 3 (by decide)
     have z0 := fz 0 (by decide)
     have z1 := fz 1 (by decide)
     have z2 := fz 2 (by decide)
     have z3 := fz 3 (by decide)
     have q0 := fK.cell 0 (by decide)
     have q1 := fK.cell 1 (by decide)
     have q2 := fK.cell 2 (by decide)
     have q3 := fK.cell 3 (by decide)
     simp only [Nat.zero_add, Nat.add_zero] at b0 b1 b2 b3
     simp only [Nat.reduceAdd] at q0 q1 q2 q3
     have hNk := four_num fK hl0
     have hX1 : X < 18446744073709551616 := by omega
     go_wp2_with (go_at_call 153; refine (cE _ _ (nv_one (by simp) (by first | exact hX | omega) hX1)).mono ?_; rintro r w7 ⟨rfl, hb7⟩; obtain ⟨hc7, hf7, hz7_0, hl7_0, hA7, hs7⟩ := wz w hb7 w.heap.size; obtain ⟨hz7_1, hl7_1⟩ := zf hb7 (w.heap.size + 1); obtain ⟨hz7_2, hl7_2⟩ := zf hb7 w1.heap.size; obtain ⟨hz7_3, hl7_3⟩ := zf hb7 w2.heap.size; clear hb7)
     exact bodyPost_ret (v := .tuple #[A4 R, .int .i64 0]) (by simp only [results, Tryz.results96]; go_simp) rfl ⟨rfl, bgo⟩
end
end
section
attribute [local irreducible] W4 NT NV
section
variable (n : Int) (nm : ByteArray) (wd : Int) (f e All R Bs : Nat) (l m : Int) (x : Int) (s g : Bool) (k : Nat) (w : World) (hf : 2 ≤ f ∧ f ≤ 240) (he : e ≤ 15) (hAll : (2 : Int) ^ e - 1 = (All : Int))
 (c35 : ∀ w, Calls Tryz.prog 14 #[.int .i64 n] w fun x w' => x = .returned (.bool true) ∧ w = w')
 (c25 : ∀ w, Calls Tryz.prog 58 #[.int .i64 n] w fun x w' => x = .returned (.tuple #[IV n nm wd f e l m, .int .i64 0]) ∧ Below w.heap.size w w')
 (cS : s = true → ∀ W v, NV 1 1 v W → Calls Tryz.prog 153 #[Z4, v, .int .i64 ((f : Int) + e)] W fun r w' => r = .returned (A4 Bs) ∧ Below W.heap.size W w')
 (hB0 : s = false → ∀ i, W4 Bs i = 0)
include hf he hAll c35 c25 cS hB0
theorem rpack3
 (c36 : ∀ w, Calls Tryz.prog 152 #[IV n nm wd f e l m, DV 3 s g x k] w fun r w' => r = .returned (.bool true) ∧ Below w.heap.size w w')
 (B1 B2 : Nat)
 (cA : ∀ W v, NV 1 All v W → Calls Tryz.prog 153 #[A4 Bs, v, .int .i64 f] W fun r w' => r = .returned (A4 B1) ∧ Below W.heap.size W w')
 (cK : ∀ W, Num W (some ⟨w.heap.size, 4, none⟩) 4 4 (lowW (W4 k) 4) → Calls Tryz.prog 153 #[A4 B1, .slice (some ⟨w.heap.size, 4, none⟩) 4 4, .int .i64 0] W fun r w' => r = .returned (A4 B2) ∧ Below W.heap.size W w')
 (cQ : g = false → ∀ W v, NV 1 1 v W → Calls Tryz.prog 153 #[A4 B2, v, .int .i64 ((f : Int) - 1)] W fun r w' => r = .returned (A4 R) ∧ Below W.heap.size W w')
 (hR : g = true → B2 = R) :
  Calls Tryz.prog 96 #[.int .i64 n, DV 3 s g x k] w fun r w' => r = .returned (.tuple #[A4 R, .int .i64 0]) ∧ Below w.heap.size w w' := by
 have hp := pow_e' he
 have hAb : All < 18446744073709551616 := by omega
 have hsm := cell_set_map
 go_enter Tryz.func96, Tryz.ntmps96
 go_upto_if 29 with (first
  | (go_at_call 14; refine (c35 _).mono ?_; rintro r w0 ⟨rfl, rfl⟩)
  | (go_at_call 58; refine (c25 _).mono ?_; rintro x w1 ⟨rfl, hb1⟩; obtain ⟨hc1, hf1, hz1_0, hl1_0, hA1, hs1⟩ := wz w hb1 w.heap.size; obtain ⟨hz1_1, hl1_1⟩ := zf hb1 (w.heap.size + 1); clear hb1)
  | (go_at_call 152; refine (c36 _).mono ?_; rintro x w2 ⟨rfl, hb2⟩; obtain ⟨hc2, hf2, hz2_0, hl2_0, hA2, hs2⟩ := wz w hb2 w.heap.size; obtain ⟨hz2_1, hl2_1⟩ := zf hb2 (w.heap.size + 1); obtain ⟨hz2_2, hl2_2⟩ := zf hb2 w1.heap.size; clear hb2))
 have hn1 := set_far (Nat.ne_of_gt hz2_2)
 have hn0 := set_far (Nat.ne_of_gt hz2_0)
 have hn2 := set_far (Nat.ne_of_gt hz2_1)
 go_cut [] from 11 (fun wc => Four wc w2.heap.size 0 Bs ∧ Four wc w.heap.size 4 k ∧ (∀ i, i < 4 → wc.cell? ⟨w.heap.size + 1, i, none⟩ = some (.int .u64 0)) ∧ (∀ i, wc.frozen? ⟨w.heap.size + 1, i, none⟩ = false) ∧ (∀ i, wc.frozen? ⟨w2.heap.size, i, none⟩ = false)
   ∧ wc.cell? ⟨w.heap.size, 0, none⟩ = some (.int .i64 3) ∧ wc.cell? ⟨w.heap.size, 2, none⟩ = some (.bool g) ∧ wc.cell? ⟨w.heap.size, 3, none⟩ = some (.int .i64 x)
   ∧ wc.cell? ⟨w1.heap.size, 4, none⟩ = some (.int .i64 ((f : Int) + 1)) ∧ wc.cell? ⟨w1.heap.size, 5, none⟩ = some (.int .i64 e) ∧ wc.cell? ⟨w1.heap.size, 6, none⟩ = some (.int .i64 l) ∧ Below w.heap.size w wc ∧ w2.heap.size < wc.heap.size)
 case first =>
  cases s with
  | false =>
   have hB := hB0 rfl
   clear hB0 cS
   go_wp2
   go_meet
   exact ⟨.of (by rw [hB 0]; go_simp) (by rw [hB 1]; go_simp) (by rw [hB 2]; go_simp) (by rw [hB 3]; go_simp), .of (by go_simp) (by go_simp) (by go_simp) (by go_simp), zeros4p (by go_simp) (by go_simp) (by go_simp) (by go_simp), fun i => by go_simp, fun i => by go_simp, by go_simp, by go_simp, by go_simp, by go_simp, by go_simp, by go_simp, bgo, by simp; try omega⟩
  | true =>
   have hm0 : w.heap.size < w2.heap.size + 1 + 1 := by omega
   have hm1 : w1.heap.size < w2.heap.size + 1 + 1 := by omega
   have hm2 : w.heap.size < w2.heap.size + 2 := by omega
   have hm3 : w1.heap.size < w2.heap.size + 2 := by omega
   replace cS := cS rfl
   clear hB0
   go_wp2_with (go_at_call 153; refine (cS _ _ (nv_one (by simp) rfl (by decide))).mono ?_; rintro r w3 ⟨rfl, hb3⟩; obtain ⟨hc3, hf3, hz3_0, hl3_0, hA3, hs3⟩ := wz w hb3 w.heap.size; obtain ⟨hz3_1, hl3_1⟩ := zf hb3 (w.heap.size + 1); obtain ⟨hz3_2, hl3_2⟩ := zf hb3 w1.heap.size; obtain ⟨hz3_3, hl3_3⟩ := zf hb3 w2.heap.size; clear hb3)
   go_meet
   exact ⟨.of (by go_simp) (by go_simp) (by go_simp) (by go_simp), .of (by go_simp) (by go_simp) (by go_simp) (by go_simp), zeros4p (by go_simp) (by go_simp) (by go_simp) (by go_simp), fun i => by go_simp, fun i => by go_simp, by go_simp, by go_simp, by go_simp, by go_simp, by go_simp, by go_simp, bgo, by simp; try omega⟩
 case rest =>
  clear cS hB0
  have hcut0 := hcut
  obtain ⟨fB, fK, fz, fr4, fr9, d0, d2, d3, i4, i5, i6, hbw, hsz⟩ := hcut
  have hl0 : w.heap.size < wc.heap.size := by omega
  have hl1 : w.heap.size + 1 < wc.heap.size := by omega
  have hl2 : w1.heap.size < wc.heap.size := by omega
  have hle0 := Nat.le_of_lt hl0
  have hle1 := Nat.le_of_lt hl1
  have hle2 := Nat.le_of_lt hl2
  have hle3 := Nat.le_of_lt hsz
  have b0 := fB.cell 0 (by decide)
  have b1 := fB.cell 1 (by decide)
  have b2 := fB.cell 2 (by decide)
  have b3 := fB.cell 3 (by decide)
  have z0 := fz 0 (by decide)
  have z1 := fz 1 (by decide)
  have z2 := fz 2 (by decide)
  have z3 := fz 3 (by decide)
  have q0 := fK.cell 0 (by decide)
  have q1 := fK.cell 1 (by decide)
  have q2 := fK.cell 2 (by decide)
  have q3 := fK.cell 3 (by decide)
  simp only [Nat.zero_add, Nat.add_zero] at b0 b1 b2 b3
  simp only [Nat.reduceAdd] at q0 q1 q2 q3
  have hNk := four_num fK hl0
  go_upto_region 15 with fail
  have hnv := nv_one (W := wc) (g := wc.heap.size) (V := All) (vi := (All : Int)) rfl rfl hAb
  go_cut [] from 11 (fun wx => Four wx w2.heap.size 0 B2 ∧ Four wx w.heap.size 4 k ∧ (∀ i, i < 4 → wx.cell? ⟨w.heap.size + 1, i, none⟩ = some (.int .u64 0)) ∧ (∀ i, wx.frozen? ⟨w.heap.size + 1, i, none⟩ = false) ∧ (∀ i, wx.frozen? ⟨w2.heap.size, i, none⟩ = false)
   ∧ wx.cell? ⟨w.heap.size, 0, none⟩ = some (.int .i64 3) ∧ wx.cell? ⟨w.heap.size, 2, none⟩ = some (.bool g) ∧ wx.cell? ⟨w.heap.size, 3, none⟩ = some (.int .i64 x)
   ∧ wx.cell? ⟨w1.heap.size, 4, none⟩ = some (.int .i64 ((f : Int) + 1)) ∧ wx.cell? ⟨w1.heap.size, 5, none⟩ = some (.int .i64 e) ∧ wx.cell? ⟨w1.heap.size, 6, none⟩ = some (.int .i64 l) ∧ Below w.heap.size w wx ∧ w2.heap.size < wx.heap.size)
  case first =>
   go_region_with (first
    | (have := hA4; go_at_call 153; refine (cK _ (hNk.next hbk)).mono ?_; rintro r w5 ⟨rfl, hb5⟩; obtain ⟨hc5, hf5, hz5_0, hl5_0, hA5, hs5⟩ := wz w hb5 w.heap.size; obtain ⟨hz5_1, hl5_1⟩ := zf hb5 (w.heap.size + 1); obtain ⟨hz5_2, hl5_2⟩ := zf hb5 w1.heap.size; obtain ⟨hz5_3, hl5_3⟩ := zf hb5 w2.heap.size; clear hb5)
    | (go_at_call 153; refine (cA _ _ (hnv.next bgo)).mono ?_; rintro r w4 ⟨rfl, hb4⟩; have hbk : Below wc.heap.size wc w4 := bnext bgo hb4; obtain ⟨hc4, hf4, hz4_0, hl4_0, hA4, hs4⟩ := wz w hb4 w.heap.size; obtain ⟨hz4_1, hl4_1⟩ := zf hb4 (w.heap.size + 1); obtain ⟨hz4_2, hl4_2⟩ := zf hb4 w1.heap.size; obtain ⟨hz4_3, hl4_3⟩ := zf hb4 w2.heap.size; clear hb4))
   all_goals (
    go_wp2_with fail
    go_meet
    exact ⟨.of (by go_simp) (by go_simp) (by go_simp) (by go_simp), .of (by go_simp) (by go_simp) (by go_simp) (by go_simp), zeros4p (by go_simp) (by go_simp) (by go_simp) (by go_simp), fun i => by go_simp, fun i => by go_simp, by go_simp, by go_simp, by go_simp, by go_simp, by go_simp, by go_simp, bgo, by simp; try omega⟩)
  case rest =>
   clear hcut0 fB fK fz fr4 fr9 d0 d2 d3 i4 i5 i6 hbw hsz hl0 hl1 hl2 hle0 hle1 hle2 hle3 b0 b1 b2 b3 z0 z1 z2 z3 q0 q1 q2 q3 hNk hnv
   obtain ⟨fB, fK, fz, fr4, fr9, d0, d2, d3, i4, i5, i6, hbw, hsz⟩ := hcut
   have hl0 : w.heap.size < wc.heap.size := by omega
   have hl1 : w.heap.size + 1 < wc.heap.size := by omega
   have hl2 : w1.heap.size < wc.heap.size := by omega
   have hle0 := Nat.le_of_lt hl0
   have hle1 := Nat.le_of_lt hl1
   have hle2 := Nat.le_of_lt hl2
   have hle3 := Nat.le_of_lt hsz
   have b0 := fB.cell 0 (by decide)
   have b1 := fB.cell 1 (by decide)
   have b2 := fB.cell 2 (by decide)
   have b3 := fB.cell 3 (by decide)
   have z0 := fz 0 (by decide)
   have z1 := fz 1 (by decide)
   have z2 := fz 2 (by decide)
   have z3 := fz 3 (by decide)
   have q0 := fK.cell 0 (by decide)
   have q1 := fK.cell 1 (by decide)
   have q2 := fK.cell 2 (by decide)
   have q3 := fK.cell 3 (by decide)
   simp only [Nat.zero_add, Nat.add_zero] at b0 b1 b2 b3
   simp only [Nat.reduceAdd] at q0 q1 q2 q3
   have hNk := four_num fK hl0
   cases g with
   | true =>
    have hr := (hR rfl).symm
    subst hr
    clear cQ hR
    go_wp2
    exact bodyPost_ret (v := .tuple #[A4 R, .int .i64 0]) (by simp only [results, Tryz.results96]; go_simp) rfl ⟨rfl, bgo⟩
   | false =>
    replace cQ := cQ rfl
    clear hR
    go_wp2_with (go_at_call 153; refine (cQ _ _ (nv_one (by simp) rfl (by decide))).mono ?_; rintro r w6 ⟨rfl, hb6⟩; obtain ⟨hc6, hf6, hz6_0, hl6_0, hA6, hs6⟩ := wz w hb6 w.heap.size; obtain ⟨hz6_1, hl6_1⟩ := zf hb6 (w.heap.size + 1); obtain ⟨hz6_2, hl6_2⟩ := zf hb6 w1.heap.size; obtain ⟨hz6_3, hl6_3⟩ := zf hb6 w2.heap.size; clear hb6)
    exact bodyPost_ret (v := .tuple #[A4 R, .int .i64 0]) (by simp only [results, Tryz.results96]; go_simp) rfl ⟨rfl, bgo⟩
end
end
end Go.Proofs.YtplocajjfoiklaaGreatDoor
