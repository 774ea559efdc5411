/-
  Texts that the proof leans on.
-/
import Derived.Test.YtpemdcnneabbfaaGreatDoorJ36
import Derived.Deep.Cut
import Derived.Deep.CutRange
import Derived.Test.YtpemdcnneabbfaaGreatDoorJ3
set_option linter.unusedVariables false
set_option linter.unusedSectionVars false
set_option linter.unusedSimpArgs false
set_option maxRecDepth 20000
namespace Go.Proofs.YtpemdcnneabbfaaGreatDoor
open Go.RowKit
section
attribute [local irreducible] W4 NT NV
section
variable (n : Int) (nm : ByteArray) (wd : Int) (f e All R Bs : Nat) (l m : Int) (x : Int) (s g : Bool) (k : Nat) (w : World) (hf : 2 ≤ f ∧ f ≤ 240) (he : e ≤ 15) (hAll : (2 : Int) ^ e - 1 = (All : Int))
  (c35 : ∀ w, Calls Tryz.prog 14 #[.int .i64 n] w fun x w' => x = .returned (.bool true) ∧ w = w')
  (c25 : ∀ w, Calls Tryz.prog 28 #[.int .i64 n] w fun x w' => x = .returned (.tuple #[IV n nm wd f e l m, .int .i64 0]) ∧ Below w.heap.size w w')
  (cS : s = true → ∀ W v, NV 1 1 v W → Calls Tryz.prog 65 #[Z4, v, .int .i64 ((f : Int) + e)] W fun r w' => r = .returned (A4 Bs) ∧ Below W.heap.size W w')
  (hB0 : s = false → ∀ i, W4 Bs i = 0)
include hf he hAll c35 c25 cS hB0
set_option maxHeartbeats 2000000 in
theorem rpack1
  (c36 : ∀ w, Calls Tryz.prog 64 #[IV n nm wd f e l m, DV 1 s g x k] w fun r w' => r = .returned (.bool true) ∧ Below w.heap.size w w')
  (B1 Fr X : Nat) (L : Int) (hl : -1000000 ≤ l ∧ l ≤ 1000000) (hxl : l ≤ x ∧ x ≤ l + 1000000) (hX : x - l + 1 = (X : Int))
  (c38 : ∀ W, Num W (some ⟨w.heap.size, 4, none⟩) 4 4 (lowW (W4 k) 4) → Calls Tryz.prog 33 #[.slice (some ⟨w.heap.size, 4, none⟩) 4 4] W fun e w' => e = .returned (.int .i64 L) ∧ W = w')
  (cK : L < (f : Int) + 1 → ∀ W, Num W (some ⟨w.heap.size, 4, none⟩) 4 4 (lowW (W4 k) 4) → Calls Tryz.prog 65 #[A4 Bs, .slice (some ⟨w.heap.size, 4, none⟩) 4 4, .int .i64 0] W fun r w' => r = .returned (A4 R) ∧ Below W.heap.size W w')
  (c26 : ∀ W, Calls Tryz.prog 66 #[A4 k, .int .i64 0, .int .i64 f] W fun e w' => ∃ r, e = .returned r ∧ NV 19 Fr r w' ∧ Below W.heap.size W w')
  (cF : ∀ W v, NV 19 Fr v W → Calls Tryz.prog 65 #[A4 Bs, v, .int .i64 0] W fun r w' => r = .returned (A4 B1) ∧ Below W.heap.size W w')
  (cE : ¬ L < (f : Int) + 1 → ∀ W v, NV 1 X v W → Calls Tryz.prog 65 #[A4 B1, v, .int .i64 f] W fun r w' => r = .returned (A4 R) ∧ Below W.heap.size W w') :
    Calls Tryz.prog 29 #[.int .i64 n, DV 1 s g x k] w fun r w' => r = .returned (.tuple #[A4 R, .int .i64 0]) ∧ Below w.heap.size w w' := by
  have hp := pow_e' he
  have hAb : All < 18446744073709551616 := by omega
  have hsm := cell_set_map
  go_enter Tryz.func29, Tryz.ntmps29
  go_upto_if 29 with (first
    | (go_at_call 14; refine (c35 _).mono ?_; rintro r w0 ⟨rfl, rfl⟩)
    | (go_at_call 28; refine (c25 _).mono ?_; rintro x w1 ⟨rfl, hb1⟩; obtain ⟨hc1, hf1⟩ := bcell hb1; have hz1_0 : w.heap.size < w1.heap.size := lt_below hb1 ltg; have hl1_0 := Nat.le_of_lt hz1_0; have hz1_1 : w.heap.size + 1 < w1.heap.size := lt_below hb1 ltg; have hl1_1 := Nat.le_of_lt hz1_1; have hA1 := bnext (w0 := w) bgo hb1; have hs1 := hA1.size; clear hb1)
    | (go_at_call 64; refine (c36 _).mono ?_; rintro x w2 ⟨rfl, hb2⟩; obtain ⟨hc2, hf2⟩ := bcell hb2; have hz2_0 : w.heap.size < w2.heap.size := lt_below hb2 ltg; have hl2_0 := Nat.le_of_lt hz2_0; have hz2_1 : w.heap.size + 1 < w2.heap.size := lt_below hb2 ltg; have hl2_1 := Nat.le_of_lt hz2_1; have hz2_2 : w1.heap.size < w2.heap.size := lt_below hb2 ltg; have hl2_2 := Nat.le_of_lt hz2_2; have hA2 := bnext (w0 := w) bgo hb2; have hs2 := hA2.size; clear hb2))
  have hn1 := set_far (Nat.ne_of_gt hz2_2)
  have hn0 := set_far (Nat.ne_of_gt hz2_0)
  have hn2 := set_far (Nat.ne_of_gt hz2_1)
  go_cut [] from 11 (fun wc => Four wc w2.heap.size 0 Bs ∧ Four wc w.heap.size 4 k ∧ (∀ i, i < 4 → wc.cell? ⟨w.heap.size + 1, i, none⟩ = some (.int .u64 0)) ∧ (∀ i, wc.frozen? ⟨w.heap.size + 1, i, none⟩ = false) ∧ (∀ i, wc.frozen? ⟨w2.heap.size, i, none⟩ = false)
      ∧ wc.cell? ⟨w.heap.size, 0, none⟩ = some (.int .i64 1) ∧ wc.cell? ⟨w.heap.size, 2, none⟩ = some (.bool g) ∧ wc.cell? ⟨w.heap.size, 3, none⟩ = some (.int .i64 x)
      ∧ wc.cell? ⟨w1.heap.size, 4, none⟩ = some (.int .i64 ((f : Int) + 1)) ∧ wc.cell? ⟨w1.heap.size, 5, none⟩ = some (.int .i64 e) ∧ wc.cell? ⟨w1.heap.size, 6, none⟩ = some (.int .i64 l) ∧ Below w.heap.size w wc ∧ w2.heap.size < wc.heap.size)
  case first =>
    cases s with
    | false =>
      have hB := hB0 rfl
      clear hB0 cS
      go_wp2
      go_meet
      exact ⟨.of (by rw [hB 0]; go_simp) (by rw [hB 1]; go_simp) (by rw [hB 2]; go_simp) (by rw [hB 3]; go_simp), .of (by go_simp) (by go_simp) (by go_simp) (by go_simp), zeros4p (by go_simp) (by go_simp) (by go_simp) (by go_simp), fun i => by go_simp, fun i => by go_simp, by go_simp, by go_simp, by go_simp, by go_simp, by go_simp, by go_simp, bgo, by simp; try omega⟩
    | true =>
      have hm0 : w.heap.size < w2.heap.size + 1 + 1 := by omega
      have hm1 : w1.heap.size < w2.heap.size + 1 + 1 := by omega
      have hm2 : w.heap.size < w2.heap.size + 2 := by omega
      have hm3 : w1.heap.size < w2.heap.size + 2 := by omega
      replace cS := cS rfl
      clear hB0
      go_wp2_with (go_at_call 65; refine (cS _ _ (nv_one (by simp) rfl (by decide))).mono ?_; rintro r w3 ⟨rfl, hb3⟩; obtain ⟨hc3, hf3⟩ := bcell hb3; have hz3_0 : w.heap.size < w3.heap.size := lt_below hb3 ltg; have hl3_0 := Nat.le_of_lt hz3_0; have hz3_1 : w.heap.size + 1 < w3.heap.size := lt_below hb3 ltg; have hl3_1 := Nat.le_of_lt hz3_1; have hz3_2 : w1.heap.size < w3.heap.size := lt_below hb3 ltg; have hl3_2 := Nat.le_of_lt hz3_2; have hz3_3 : w2.heap.size < w3.heap.size := lt_below hb3 ltg; have hl3_3 := Nat.le_of_lt hz3_3; have hA3 := bnext (w0 := w) bgo hb3; have hs3 := hA3.size; clear hb3)
      go_meet
      exact ⟨.of (by go_simp) (by go_simp) (by go_simp) (by go_simp), .of (by go_simp) (by go_simp) (by go_simp) (by go_simp), zeros4p (by go_simp) (by go_simp) (by go_simp) (by go_simp), fun i => by go_simp, fun i => by go_simp, by go_simp, by go_simp, by go_simp, by go_simp, by go_simp, by go_simp, bgo, by simp; try omega⟩
  case rest =>
    clear cS hB0
    have hcut0 := hcut
    obtain ⟨fB, fK, fz, fr4, fr9, d0, d2, d3, i4, i5, i6, hbw, hsz⟩ := hcut
    have hl0 : w.heap.size < wc.heap.size := by omega
    have hl1 : w.heap.size + 1 < wc.heap.size := by omega
    have hl2 : w1.heap.size < wc.heap.size := by omega
    have hle0 := Nat.le_of_lt hl0
    have hle1 := Nat.le_of_lt hl1
    have hle2 := Nat.le_of_lt hl2
    have hle3 := Nat.le_of_lt hsz
    have b0 := fB.cell 0 (by decide)
    have b1 := fB.cell 1 (by decide)
    have b2 := fB.cell 2 (by decide)
    have b3 := fB.cell 3 (by decide)
    have z0 := fz 0 (by decide)
    have z1 := fz 1 (by decide)
    have z2 := fz 2 (by decide)
    have z3 := fz 3 (by decide)
    have q0 := fK.cell 0 (by decide)
    have q1 := fK.cell 1 (by decide)
    have q2 := fK.cell 2 (by decide)
    have q3 := fK.cell 3 (by decide)
    simp only [Nat.zero_add, Nat.add_zero] at b0 b1 b2 b3
    simp only [Nat.reduceAdd] at q0 q1 q2 q3
    have hNk := four_num fK hl0
    go_upto_region 19 with fail
    go_cut [74] from 11 (fun t wx => t = .bool (decide (L < (f : Int) + 1)) ∧ Four wx w2.heap.size 0 Bs ∧ Four wx w.heap.size 4 k ∧ (∀ i, i < 4 → wx.cell? ⟨w.heap.size + 1, i, none⟩ = some (.int .u64 0)) ∧ (∀ i, wx.frozen? ⟨w.heap.size + 1, i, none⟩ = false) ∧ (∀ i, wx.frozen? ⟨w2.heap.size, i, none⟩ = false)
      ∧ wx.cell? ⟨w.heap.size, 0, none⟩ = some (.int .i64 1) ∧ wx.cell? ⟨w.heap.size, 2, none⟩ = some (.bool g) ∧ wx.cell? ⟨w.heap.size, 3, none⟩ = some (.int .i64 x)
      ∧ wx.cell? ⟨w1.heap.size, 4, none⟩ = some (.int .i64 ((f : Int) + 1)) ∧ wx.cell? ⟨w1.heap.size, 5, none⟩ = some (.int .i64 e) ∧ wx.cell? ⟨w1.heap.size, 6, none⟩ = some (.int .i64 l) ∧ Below w.heap.size w wx ∧ w2.heap.size < wx.heap.size)
    case first =>
      go_region_with (go_at_call 33; refine (c38 _ (hNk.next bgo)).mono ?_; rintro r w4 ⟨rfl, rfl⟩)
      all_goals (
        go_wp2_with fail
        go_meet
        exact ⟨rfl, .of (by go_simp) (by go_simp) (by go_simp) (by go_simp), .of (by go_simp) (by go_simp) (by go_simp) (by go_simp), zeros4p (by go_simp) (by go_simp) (by go_simp) (by go_simp), fun i => by go_simp, fun i => by go_simp, by go_simp, by go_simp, by go_simp, by go_simp, by go_simp, by go_simp, bgo, by simp; try omega⟩)
    case rest =>
      clear hcut0
      clear fB fK fz fr4 fr9 d0 d2 d3 i4 i5 i6 hbw hsz hl0 hl1 hl2 hle0 hle1 hle2 hle3 b0 b1 b2 b3 z0 z1 z2 z3 q0 q1 q2 q3 hNk
      obtain ⟨ht, hcut⟩ := hcut
      obtain ⟨fB, fK, fz, fr4, fr9, d0, d2, d3, i4, i5, i6, hbw, hsz⟩ := hcut
      have hl0 : w.heap.size < wc.heap.size := by omega
      have hl1 : w.heap.size + 1 < wc.heap.size := by omega
      have hl2 : w1.heap.size < wc.heap.size := by omega
      have hle0 := Nat.le_of_lt hl0
      have hle1 := Nat.le_of_lt hl1
      have hle2 := Nat.le_of_lt hl2
      have hle3 := Nat.le_of_lt hsz
      have b0 := fB.cell 0 (by decide)
      have b1 := fB.cell 1 (by decide)
      have b2 := fB.cell 2 (by decide)
      have b3 := fB.cell 3 (by decide)
      have z0 := fz 0 (by decide)
      have z1 := fz 1 (by decide)
      have z2 := fz 2 (by decide)
      have z3 := fz 3 (by decide)
      have q0 := fK.cell 0 (by decide)
      have q1 := fK.cell 1 (by decide)
      have q2 := fK.cell 2 (by decide)
      have q3 := fK.cell 3 (by decide)
      simp only [Nat.zero_add, Nat.add_zero] at b0 b1 b2 b3
      simp only [Nat.reduceAdd] at q0 q1 q2 q3
      have hNk := four_num fK hl0
      by_cases hL : L < (f : Int) + 1
      · rw [decide_eq_true hL] at ht
        subst ht
        replace cK := cK hL
        clear cE
        have hds : ∀ W : World, W.drew.heap.size = W.heap.size := fun W => by simp
        go_wp2
        go_region_with (go_at_call 65; refine (cK _ (hNk.next bgo)).mono ?_; rintro r w5 ⟨rfl, hb5⟩; obtain ⟨hc5, hf5⟩ := bcell hb5; have hz5_0 : w.heap.size < w5.heap.size := lt_below hb5 ltg; have hl5_0 := Nat.le_of_lt hz5_0; have hz5_1 : w.heap.size + 1 < w5.heap.size := lt_below hb5 ltg; have hl5_1 := Nat.le_of_lt hz5_1; have hz5_2 : w1.heap.size < w5.heap.size := lt_below hb5 ltg; have hl5_2 := Nat.le_of_lt hz5_2; have hz5_3 : w2.heap.size < w5.heap.size := lt_below hb5 ltg; have hl5_3 := Nat.le_of_lt hz5_3; have hA5 := bnext (w0 := w) bgo hb5; have hs5 := hA5.size; clear hb5)
        all_goals (
          go_wp2_with fail
          exact bodyPost_ret (v := .tuple #[A4 R, .int .i64 0]) (by simp only [results, Tryz.results29]; go_simp) rfl ⟨rfl, bgo⟩)
      · rw [decide_eq_false hL] at ht
        subst ht
        replace cE := cE (by omega)
        clear cK
        have hds : ∀ W : World, W.drew.heap.size = W.heap.size := fun W => by simp
        go_upto_region 21 with fail
        go_cut [] from 11 (fun wx => Four wx w2.heap.size 0 B1 ∧ Four wx w.heap.size 4 k ∧ (∀ i, i < 4 → wx.cell? ⟨w.heap.size + 1, i, none⟩ = some (.int .u64 0)) ∧ (∀ i, wx.frozen? ⟨w.heap.size + 1, i, none⟩ = false) ∧ (∀ i, wx.frozen? ⟨w2.heap.size, i, none⟩ = false)
      ∧ wx.cell? ⟨w.heap.size, 0, none⟩ = some (.int .i64 1) ∧ wx.cell? ⟨w.heap.size, 2, none⟩ = some (.bool g) ∧ wx.cell? ⟨w.heap.size, 3, none⟩ = some (.int .i64 x)
      ∧ wx.cell? ⟨w1.heap.size, 4, none⟩ = some (.int .i64 ((f : Int) + 1)) ∧ wx.cell? ⟨w1.heap.size, 5, none⟩ = some (.int .i64 e) ∧ wx.cell? ⟨w1.heap.size, 6, none⟩ = some (.int .i64 l) ∧ Below w.heap.size w wx ∧ w2.heap.size < wx.heap.size)
        case first =>
          go_region_with (first
            | (go_at_call 66; refine (c26 _).mono ?_; rintro r w5 ⟨v5, rfl, hv5, hb5⟩; obtain ⟨hc5, hf5⟩ := bcell hb5; have hz5_0 : w.heap.size < w5.heap.size := lt_below hb5 ltg; have hl5_0 := Nat.le_of_lt hz5_0; have hz5_1 : w.heap.size + 1 < w5.heap.size := lt_below hb5 ltg; have hl5_1 := Nat.le_of_lt hz5_1; have hz5_2 : w1.heap.size < w5.heap.size := lt_below hb5 ltg; have hl5_2 := Nat.le_of_lt hz5_2; have hz5_3 : w2.heap.size < w5.heap.size := lt_below hb5 ltg; have hl5_3 := Nat.le_of_lt hz5_3; have hA5 := bnext (w0 := w) bgo hb5; have hs5 := hA5.size; clear hb5)
            | (go_at_call 65; refine (cF _ _ hv5).mono ?_; rintro r w6 ⟨rfl, hb6⟩; obtain ⟨hc6, hf6⟩ := bcell hb6; have hz6_0 : w.heap.size < w6.heap.size := lt_below hb6 ltg; have hl6_0 := Nat.le_of_lt hz6_0; have hz6_1 : w.heap.size + 1 < w6.heap.size := lt_below hb6 ltg; have hl6_1 := Nat.le_of_lt hz6_1; have hz6_2 : w1.heap.size < w6.heap.size := lt_below hb6 ltg; have hl6_2 := Nat.le_of_lt hz6_2; have hz6_3 : w2.heap.size < w6.heap.size := lt_below hb6 ltg; have hl6_3 := Nat.le_of_lt hz6_3; have hA6 := bnext (w0 := w) bgo hb6; have hs6 := hA6.size; clear hb6))
          all_goals (
            go_wp2_with fail
            go_meet
            exact ⟨.of (by go_simp) (by go_simp) (by go_simp) (by go_simp), .of (by go_simp) (by go_simp) (by go_simp) (by go_simp), zeros4p (by go_simp) (by go_simp) (by go_simp) (by go_simp), fun i => by go_simp, fun i => by go_simp, by go_simp, by go_simp, by go_simp, by go_simp, by go_simp, by go_simp, bgo, by simp; try omega⟩)
        case rest =>
          clear fB fK fz fr4 fr9 d0 d2 d3 i4 i5 i6 hbw hsz hl0 hl1 hl2 hle0 hle1 hle2 hle3 b0 b1 b2 b3 z0 z1 z2 z3 q0 q1 q2 q3 hNk
          obtain ⟨fB, fK, fz, fr4, fr9, d0, d2, d3, i4, i5, i6, hbw, hsz⟩ := hcut
          have hl0 : w.heap.size < wc.heap.size := by omega
          have hl1 : w.heap.size + 1 < wc.heap.size := by omega
          have hl2 : w1.heap.size < wc.heap.size := by omega
          have hle0 := Nat.le_of_lt hl0
          have hle1 := Nat.le_of_lt hl1
          have hle2 := Nat.le_of_lt hl2
          have hle3 := Nat.le_of_lt hsz
          have b0 := fB.cell 0 (by decide)
          have b1 := fB.cell 1 (by decide)
          have b2 := fB.cell 2 (by decide)
          have b3 := fB.cell 3 (by decide)
          have z0 := fz 0 (by decide)
          have z1 := fz 1 (by decide)
          have z2 := fz 2 (by decide)
          have z3 := fz 3 (by decide)
          have q0 := fK.cell 0 (by decide)
          have q1 := fK.cell 1 (by decide)
          have q2 := fK.cell 2 (by decide)
          have q3 := fK.cell 3 (by decide)
          simp only [Nat.zero_add, Nat.add_zero] at b0 b1 b2 b3
          simp only [Nat.reduceAdd] at q0 q1 q2 q3
          have hNk := four_num fK hl0
          have hX1 : X < 18446744073709551616 := by omega
          go_wp2_with (go_at_call 65; refine (cE _ _ (nv_one (by simp) (by first | exact hX | omega) hX1)).mono ?_; rintro r w7 ⟨rfl, hb7⟩; obtain ⟨hc7, hf7⟩ := bcell hb7; have hz7_0 : w.heap.size < w7.heap.size := lt_below hb7 ltg; have hl7_0 := Nat.le_of_lt hz7_0; have hz7_1 : w.heap.size + 1 < w7.heap.size := lt_below hb7 ltg; have hl7_1 := Nat.le_of_lt hz7_1; have hz7_2 : w1.heap.size < w7.heap.size := lt_below hb7 ltg; have hl7_2 := Nat.le_of_lt hz7_2; have hz7_3 : w2.heap.size < w7.heap.size := lt_below hb7 ltg; have hl7_3 := Nat.le_of_lt hz7_3; have hA7 := bnext (w0 := w) bgo hb7; have hs7 := hA7.size; clear hb7)
          exact bodyPost_ret (v := .tuple #[A4 R, .int .i64 0]) (by simp only [results, Tryz.results29]; go_simp) rfl ⟨rfl, bgo⟩
end
end
end Go.Proofs.YtpemdcnneabbfaaGreatDoor
