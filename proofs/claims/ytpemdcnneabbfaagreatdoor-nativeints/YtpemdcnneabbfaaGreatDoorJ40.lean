/-
  Texts that the proof leans on.
-/
import Derived.Test.YtpemdcnneabbfaaGreatDoorJ36
import Derived.Deep.Cut
import Derived.Deep.CutRange
import Derived.Test.YtpemdcnneabbfaaGreatDoorJ3
import Derived.Test.YtpemdcnneabbfaaGreatDoorJ39
set_option linter.unusedVariables false
set_option linter.unusedSectionVars false
set_option linter.unusedSimpArgs false
set_option maxRecDepth 20000
namespace Go.Proofs.YtpemdcnneabbfaaGreatDoor
open Go.RowKit
section
attribute [local irreducible] W4 NT NV
section
variable (n : Int) (nm : ByteArray) (wd : Int) (f e All R Bs : Nat) (l m : Int) (x : Int) (s g : Bool) (k : Nat) (w : World) (hf : 2 ≤ f ∧ f ≤ 240) (he : e ≤ 15) (hAll : (2 : Int) ^ e - 1 = (All : Int))
  (c35 : ∀ w, Calls Tryz.prog 14 #[.int .i64 n] w fun x w' => x = .returned (.bool true) ∧ w = w')
  (c25 : ∀ w, Calls Tryz.prog 28 #[.int .i64 n] w fun x w' => x = .returned (.tuple #[IV n nm wd f e l m, .int .i64 0]) ∧ Below w.heap.size w w')
  (cS : s = true → ∀ W v, NV 1 1 v W → Calls Tryz.prog 65 #[Z4, v, .int .i64 ((f : Int) + e)] W fun r w' => r = .returned (A4 Bs) ∧ Below W.heap.size W w')
  (hB0 : s = false → ∀ i, W4 Bs i = 0)
include hf he hAll c35 c25 cS hB0
set_option maxHeartbeats 2000000 in
theorem rpack3
  (c36 : ∀ w, Calls Tryz.prog 64 #[IV n nm wd f e l m, DV 3 s g x k] w fun r w' => r = .returned (.bool true) ∧ Below w.heap.size w w')
  (B1 B2 : Nat)
  (cA : ∀ W v, NV 1 All v W → Calls Tryz.prog 65 #[A4 Bs, v, .int .i64 f] W fun r w' => r = .returned (A4 B1) ∧ Below W.heap.size W w')
  (cK : ∀ W, Num W (some ⟨w.heap.size, 4, none⟩) 4 4 (lowW (W4 k) 4) → Calls Tryz.prog 65 #[A4 B1, .slice (some ⟨w.heap.size, 4, none⟩) 4 4, .int .i64 0] W fun r w' => r = .returned (A4 B2) ∧ Below W.heap.size W w')
  (cQ : g = false → ∀ W v, NV 1 1 v W → Calls Tryz.prog 65 #[A4 B2, v, .int .i64 ((f : Int) - 1)] W fun r w' => r = .returned (A4 R) ∧ Below W.heap.size W w')
  (hR : g = true → B2 = R) :
    Calls Tryz.prog 29 #[.int .i64 n, DV 3 s g x k] w fun r w' => r = .returned (.tuple #[A4 R, .int .i64 0]) ∧ Below w.heap.size w w' := by
  have hp := pow_e' he
  have hAb : All < 18446744073709551616 := by omega
  have hsm := cell_set_map
  go_enter Tryz.func29, Tryz.ntmps29
  go_upto_if 29 with (first
    | (go_at_call 14; refine (c35 _).mono ?_; rintro r w0 ⟨rfl, rfl⟩)
    | (go_at_call 28; refine (c25 _).mono ?_; rintro x w1 ⟨rfl, hb1⟩; obtain ⟨hc1, hf1⟩ := bcell hb1; have hz1_0 : w.heap.size < w1.heap.size := lt_below hb1 ltg; have hl1_0 := Nat.le_of_lt hz1_0; have hz1_1 : w.heap.size + 1 < w1.heap.size := lt_below hb1 ltg; have hl1_1 := Nat.le_of_lt hz1_1; have hA1 := bnext (w0 := w) bgo hb1; have hs1 := hA1.size; clear hb1)
    | (go_at_call 64; refine (c36 _).mono ?_; rintro x w2 ⟨rfl, hb2⟩; obtain ⟨hc2, hf2⟩ := bcell hb2; have hz2_0 : w.heap.size < w2.heap.size := lt_below hb2 ltg; have hl2_0 := Nat.le_of_lt hz2_0; have hz2_1 : w.heap.size + 1 < w2.heap.size := lt_below hb2 ltg; have hl2_1 := Nat.le_of_lt hz2_1; have hz2_2 : w1.heap.size < w2.heap.size := lt_below hb2 ltg; have hl2_2 := Nat.le_of_lt hz2_2; have hA2 := bnext (w0 := w) bgo hb2; have hs2 := hA2.size; clear hb2))
  have hn1 := set_far (Nat.ne_of_gt hz2_2)
  have hn0 := set_far (Nat.ne_of_gt hz2_0)
  have hn2 := set_far (Nat.ne_of_gt hz2_1)
  go_cut [] from 11 (fun wc => Four wc w2.heap.size 0 Bs ∧ Four wc w.heap.size 4 k ∧ (∀ i, i < 4 → wc.cell? ⟨w.heap.size + 1, i, none⟩ = some (.int .u64 0)) ∧ (∀ i, wc.frozen? ⟨w.heap.size + 1, i, none⟩ = false) ∧ (∀ i, wc.frozen? ⟨w2.heap.size, i, none⟩ = false)
      ∧ wc.cell? ⟨w.heap.size, 0, none⟩ = some (.int .i64 3) ∧ wc.cell? ⟨w.heap.size, 2, none⟩ = some (.bool g) ∧ wc.cell? ⟨w.heap.size, 3, none⟩ = some (.int .i64 x)
      ∧ wc.cell? ⟨w1.heap.size, 4, none⟩ = some (.int .i64 ((f : Int) + 1)) ∧ wc.cell? ⟨w1.heap.size, 5, none⟩ = some (.int .i64 e) ∧ wc.cell? ⟨w1.heap.size, 6, none⟩ = some (.int .i64 l) ∧ Below w.heap.size w wc ∧ w2.heap.size < wc.heap.size)
  case first =>
    cases s with
    | false =>
      have hB := hB0 rfl
      clear hB0 cS
      go_wp2
      go_meet
      exact ⟨.of (by rw [hB 0]; go_simp) (by rw [hB 1]; go_simp) (by rw [hB 2]; go_simp) (by rw [hB 3]; go_simp), .of (by go_simp) (by go_simp) (by go_simp) (by go_simp), zeros4p (by go_simp) (by go_simp) (by go_simp) (by go_simp), fun i => by go_simp, fun i => by go_simp, by go_simp, by go_simp, by go_simp, by go_simp, by go_simp, by go_simp, bgo, by simp; try omega⟩
    | true =>
      have hm0 : w.heap.size < w2.heap.size + 1 + 1 := by omega
      have hm1 : w1.heap.size < w2.heap.size + 1 + 1 := by omega
      have hm2 : w.heap.size < w2.heap.size + 2 := by omega
      have hm3 : w1.heap.size < w2.heap.size + 2 := by omega
      replace cS := cS rfl
      clear hB0
      go_wp2_with (go_at_call 65; refine (cS _ _ (nv_one (by simp) rfl (by decide))).mono ?_; rintro r w3 ⟨rfl, hb3⟩; obtain ⟨hc3, hf3⟩ := bcell hb3; have hz3_0 : w.heap.size < w3.heap.size := lt_below hb3 ltg; have hl3_0 := Nat.le_of_lt hz3_0; have hz3_1 : w.heap.size + 1 < w3.heap.size := lt_below hb3 ltg; have hl3_1 := Nat.le_of_lt hz3_1; have hz3_2 : w1.heap.size < w3.heap.size := lt_below hb3 ltg; have hl3_2 := Nat.le_of_lt hz3_2; have hz3_3 : w2.heap.size < w3.heap.size := lt_below hb3 ltg; have hl3_3 := Nat.le_of_lt hz3_3; have hA3 := bnext (w0 := w) bgo hb3; have hs3 := hA3.size; clear hb3)
      go_meet
      exact ⟨.of (by go_simp) (by go_simp) (by go_simp) (by go_simp), .of (by go_simp) (by go_simp) (by go_simp) (by go_simp), zeros4p (by go_simp) (by go_simp) (by go_simp) (by go_simp), fun i => by go_simp, fun i => by go_simp, by go_simp, by go_simp, by go_simp, by go_simp, by go_simp, by go_simp, bgo, by simp; try omega⟩
  case rest =>
    clear cS hB0
    have hcut0 := hcut
    obtain ⟨fB, fK, fz, fr4, fr9, d0, d2, d3, i4, i5, i6, hbw, hsz⟩ := hcut
    have hl0 : w.heap.size < wc.heap.size := by omega
    have hl1 : w.heap.size + 1 < wc.heap.size := by omega
    have hl2 : w1.heap.size < wc.heap.size := by omega
    have hle0 := Nat.le_of_lt hl0
    have hle1 := Nat.le_of_lt hl1
    have hle2 := Nat.le_of_lt hl2
    have hle3 := Nat.le_of_lt hsz
    have b0 := fB.cell 0 (by decide)
    have b1 := fB.cell 1 (by decide)
    have b2 := fB.cell 2 (by decide)
    have b3 := fB.cell 3 (by decide)
    have z0 := fz 0 (by decide)
    have z1 := fz 1 (by decide)
    have z2 := fz 2 (by decide)
    have z3 := fz 3 (by decide)
    have q0 := fK.cell 0 (by decide)
    have q1 := fK.cell 1 (by decide)
    have q2 := fK.cell 2 (by decide)
    have q3 := fK.cell 3 (by decide)
    simp only [Nat.zero_add, Nat.add_zero] at b0 b1 b2 b3
    simp only [Nat.reduceAdd] at q0 q1 q2 q3
    have hNk := four_num fK hl0
    go_upto_region 15 with fail
    have hnv := nv_one (W := wc) (g := wc.heap.size) (V := All) (vi := (All : Int)) rfl rfl hAb
    go_cut [] from 11 (fun wx => Four wx w2.heap.size 0 B2 ∧ Four wx w.heap.size 4 k ∧ (∀ i, i < 4 → wx.cell? ⟨w.heap.size + 1, i, none⟩ = some (.int .u64 0)) ∧ (∀ i, wx.frozen? ⟨w.heap.size + 1, i, none⟩ = false) ∧ (∀ i, wx.frozen? ⟨w2.heap.size, i, none⟩ = false)
      ∧ wx.cell? ⟨w.heap.size, 0, none⟩ = some (.int .i64 3) ∧ wx.cell? ⟨w.heap.size, 2, none⟩ = some (.bool g) ∧ wx.cell? ⟨w.heap.size, 3, none⟩ = some (.int .i64 x)
      ∧ wx.cell? ⟨w1.heap.size, 4, none⟩ = some (.int .i64 ((f : Int) + 1)) ∧ wx.cell? ⟨w1.heap.size, 5, none⟩ = some (.int .i64 e) ∧ wx.cell? ⟨w1.heap.size, 6, none⟩ = some (.int .i64 l) ∧ Below w.heap.size w wx ∧ w2.heap.size < wx.heap.size)
    case first =>
      go_region_with (first
        | (have := hA4; go_at_call 65; refine (cK _ (hNk.next hbk)).mono ?_; rintro r w5 ⟨rfl, hb5⟩; obtain ⟨hc5, hf5⟩ := bcell hb5; have hz5_0 : w.heap.size < w5.heap.size := lt_below hb5 ltg; have hl5_0 := Nat.le_of_lt hz5_0; have hz5_1 : w.heap.size + 1 < w5.heap.size := lt_below hb5 ltg; have hl5_1 := Nat.le_of_lt hz5_1; have hz5_2 : w1.heap.size < w5.heap.size := lt_below hb5 ltg; have hl5_2 := Nat.le_of_lt hz5_2; have hz5_3 : w2.heap.size < w5.heap.size := lt_below hb5 ltg; have hl5_3 := Nat.le_of_lt hz5_3; have hA5 := bnext (w0 := w) bgo hb5; have hs5 := hA5.size; clear hb5)
        | (go_at_call 65; refine (cA _ _ (hnv.next bgo)).mono ?_; rintro r w4 ⟨rfl, hb4⟩; have hbk : Below wc.heap.size wc w4 := bnext bgo hb4; obtain ⟨hc4, hf4⟩ := bcell hb4; have hz4_0 : w.heap.size < w4.heap.size := lt_below hb4 ltg; have hl4_0 := Nat.le_of_lt hz4_0; have hz4_1 : w.heap.size + 1 < w4.heap.size := lt_below hb4 ltg; have hl4_1 := Nat.le_of_lt hz4_1; have hz4_2 : w1.heap.size < w4.heap.size := lt_below hb4 ltg; have hl4_2 := Nat.le_of_lt hz4_2; have hz4_3 : w2.heap.size < w4.heap.size := lt_below hb4 ltg; have hl4_3 := Nat.le_of_lt hz4_3; have hA4 := bnext (w0 := w) bgo hb4; have hs4 := hA4.size; clear hb4))
      all_goals (
        go_wp2_with fail
        go_meet
        exact ⟨.of (by go_simp) (by go_simp) (by go_simp) (by go_simp), .of (by go_simp) (by go_simp) (by go_simp) (by go_simp), zeros4p (by go_simp) (by go_simp) (by go_simp) (by go_simp), fun i => by go_simp, fun i => by go_simp, by go_simp, by go_simp, by go_simp, by go_simp, by go_simp, by go_simp, bgo, by simp; try omega⟩)
    case rest =>
      clear hcut0 fB fK fz fr4 fr9 d0 d2 d3 i4 i5 i6 hbw hsz hl0 hl1 hl2 hle0 hle1 hle2 hle3 b0 b1 b2 b3 z0 z1 z2 z3 q0 q1 q2 q3 hNk hnv
      obtain ⟨fB, fK, fz, fr4, fr9, d0, d2, d3, i4, i5, i6, hbw, hsz⟩ := hcut
      have hl0 : w.heap.size < wc.heap.size := by omega
      have hl1 : w.heap.size + 1 < wc.heap.size := by omega
      have hl2 : w1.heap.size < wc.heap.size := by omega
      have hle0 := Nat.le_of_lt hl0
      have hle1 := Nat.le_of_lt hl1
      have hle2 := Nat.le_of_lt hl2
      have hle3 := Nat.le_of_lt hsz
      have b0 := fB.cell 0 (by decide)
      have b1 := fB.cell 1 (by decide)
      have b2 := fB.cell 2 (by decide)
      have b3 := fB.cell 3 (by decide)
      have z0 := fz 0 (by decide)
      have z1 := fz 1 (by decide)
      have z2 := fz 2 (by decide)
      have z3 := fz 3 (by decide)
      have q0 := fK.cell 0 (by decide)
      have q1 := fK.cell 1 (by decide)
      have q2 := fK.cell 2 (by decide)
      have q3 := fK.cell 3 (by decide)
      simp only [Nat.zero_add, Nat.add_zero] at b0 b1 b2 b3
      simp only [Nat.reduceAdd] at q0 q1 q2 q3
      have hNk := four_num fK hl0
      cases g with
      | true =>
        have hr := (hR rfl).symm
        subst hr
        clear cQ hR
        go_wp2
        exact bodyPost_ret (v := .tuple #[A4 R, .int .i64 0]) (by simp only [results, Tryz.results29]; go_simp) rfl ⟨rfl, bgo⟩
      | false =>
        replace cQ := cQ rfl
        clear hR
        go_wp2_with (go_at_call 65; refine (cQ _ _ (nv_one (by simp) rfl (by decide))).mono ?_; rintro r w6 ⟨rfl, hb6⟩; obtain ⟨hc6, hf6⟩ := bcell hb6; have hz6_0 : w.heap.size < w6.heap.size := lt_below hb6 ltg; have hl6_0 := Nat.le_of_lt hz6_0; have hz6_1 : w.heap.size + 1 < w6.heap.size := lt_below hb6 ltg; have hl6_1 := Nat.le_of_lt hz6_1; have hz6_2 : w1.heap.size < w6.heap.size := lt_below hb6 ltg; have hl6_2 := Nat.le_of_lt hz6_2; have hz6_3 : w2.heap.size < w6.heap.size := lt_below hb6 ltg; have hl6_3 := Nat.le_of_lt hz6_3; have hA6 := bnext (w0 := w) bgo hb6; have hs6 := hA6.size; clear hb6)
        exact bodyPost_ret (v := .tuple #[A4 R, .int .i64 0]) (by simp only [results, Tryz.results29]; go_simp) rfl ⟨rfl, bgo⟩
end
end
section
set_option maxHeartbeats 1000000 in
theorem rpack_bad (n : Int) (d : Dat) (w : World) (h : ¬ binN n) :
    Calls Tryz.prog 29 #[.int .i64 n, d.v] w fun x w' => x = .returned (.tuple #[Z4, .int .i64 1]) ∧ Below w.heap.size w w' := by
  have c35 := fun w => rbinary_any n w
  rw [decide_eq_false h] at c35
  obtain ⟨c, s, g, x, k⟩ := d
  unfold Dat.v
  dsimp only
  have hsm := cell_set_map
  clear h
  go_enter Tryz.func29, Tryz.ntmps29
  go_wp2_with (go_at_call 14; refine (c35 _).mono ?_; rintro r w0 ⟨rfl, rfl⟩)
  exact bodyPost_ret (v := .tuple #[Z4, .int .i64 1]) (by simp only [results, Tryz.results29]; go_simp) rfl ⟨rfl, bgo⟩
set_option maxHeartbeats 1000000 in
theorem rpack_none (n : Int) (nm : ByteArray) (wd : Int) (f e : Nat) (l m : Int) (c x : Int) (s g : Bool) (k : Nat) (w : World)
    (c35 : ∀ w, Calls Tryz.prog 14 #[.int .i64 n] w fun x w' => x = .returned (.bool true) ∧ w = w')
    (c25 : ∀ w, Calls Tryz.prog 28 #[.int .i64 n] w fun x w' => x = .returned (.tuple #[IV n nm wd f e l m, .int .i64 0]) ∧ Below w.heap.size w w')
    (c36 : ∀ w, Calls Tryz.prog 64 #[IV n nm wd f e l m, DV c s g x k] w fun r w' => r = .returned (.bool false) ∧ Below w.heap.size w w') :
    Calls Tryz.prog 29 #[.int .i64 n, DV c s g x k] w fun x w' => x = .returned (.tuple #[Z4, .int .i64 3]) ∧ Below w.heap.size w w' := by
  have hsm := cell_set_map
  go_enter Tryz.func29, Tryz.ntmps29
  go_wp2_with (first
    | (go_at_call 14; refine (c35 _).mono ?_; rintro r w0 ⟨rfl, rfl⟩)
    | (go_at_call 28; refine (c25 _).mono ?_; rintro x w1 ⟨rfl, hb1⟩; obtain ⟨hc1, hf1⟩ := bcell hb1; have hz1_0 : w.heap.size < w1.heap.size := lt_below hb1 ltg; have hl1_0 := Nat.le_of_lt hz1_0; have hz1_1 : w.heap.size + 1 < w1.heap.size := lt_below hb1 ltg; have hl1_1 := Nat.le_of_lt hz1_1; have hA1 := bnext (w0 := w) bgo hb1; have hs1 := hA1.size; clear hb1)
    | (go_at_call 64; refine (c36 _).mono ?_; rintro x w2 ⟨rfl, hb2⟩; obtain ⟨hc2, hf2⟩ := bcell hb2; have hz2_0 : w.heap.size < w2.heap.size := lt_below hb2 ltg; have hl2_0 := Nat.le_of_lt hz2_0; have hz2_1 : w.heap.size + 1 < w2.heap.size := lt_below hb2 ltg; have hl2_1 := Nat.le_of_lt hz2_1; have hz2_2 : w1.heap.size < w2.heap.size := lt_below hb2 ltg; have hl2_2 := Nat.le_of_lt hz2_2; have hA2 := bnext (w0 := w) bgo hb2; have hs2 := hA2.size; clear hb2))
  exact bodyPost_ret (v := .tuple #[Z4, .int .i64 3]) (by simp only [results, Tryz.results29]; go_simp) rfl ⟨rfl, bgo⟩
theorem rof_bin {n : Int} (hb : binN n) (w : World) : Calls Tryz.prog 28 #[.int .i64 n] w fun x w' => x = .returned (.tuple #[IV n (nameN n) (widthN n) (fN n) (eN n) (leastN n) (mostN n), .int .i64 0]) ∧ Below w.heap.size w w' := by
  obtain ⟨hok, hb2, hpr, hex, hwd, hpy⟩ := bin_fields hb
  obtain ⟨hnum, hden⟩ := bin_more hb
  have c25 := rofv_any n w
  rw [show infoE n = 0 from if_pos hok, hnum, hb2, hpr, hex, hden, hpy] at c25
  exact c25
theorem rpack_any (n : Int) (d : Dat) (w : World) (hk : d.k < 2 ^ 256) :
    Calls Tryz.prog 29 #[.int .i64 n, d.v] w fun x w' => x = .returned (.tuple #[A4 (pkV n d), .int .i64 (pkE n d)]) ∧ Below w.heap.size w w' := by
  by_cases hb : binN n
  · have hF := bin_fm hb
    have c25 := fun w => rof_bin hb w
    have c35 : ∀ w, Calls Tryz.prog 14 #[.int .i64 n] w fun x w' => x = .returned (.bool true) ∧ w = w' := fun w => by
      have := rbinary_any n w
      rw [decide_eq_true hb] at this
      exact this.mono fun _ _ ⟨h1, h2⟩ => ⟨h1, h2.symm⟩
    have c36 := fun w => ris_any n (nameN n) (widthN n) (fN n) (eN n) (leastN n) (mostN n) d w hF hk
    by_cases hi : isD (fN n) (leastN n) (mostN n) d
    · rw [decide_eq_true hi] at c36
      have e1 : pkE n d = 0 := by unfold pkE; rw [if_pos hb, if_pos hi]
      have e2 : pkV n d = pk (fN n) (eN n) (leastN n) d := by unfold pkV; rw [if_pos ⟨hb, hi⟩]
      have h256 := pkV_256 n d
      rw [e2] at h256
      rw [e1, e2]
      clear e1 e2
      have hf : 2 ≤ fN n ∧ fN n ≤ 240 := ⟨hF.f2, hF.f240⟩
      have he := hF.e15
      have hfe := hF.fe
      have hpc : ((2 : Int) ^ eN n) = ((2 ^ eN n : Nat) : Int) := by simp
      have hp := pow_e hF.e2 hF.e15
      rw [hpc] at hp
      have hAll : (2 : Int) ^ eN n - 1 = ((2 ^ eN n - 1 : Nat) : Int) := by rw [hpc]; omega
      have hl1 := hF.l1
      have hl0 := hF.l0
      have hm := hF.m
      rw [hpc] at hm
      generalize fN n = f at *
      generalize eN n = e at *
      generalize leastN n = l at *
      generalize mostN n = m at *
      obtain ⟨c, s, g, x, k⟩ := d
      unfold Dat.v at *
      dsimp only at hk c36 ⊢
      have hBs : (if s then 2 ^ (f + e) else 0) < 2 ^ 256 := by
        cases s
        · rw [if_neg (by decide)]; decide
        · exact Nat.pow_lt_pow_right (by decide) (by omega)
      have cS : s = true → ∀ W v, NV 1 1 v W → Calls Tryz.prog 65 #[Z4, v, .int .i64 ((f : Int) + e)] W fun r w' => r = .returned (A4 (if s then 2 ^ (f + e) else 0)) ∧ Below W.heap.size W w' := fun hs W v hv => by
        have := lay_any 0 1 (f + e) 1 v W (by decide) (by decide) (by omega) hv
        rw [Z4_eq, Int.natCast_add, Nat.zero_add, Nat.one_mul] at this
        rw [hs, if_pos rfl]; exact this
      have hB0 : s = false → ∀ i, W4 (if s then 2 ^ (f + e) else 0) i = 0 := fun hs i => by rw [hs, if_neg (by decide), W4_zero]
      have hNv : val (lowW (W4 k) 4) 4 = (k : Int) := by
        rw [val_congr (x := lowW (W4 k) 4) (y := W4 k) 4 (fun i hi => lowW_lt hi), W4_val4 hk]
      unfold pk at h256 ⊢
      dsimp only at h256 ⊢
      rcases hi with ⟨hc, hg, hk1, hx1, hx2, hx3⟩ | ⟨hc, hg, hx, hk0⟩ | ⟨hc, hx, hk1, hg⟩
      · dsimp only at hc hg hk1 hx1 hx2 hx3
        subst hc
        rw [if_pos rfl] at h256 ⊢
        generalize (if s then 2 ^ (f + e) else 0) = Bs at *
        have hL := len4_le (k := f) hk
        have hpf : 2 ^ (f + 1) = 2 ^ f + 2 ^ f := by rw [Nat.pow_succ]; omega
        have hFr : k % 2 ^ f < 2 ^ f := Nat.mod_lt _ (Nat.two_pow_pos _)
        have hFk : k % 2 ^ f ≤ k := Nat.mod_le _ _
        have c26 : ∀ W, Calls Tryz.prog 66 #[A4 k, .int .i64 0, .int .i64 f] W fun e w' => ∃ r, e = .returned r ∧ NV 19 (k % 2 ^ f) r w' ∧ Below W.heap.size W w' := fun W => by
          have := field_any k 0 f W hk (by decide) (by omega)
          rw [show ((0 : Nat) : Int) = 0 from rfl, Nat.pow_zero, Nat.div_one] at this
          exact this.mono fun _ _ ⟨r, h1, h2, h3⟩ => ⟨r, h1, h2.nv, h3⟩
        have cF : ∀ W v, NV 19 (k % 2 ^ f) v W → Calls Tryz.prog 65 #[A4 Bs, v, .int .i64 0] W fun r w' => r = .returned (A4 (Bs + k % 2 ^ f)) ∧ Below W.heap.size W w' := fun W v hv => by
          have := lay_any Bs (k % 2 ^ f) 0 19 v W hBs (by decide) (by decide) hv
          rw [show ((0 : Nat) : Int) = 0 from rfl, Nat.pow_zero, Nat.mul_one] at this
          exact this
        have c38 : ∀ W, Num W (some ⟨w.heap.size, 4, none⟩) 4 4 (lowW (W4 k) 4) → Calls Tryz.prog 33 #[.slice (some ⟨w.heap.size, 4, none⟩) 4 4] W fun e w' => e = .returned (.int .i64 (lenL (W4 k) 4)) ∧ W = w' := fun W hN => by
          have := rlen_num (some ⟨w.heap.size, 4, none⟩) 4 4 (lowW (W4 k) 4) W (by decide) hN
          rw [lenL_low] at this
          exact this
        have hmul : ((x - l).toNat + 1) * 2 ^ f = (x - l).toNat * 2 ^ f + 2 ^ f := by rw [Nat.add_mul, Nat.one_mul]
        refine rpack1 n _ _ f e (2 ^ e - 1) _ Bs l m x s g k w hf he hAll c35 c25 cS hB0 c36 (Bs + k % 2 ^ f) (k % 2 ^ f) ((x - l).toNat + 1) (lenL (W4 k) 4) (by omega) (by omega) (by omega) c38 ?_ c26 cF ?_
        · intro hlt W hN
          have hkf : k < 2 ^ f := hL.1 (by omega)
          obtain rfl : x = l := by omega
          have := lay_off Bs k 0 4 w.heap.size 4 4 _ W hBs (by decide) (by decide) hN hNv
          rw [show ((0 : Nat) : Int) = 0 from rfl, Nat.pow_zero, Nat.mul_one] at this
          rw [Int.sub_self, Int.toNat_zero, Nat.zero_mul, Nat.zero_add, Nat.add_comm k]
          exact this
        · intro hlt W v hv
          have hkf : 2 ^ f ≤ k := by
            rcases Nat.lt_or_ge k (2 ^ f) with hh | hh
            · have := hL.2 hh; omega
            · exact hh
          have hke : k % 2 ^ f + 2 ^ f = k := by
            rw [Nat.mod_eq_sub_mod hkf, Nat.mod_eq_of_lt (by omega)]; omega
          have := lay_any (Bs + k % 2 ^ f) ((x - l).toNat + 1) f 1 v W (by omega) (by decide) (by omega) hv
          rw [show Bs + k % 2 ^ f + ((x - l).toNat + 1) * 2 ^ f = (x - l).toNat * 2 ^ f + k + Bs by omega] at this
          exact this
      · dsimp only at hc hg hx hk0
        subst hc
        rw [if_neg (by decide), if_pos rfl, Nat.add_zero] at h256 ⊢
        generalize (if s then 2 ^ (f + e) else 0) = Bs at *
        refine rpack2 n _ _ f e (2 ^ e - 1) _ Bs l m x s g k w hf he hAll c35 c25 cS hB0 c36 fun W v hv => ?_
        have := lay_any Bs (2 ^ e - 1) f 1 v W hBs (by decide) (by omega) hv
        rw [Nat.add_comm Bs] at this
        exact this
      · dsimp only at hc hx hk1 hg
        subst hc
        rw [if_neg (by decide), if_neg (by decide)] at h256 ⊢
        generalize (if s then 2 ^ (f + e) else 0) = Bs at *
        generalize hA : (2 ^ e - 1) * 2 ^ f = A at *
        have hlt : A + k + Bs < 2 ^ 256 := by cases g <;> simp at h256 <;> omega
        refine rpack3 n _ _ f e (2 ^ e - 1) _ Bs l m x s g k w hf he hAll c35 c25 cS hB0 c36 (Bs + A) (Bs + A + k) ?_ ?_ ?_ ?_
        · intro W v hv
          have := lay_any Bs (2 ^ e - 1) f 1 v W hBs (by decide) (by omega) hv
          rw [hA] at this
          exact this
        · intro W hN
          have := lay_off (Bs + A) k 0 4 w.heap.size 4 4 _ W (by omega) (by decide) (by decide) hN hNv
          rw [show ((0 : Nat) : Int) = 0 from rfl, Nat.pow_zero, Nat.mul_one] at this
          exact this
        · intro hg W v hv
          have := lay_any (Bs + A + k) 1 (f - 1) 1 v W (by omega) (by decide) (by omega) hv
          rw [show ((f - 1 : Nat) : Int) = (f : Int) - 1 by omega, Nat.one_mul] at this
          subst hg
          rw [if_neg (by decide), show A + (k + 2 ^ (f - 1)) + Bs = Bs + A + k + 2 ^ (f - 1) by omega]
          exact this
        · intro hg
          subst hg
          rw [if_pos rfl]; omega
    · rw [decide_eq_false hi] at c36
      have e1 : pkE n d = 3 := by unfold pkE; rw [if_pos hb, if_neg hi]
      have e2 : pkV n d = 0 := by unfold pkV; exact if_neg fun h => hi h.2
      rw [e1, e2, Z4_eq]
      exact rpack_none n _ _ _ _ _ _ _ _ _ _ _ w c35 c25 c36
  · have e1 : pkV n d = 0 := if_neg fun h => hb h.1
    have e2 : pkE n d = 1 := if_neg hb
    rw [e1, e2, Z4_eq]
    exact rpack_bad n d w hb
end
section
theorem nv_one_drew {W : World} {g V : Nat} {vi : Int} (hg : g = W.heap.size) (hv : vi = (V : Int)) (hb : V < 18446744073709551616) : NV 1 V (.slice (some ⟨g, 0, none⟩) 1 1) (W.alloc (.cells #[.int .u64 vi] 23)).drew :=
  (nv_one hg hv hb).next (Below.refl _ _).drew
attribute [local irreducible] W4 NT NV
end
section
attribute [local irreducible] W4 NT NV

set_option maxHeartbeats 20000000 in
theorem rlargest_ok (n : Int) (nm : ByteArray) (wd : Int) (f e P K R : Nat) (l m Er : Int) (s : Bool) (w : World) (hP : 1 ≤ P)
    (c35 : ∀ w, Calls Tryz.prog 14 #[.int .i64 n] w fun x w' => x = .returned (.bool true) ∧ w = w')
    (c25 : ∀ w, Calls Tryz.prog 28 #[.int .i64 n] w fun x w' => x = .returned (.tuple #[IV n nm wd f e l m, .int .i64 0]) ∧ Below w.heap.size w w')
    (c30 : ∀ w, Calls Tryz.prog 76 #[.int .u64 2, .int .i64 ((f : Int) + 1)] w fun x w' => ∃ v, x = .returned v ∧ NV K P v w' ∧ Below w.heap.size w w')
    (c41 : ∀ W v v', NV K P v W → NV 1 1 v' W → Calls Tryz.prog 75 #[v, v'] W fun e w' => ∃ r, e = .returned r ∧ NV (K + 1) (P - 1) r w' ∧ Below W.heap.size W w')
    (c13 : ∀ w, Calls Tryz.prog 29 #[.int .i64 n, DV 1 s false m (P - 1)] w fun r w' => r = .returned (.tuple #[A4 R, .int .i64 Er]) ∧ Below w.heap.size w w')
    : Calls Tryz.prog 35 #[.int .i64 n, .bool s] w fun x w' => x = .returned (.tuple #[A4 R, .int .i64 Er]) ∧ Below w.heap.size w w' := by
  have hsm := cell_set_map
  have hds : ∀ W : World, W.drew.heap.size = W.heap.size := fun W => by simp
  go_enter Tryz.func35, Tryz.ntmps35
  go_wp2_with (first
    | (go_at_call 14; refine (c35 _).mono ?_; rintro r w0 ⟨rfl, rfl⟩)
    | (go_at_call 28; refine (c25 _).mono ?_; rintro x w1 ⟨rfl, hb1⟩; obtain ⟨hc1, hf1⟩ := bcell hb1; have hz1_0 : w.heap.size < w1.heap.size := lt_below hb1 ltg; have hl1_0 := Nat.le_of_lt hz1_0; have hA1 := bnext (w0 := w) bgo hb1; have hs1 := hA1.size; clear hb1))
  have hm0 : w.heap.size < w1.heap.size + 1 + 1 := by omega
  have hm2 : w.heap.size < w1.heap.size + 2 := by omega
  go_region_with (first
    | (go_at_call 76; refine (c30 _).mono ?_; rintro r w3 ⟨v3, rfl, h3, hb3⟩; (try have hone : NV 1 1 (.slice (some ⟨w1.heap.size + 1, 0, none⟩) 1 1) w3 := (nv_one_drew (by simp) rfl (by decide)).next hb3); obtain ⟨hc3, hf3⟩ := bcell hb3; have hz3_0 : w.heap.size < w3.heap.size := lt_below hb3 ltg; have hl3_0 := Nat.le_of_lt hz3_0; have hz3_1 : w1.heap.size < w3.heap.size := lt_below hb3 ltg; have hl3_1 := Nat.le_of_lt hz3_1; have hA3 := bnext (w0 := w) bgo hb3; have hs3 := hA3.size; clear hb3)
    | (go_at_call 75; refine (c41 _ _ _ (by first | exact h3 | exact h3.next bgo) (by first | exact hone | exact nv_one (by simp) rfl (by decide))).mono ?_; rintro r w4 ⟨v4, rfl, h4, hb4⟩; obtain ⟨hc4, hf4⟩ := bcell hb4; have hz4_0 : w.heap.size < w4.heap.size := lt_below hb4 ltg; have hl4_0 := Nat.le_of_lt hz4_0; have hz4_1 : w1.heap.size < w4.heap.size := lt_below hb4 ltg; have hl4_1 := Nat.le_of_lt hz4_1; have hA4 := bnext (w0 := w) bgo hb4; have hs4 := hA4.size; clear hb4)
    | (go_at_call 37; refine (bits_nv h4).mono ?_; rintro r w5 ⟨rfl, hb5⟩; obtain ⟨hc5, hf5⟩ := bcell hb5; have hz5_0 : w.heap.size < w5.heap.size := lt_below hb5 ltg; have hl5_0 := Nat.le_of_lt hz5_0; have hz5_1 : w1.heap.size < w5.heap.size := lt_below hb5 ltg; have hl5_1 := Nat.le_of_lt hz5_1; have hA5 := bnext (w0 := w) bgo hb5; have hs5 := hA5.size; clear hb5)
    | (go_at_call 29; refine (c13 _).mono ?_; rintro r w6 ⟨rfl, hb6⟩; obtain ⟨hc6, hf6⟩ := bcell hb6; have hz6_0 : w.heap.size < w6.heap.size := lt_below hb6 ltg; have hl6_0 := Nat.le_of_lt hz6_0; have hz6_1 : w1.heap.size < w6.heap.size := lt_below hb6 ltg; have hl6_1 := Nat.le_of_lt hz6_1; have hA6 := bnext (w0 := w) bgo hb6; have hs6 := hA6.size; clear hb6))
  all_goals (
    go_wp2_with fail
    exact bodyPost_ret (v := .tuple #[A4 R, .int .i64 Er]) (by simp only [results, Tryz.results35]; go_simp) rfl ⟨rfl, bgo⟩)
end
end Go.Proofs.YtpemdcnneabbfaaGreatDoor
