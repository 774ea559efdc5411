/-
  Texts that the proof leans on.
-/
import Derived.Test.YtehgnckgmdkfmaaDoorJ11
import Derived.Test.YtehgnckgmdkfmaaDoorJ5
import Derived.Test.YtehgnckgmdkfmaaDoorJ6
set_option linter.unusedVariables false
set_option linter.unusedSectionVars false
set_option linter.unusedSimpArgs false
set_option maxRecDepth 20000
namespace Go.Proofs.YtehgnckgmdkfmaaDoor
open Go.RowKit
section
/-- what the search compares with -/
theorem dl_and (d : Nat) (hd : d < 1024) : ((bits .and .i64 (d : Int) 110 = 110) ↔ (d / 32 % 4 = 3 ∧ d / 2 % 8 = 7)) ∧ bits .and .i64 (d : Int) 255 = ((d % 256 : Nat) : Int) := by
  have h := upTo_all (f := fun d => decide (((bits .and .i64 (d : Int) 110 = 110) ↔ (d / 32 % 4 = 3 ∧ d / 2 % 8 = 7)) ∧ bits .and .i64 (d : Int) 255 = ((d % 256 : Nat) : Int))) (m := 1024) (by decide +kernel) d hd
  exact of_decide_eq_true h
theorem dlM_iff {d : Nat} (hd : d < 1024) (n : Nat) : dlM d n = true ↔ ((dlE n : Int) = (d : Int) ∨ bits .and .i64 (d : Int) 110 = 110 ∧ (dlE n : Int) = bits .and .i64 (d : Int) 255) := by
  obtain ⟨h1, h2⟩ := dl_and d hd
  rw [h1, h2]
  unfold dlM
  simp only [Bool.or_eq_true, Bool.and_eq_true, beq_iff_eq]
  omega
section
variable (d : Nat) (w : World) (N : Nat) (E : Nat → Int) (A B : Int) (hA : bits .and .i64 (d : Int) 110 = A) (hB : bits .and .i64 (d : Int) 255 = B) (hd : d < 1024) (hN : N < 1000)
  (hy : E N = (d : Int) ∨ A = 110 ∧ E N = B) (hn : Hid (∀ i, i < N → ¬ (E i = (d : Int) ∨ A = 110 ∧ E i = B)))
  (c10 : ∀ i : Nat, i < 1000 → ∀ W, Calls Tryd.prog 60 #[.int .i64 (i : Int)] W fun r w' => r = .returned (.tuple #[.int .i64 (E i), .int .i64 0]) ∧ Below W.heap.size W w')
include hA hB hd hN hy hn c10
set_option maxHeartbeats 2000000 in
theorem dcd_w : Calls Tryd.prog 79 #[.int .i64 (d : Int)] w fun r w' => r = .returned (.tuple #[.int .i64 (N : Int), .int .i64 0]) ∧ Below w.heap.size w w' := by
  have h0 : ¬ (d : Int) < 0 := by omega
  have h9 : ¬ 1023 < (d : Int) := by omega
  go_enter Tryd.func79, Tryd.ntmps79
  go_wp2
  go_loopw [2, 3, 13] (fun _ _ t wr => ∃ i : Nat, i ≤ N ∧ t = .int .i64 (i : Int) ∧ Below w.heap.size w wr) (fun _ _ t _ => 1000 - (intOf t).toNat)
  case atStart => exact ⟨0, Nat.zero_le _, rfl, bgo⟩
  case round =>
    obtain ⟨i, hi, rfl, hbw⟩ := hrel
    have hl : (i : Int) < 1000 := by omega
    have c := c10 i (by omega)
    have hsz := hbw.size
    by_cases hiN : i = N
    · subst hiN
      by_cases e1 : E i = (d : Int)
      · have e2 : (E i == (d : Int)) = true := by simpa using e1
        clear hy e1
        generalize E i = Ei at *
        go_wp2_with (go_at_call 60; refine (c _).mono ?_; rintro r w1 ⟨rfl, hb1⟩; obtain ⟨hc1, hf1⟩ := bcell hb1; have hA1 := bnext (w0 := w) bgo hb1; have hs1 := hA1.size; clear hb1)
        exact bodyPost_ret (by simp only [results, Tryd.results79]; go_simp) rfl ⟨rfl, bgo⟩
      · obtain ⟨a1, a2⟩ := hy.resolve_left e1
        have e2 : (E i == (d : Int)) = false := by simpa using e1
        have e3 : (E i == B) = true := by simpa using a2
        subst a1
        clear a2 e1 hy
        generalize E i = Ei at *
        go_wp2_with (go_at_call 60; refine (c _).mono ?_; rintro r w1 ⟨rfl, hb1⟩; obtain ⟨hc1, hf1⟩ := bcell hb1; have hA1 := bnext (w0 := w) bgo hb1; have hs1 := hA1.size; clear hb1)
        exact bodyPost_ret (by simp only [results, Tryd.results79]; go_simp) rfl ⟨rfl, bgo⟩
    · have q := (show ∀ i, i < N → ¬ (E i = (d : Int) ∨ A = 110 ∧ E i = B) from hn) i (by omega)
      have e2 : (E i == (d : Int)) = false := by simpa using fun e => q (Or.inl e)
      clear hy
      by_cases a1 : A = 110
      · have e3 : (E i == B) = false := by simpa using fun e => q (Or.inr ⟨a1, e⟩)
        subst a1
        clear q
        generalize E i = Ei at *
        go_wp2_with (go_at_call 60; refine (c _).mono ?_; rintro r w1 ⟨rfl, hb1⟩; obtain ⟨hc1, hf1⟩ := bcell hb1; have hA1 := bnext (w0 := w) bgo hb1; have hs1 := hA1.size; clear hb1)
        go_roundw
        case rel => exact ⟨i + 1, by omega, by go_num, bgo⟩
        case measure => simp [intOf]; omega
      · have e3 : (A == 110) = false := by simpa using a1
        clear q a1
        generalize E i = Ei at *
        go_wp2_with (go_at_call 60; refine (c _).mono ?_; rintro r w1 ⟨rfl, hb1⟩; obtain ⟨hc1, hf1⟩ := bcell hb1; have hA1 := bnext (w0 := w) bgo hb1; have hs1 := hA1.size; clear hb1)
        go_roundw
        case rel => exact ⟨i + 1, by omega, by go_num, bgo⟩
        case measure => simp [intOf]; omega
end
theorem dcd_v (d : Nat) (hd : d < 1024) (w : World) : Calls Tryd.prog 79 #[.int .i64 (d : Int)] w fun r w' => r = .returned (.tuple #[.int .i64 (dlD d : Int), .int .i64 0]) ∧ Below w.heap.size w w' := by
  obtain ⟨h1, h2, h3⟩ := dl_means d hd
  exact dcd_w d w (dlD d) (fun i => (dlE i : Int)) _ _ rfl rfl hd h1 ((dlM_iff hd _).1 h2) (fun i hi q => by
    have := (dl_only hd (by omega : i < 1000)).1 ((dlM_iff hd i).2 q)
    omega) (fun i hi W => enc_v i hi W)
end
section
/-- a pattern lies in a block of its own -/
structure C4 (g X : Nat) (w : World) : Prop where
  lt : g < w.heap.size
  c0 : w.cell? ⟨g, 0, none⟩ = some (.int .u64 (W4 X 0))
  c1 : w.cell? ⟨g, 1, none⟩ = some (.int .u64 (W4 X 1))
  c2 : w.cell? ⟨g, 2, none⟩ = some (.int .u64 (W4 X 2))
  c3 : w.cell? ⟨g, 3, none⟩ = some (.int .u64 (W4 X 3))
  f0 : w.frozen? ⟨g, 0, none⟩ = false
  f1 : w.frozen? ⟨g, 1, none⟩ = false
  f2 : w.frozen? ⟨g, 2, none⟩ = false
  f3 : w.frozen? ⟨g, 3, none⟩ = false
theorem C4.next {g X : Nat} {w w' : World} (h : C4 g X w) (hb : Below w.heap.size w w') : C4 g X w' :=
  ⟨Nat.lt_of_lt_of_le h.lt hb.size, (hb.cell (p := ⟨g, 0, none⟩) h.lt).trans h.c0, (hb.cell (p := ⟨g, 1, none⟩) h.lt).trans h.c1, (hb.cell (p := ⟨g, 2, none⟩) h.lt).trans h.c2, (hb.cell (p := ⟨g, 3, none⟩) h.lt).trans h.c3,
    (hb.frozen (p := ⟨g, 0, none⟩) h.lt).trans h.f0, (hb.frozen (p := ⟨g, 1, none⟩) h.lt).trans h.f1, (hb.frozen (p := ⟨g, 2, none⟩) h.lt).trans h.f2, (hb.frozen (p := ⟨g, 3, none⟩) h.lt).trans h.f3⟩
theorem C4.new (w : World) (t : TypeId) : C4 w.heap.size 0 (w.alloc (.cells #[.int .u64 0, .int .u64 0, .int .u64 0, .int .u64 0] t)) := by
  refine ⟨by simp, ?_, ?_, ?_, ?_, ?_, ?_, ?_, ?_⟩ <;> first | (rw [W4_zero]; go_simp) | go_simp
/-- a pattern written over another one -/
abbrev put4C (w : World) (g X : Nat) : World := (((w.setCell ⟨g, 0, none⟩ (.int .u64 (W4 X 0))).setCell ⟨g, 1, none⟩ (.int .u64 (W4 X 1))).setCell ⟨g, 2, none⟩ (.int .u64 (W4 X 2))).setCell ⟨g, 3, none⟩ (.int .u64 (W4 X 3))
theorem C4.put {g X Y : Nat} {w : World} (h : C4 g X w) : C4 g Y (put4C w g Y) := by
  have hsm := cell_set_map
  obtain ⟨h0, h1, h2, h3, h4, h5, h6, h7, h8⟩ := h
  refine ⟨by simp; exact h0, ?_, ?_, ?_, ?_, ?_, ?_, ?_, ?_⟩ <;> go_simp
theorem put4C_upd (w : World) (g X : Nat) : Upd g w (put4C w g X) := ((((Upd.refl g w).set 0 _).set 1 _).set 2 _).set 3 _
/-- a number elsewhere stays -/
theorem NT.upd {K V g b k c : Nat} {w w' : World} (h : NT K V (.slice (some ⟨b, 0, none⟩) k c) w) (hne : b ≠ g) (hU : Upd g w w') : NT K V (.slice (some ⟨b, 0, none⟩) k c) w' := by
  obtain ⟨g', k', c', z, e, hk, hN, hv, hs⟩ := h
  cases e
  exact ⟨b, k, c, z, rfl, hk, hU.num hne hN, hv, hs⟩
theorem NT.lt {K V b k c : Nat} {w : World} (h : NT K V (.slice (some ⟨b, 0, none⟩) k c) w) : b < w.heap.size := by
  obtain ⟨g', k', c', z, e, hk, hN, hv, hs⟩ := h
  cases e
  rcases hN.2.2.2.2 with ⟨h, _⟩ | ⟨b', off', h, hbs, _⟩
  · cases h
  · cases h; exact hbs
theorem nt_thou {W : World} {g : Nat} (hg : g = W.heap.size) : NT 1 1000 (.slice (some ⟨g, 0, none⟩) 1 1) (W.alloc (.cells #[.int .u64 1000] 22)) := by
  subst hg
  exact ⟨_, 1, 1, oneW 1000, rfl, Nat.le_refl _, num_one W 1000 (by omega), by simp [val, oneW], by simp [sizeL, oneW]⟩
theorem nv_dec {W : World} {g V : Nat} {vi : Int} (hg : g = W.heap.size) (hv : vi = (V : Int)) (hb : V < 18446744073709551616) : NV 1 V (.slice (some ⟨g, 0, none⟩) 1 1) (W.alloc (.cells #[.int .u64 vi] 22)) := by
  subst hg hv
  exact ⟨_, 1, 1, oneW V, rfl, Nat.le_refl _, num_one W V (by omega), by simp [val, oneW]⟩
attribute [local irreducible] W4 NT NV
set_option maxHeartbeats 1000000 in
theorem rnat13 (k : Nat) (w : World) (hk : k < 2 ^ 256) :
    Calls Tryd.prog 28 #[A4 k] w fun r w' => ∃ g n cap, r = .returned (.slice (some ⟨g, 0, none⟩) n cap) ∧ w.heap.size < g ∧ NT 4 k (.slice (some ⟨g, 0, none⟩) n cap) w' ∧ Below w.heap.size w w' := by
  have hn0 := box_nv (w0 := w) (B := k) (t := 24) hk (Below.refl _ _)
  have c49 : Calls Tryd.prog 59 #[.slice (some ⟨w.heap.size, 0, none⟩) 4 4] (w.alloc (.cells #[.int .u64 (W4 k 0), .int .u64 (W4 k 1), .int .u64 (W4 k 2), .int .u64 (W4 k 3)] 24)) fun r w' => ∃ g n cap, r = .returned (.slice (some ⟨g, 0, none⟩) n cap) ∧ w.heap.size < g ∧ NT 4 k (.slice (some ⟨g, 0, none⟩) n cap) w' ∧ Below (w.alloc (.cells #[.int .u64 (W4 k 0), .int .u64 (W4 k 1), .int .u64 (W4 k 2), .int .u64 (W4 k 3)] 24)).heap.size (w.alloc (.cells #[.int .u64 (W4 k 0), .int .u64 (W4 k 1), .int .u64 (W4 k 2), .int .u64 (W4 k 3)] 24)) w' := by
    unfold NV at hn0
    obtain ⟨g, n, cap, z, e, hn, hN, hv⟩ := hn0
    cases e
    refine (trimf_any _ 4 4 z _ (by decide) hN).mono ?_
    rintro r w' ⟨g, cap, rfl, hN', hB, hG⟩
    refine ⟨g, _, cap, rfl, by simp at hG; omega, ?_, hB⟩
    unfold NT
    exact ⟨g, _, cap, z, rfl, sizeL_le _ _, hN', by rw [val_bare, hv], sizeL_sizeL _ _⟩
  have hb0 := below1 w (.cells #[.int .u64 (W4 k 0), .int .u64 (W4 k 1), .int .u64 (W4 k 2), .int .u64 (W4 k 3)] 24)
  clear hn0
  unfold A4
  go_enter Tryd.func28, Tryd.ntmps28
  go_wp2_with (go_at_call 59; refine c49.mono ?_; rintro r w1 ⟨g, n, cap, rfl, hg, hv, hb1⟩)
  go_ret
  exact ⟨g, n, cap, rfl, hg, hv, hb0.trans (hb1.mono hb0.size)⟩
set_option maxHeartbeats 400000 in
theorem rpck_bad (C : Nat) (n : Int) (h : n < 0 ∨ 11 < n) (w : World) : Calls Tryd.prog 29 #[A4 C, .int .i64 n] w fun r w' => r = .returned (.tuple #[A4 0, .int .i64 1]) ∧ Below w.heap.size w w' := by
  rw [Z4_eq]
  have hsm := cell_set_map
  by_cases h0 : n < 0
  · go_enter Tryd.func29, Tryd.ntmps29
    go_wp2
    exact bodyPost_ret (by simp only [results, Tryd.results29]; go_simp) rfl ⟨rfl, bgo⟩
  · have h1 : 11 < n := by omega
    go_enter Tryd.func29, Tryd.ntmps29
    go_wp2
    exact bodyPost_ret (by simp only [results, Tryd.results29]; go_simp) rfl ⟨rfl, bgo⟩
section
variable (C c : Nat) (w : World) (A P D : Nat → Nat) (hc : c ≤ 11)
  (c22 : ∀ W, Calls Tryd.prog 28 #[A4 C] W fun r w' => ∃ g n cap, r = .returned (.slice (some ⟨g, 0, none⟩) n cap) ∧ W.heap.size < g ∧ NT 4 (A 0) (.slice (some ⟨g, 0, none⟩) n cap) w' ∧ Below W.heap.size W w')
  (c23 : Hid (∀ i, i < c → ∀ W vn vd, NT 4 (A i) vn W → NT 1 1000 vd W → Calls Tryd.prog 30 #[vn, vd] W fun r w' => ∃ g k cap v, r = .returned (.tuple #[.slice (some ⟨g, 0, none⟩) k cap, v]) ∧ W.heap.size ≤ g ∧ NT 4 (A (i + 1)) (.slice (some ⟨g, 0, none⟩) k cap) w' ∧ NT 1 (A i % 1000) v w' ∧ Below W.heap.size W w'))
  (c24 : Hid (∀ i W v, NT 1 (A i % 1000) v W → Calls Tryd.prog 33 #[v] W fun r w' => r = .returned (.int .i64 ((A i % 1000 : Nat) : Int)) ∧ W = w'))
  (c10 : Hid (∀ i W, Calls Tryd.prog 60 #[.int .i64 ((A i % 1000 : Nat) : Int)] W fun r w' => r = .returned (.tuple #[.int .i64 (D i : Int), .int .i64 0]) ∧ Below W.heap.size W w'))
  (hD : Hid (∀ i, D i < 1024))
  (c25 : Hid (∀ i, i < c → ∀ W v, NV 1 (D i) v W → Calls Tryd.prog 27 #[A4 (P i), v, .int .i64 (10 * (i : Int))] W fun r w' => r = .returned (A4 (P (i + 1))) ∧ Below W.heap.size W w'))
  (hP : P 0 = 0)
include hc c22 c23 c24 c10 hD c25 hP
set_option maxHeartbeats 4000000 in
theorem rpck_w (R : Nat) (E : Int) (hR : (A c = 0 ∧ R = P c ∧ E = 0) ∨ (A c ≠ 0 ∧ R = 0 ∧ E = 3)) : Calls Tryd.prog 29 #[A4 C, .int .i64 (c : Int)] w fun r w' => r = .returned (.tuple #[A4 R, .int .i64 E]) ∧ Below w.heap.size w w' := by
  have h0 : ¬ (c : Int) < 0 := by omega
  have h9 : ¬ 11 < (c : Int) := by omega
  have hsm := cell_set_map
  go_enter Tryd.func29, Tryd.ntmps29
  go_wp2_with (go_at_call 28; refine (c22 _).mono ?_; rintro r w1 ⟨ga, na, ca, rfl, hga, hna, hb1⟩; obtain ⟨hc1, hf1⟩ := bcell hb1; have hz1_0 : w.heap.size < w1.heap.size := lt_below hb1 ltg; have hl1_0 := Nat.le_of_lt hz1_0; have hz1_1 : w.heap.size + 1 < w1.heap.size := lt_below hb1 ltg; have hl1_1 := Nat.le_of_lt hz1_1; have hA1 := bnext (w0 := w) bgo hb1; have hs1 := hA1.size; clear hb1)
  go_loopw [6, 9, 10, 11, 12, 8, 23] (fun t6 _ _ _ _ _ t wr => ∃ (i g k cap : Nat), i ≤ c ∧ t = .int .i64 (i : Int) ∧ t6 = .slice (some ⟨g, 0, none⟩) k cap ∧ g ≠ w1.heap.size ∧ NT 4 (A i) (.slice (some ⟨g, 0, none⟩) k cap) wr ∧ C4 w1.heap.size (P i) wr ∧ C4 (w.heap.size + 1) 0 wr ∧ Below w.heap.size w wr) (fun _ _ _ _ _ _ t _ => c - (intOf t).toNat)
  case atStart =>
    have hga1 := hna.lt
    exact ⟨0, ga, na, ca, Nat.zero_le _, rfl, rfl, by omega, hna.next (below1 _ _), by rw [hP]; exact C4.new _ _, by refine ⟨by simp; omega, ?_, ?_, ?_, ?_, ?_, ?_, ?_, ?_⟩ <;> first | (rw [W4_zero]; go_simp) | go_simp, bgo⟩
  case round =>
    obtain ⟨i, g, k, cap, hi, rfl, rfl, hg, hn, h4, h5, hbw⟩ := hrel
    have hl4 := h4.lt
    have hl5 := h5.lt
    have hl6 : w.heap.size < wr.heap.size := by omega
    have hge : w.heap.size ≤ w1.heap.size := hA1.size
    obtain ⟨_, p0, p1, p2, p3, f0, f1, f2, f3⟩ := id h4
    obtain ⟨_, q0, q1, q2, q3, e0, e1, e2, e3⟩ := id h5
    by_cases hic : i < c
    · have hl : (i : Int) < (c : Int) := by omega
      have d23 := c23.out i hic
      have d24 := c24.out i
      have d10 := c10.out i
      have dD := hD.out i
      have d25 := c25.out i hic
      have dd0 : (0 : Int) ≤ (D i : Int) := by omega
      have dd1 : (D i : Int) ≤ 1023 := by omega
      clear hR
      generalize D i = Di at *
      generalize A i % 1000 = Xi at *
      generalize P i = Pi at *
      go_wp2_with (first
        | (go_at_call 30; refine (d23 _ _ _ (hn.next (below1 _ _)) (nt_thou rfl)).mono ?_; rintro r w2 ⟨g2, k2, cap2, v2, rfl, hg2, hn2, hr2, hb2⟩; have hq2 := (h4.next (below1 _ _)).next hb2; have ho2 := (h5.next (below1 _ _)).next hb2; obtain ⟨hc2, hf2⟩ := bcell hb2; have hz2_0 : w1.heap.size < w2.heap.size := lt_below hb2 ltg; have hl2_0 := Nat.le_of_lt hz2_0; have hz2_1 : w.heap.size < w2.heap.size := lt_below hb2 ltg; have hl2_1 := Nat.le_of_lt hz2_1; have hz2_2 : w.heap.size + 1 < w2.heap.size := lt_below hb2 ltg; have hl2_2 := Nat.le_of_lt hz2_2; have hA2 := bnext (w0 := w) bgo hb2; have hs2 := hA2.size; clear hb2)
        | (go_at_call 33; refine (d24 _ _ hr2).mono ?_; rintro r w3 ⟨rfl, rfl⟩)
        | (go_at_call 60; refine (d10 _).mono ?_; rintro r w4 ⟨rfl, hb4⟩; have hn4 := hn2.next hb4; have hq4 := hq2.next hb4; have ho4 := ho2.next hb4; obtain ⟨hc4, hf4⟩ := bcell hb4; have hz4_0 : w1.heap.size < w4.heap.size := lt_below hb4 ltg; have hl4_0 := Nat.le_of_lt hz4_0; have hz4_1 : w.heap.size < w4.heap.size := lt_below hb4 ltg; have hl4_1 := Nat.le_of_lt hz4_1; have hz4_2 : w.heap.size + 1 < w4.heap.size := lt_below hb4 ltg; have hl4_2 := Nat.le_of_lt hz4_2; have hA4 := bnext (w0 := w) bgo hb4; have hs4 := hA4.size; clear hb4)
        | (go_at_call 27; refine (d25 _ _ (nv_dec rfl rfl (by omega))).mono ?_; rintro r w5 ⟨rfl, hb5⟩; have hn5 := (hn4.next (below1 _ _)).next hb5; have hq5 := (hq4.next (below1 _ _)).next hb5; have ho5 := (ho4.next (below1 _ _)).next hb5; obtain ⟨hc5, hf5⟩ := bcell hb5; have hz5_0 : w1.heap.size < w5.heap.size := lt_below hb5 ltg; have hl5_0 := Nat.le_of_lt hz5_0; have hz5_1 : w.heap.size < w5.heap.size := lt_below hb5 ltg; have hl5_1 := Nat.le_of_lt hz5_1; have hz5_2 : w.heap.size + 1 < w5.heap.size := lt_below hb5 ltg; have hl5_2 := Nat.le_of_lt hz5_2; have hA5 := bnext (w0 := w) bgo hb5; have hs5 := hA5.size; clear hb5))
      have hgs : w1.heap.size < g2 := by simp at hg2; omega
      go_roundw
      case rel => exact ⟨i + 1, g2, k2, cap2, by omega, by go_num, rfl, by omega, hn5.upd (by omega) (put4C_upd _ _ _), hq5.put, ⟨by simp; exact ho5.lt, by go_simp, by go_simp, by go_simp, by go_simp, by go_simp, by go_simp, by go_simp, by go_simp⟩, bgo⟩
      case measure => simp [intOf]; omega
    · have hl : ¬ (i : Int) < (c : Int) := by omega
      obtain rfl : i = c := by omega
      obtain ⟨g', k', cap', e', hk', hz⟩ := hn.zero
      cases e'
      rcases hR with ⟨hA0, rfl, rfl⟩ | ⟨hA0, rfl, rfl⟩
      · obtain rfl : k = 0 := hz.2 hA0
        clear hz hA0 hn hk'
        go_wp2
        exact bodyPost_ret (by simp only [results, Tryd.results29]; go_simp) rfl ⟨rfl, bgo⟩
      · have hk0 : (0 : Int) < (k : Int) := by
          have : k ≠ 0 := fun e => hA0 (hz.1 e)
          omega
        clear hz hA0 hn hk'
        go_wp2
        exact bodyPost_ret (v := .tuple #[A4 0, .int .i64 3]) (by rw [Z4_eq]; simp only [results, Tryd.results29]; go_simp) rfl ⟨rfl, bgo⟩
end
theorem rpck_any (C : Nat) (n : Int) (w : World) (hC : C < 2 ^ 256) : Calls Tryd.prog 29 #[A4 C, .int .i64 n] w fun r w' => r = .returned (.tuple #[A4 (dPv C n), .int .i64 (dPe C n)]) ∧ Below w.heap.size w w' := by
  unfold dPv dPe
  by_cases h : 0 ≤ n ∧ n ≤ 11
  · obtain ⟨c, rfl⟩ := Int.eq_ofNat_of_zero_le h.1
    have hc : c ≤ 11 := by omega
    rw [if_pos h, if_pos h, Int.toNat_natCast]
    refine rpck_w C c w (fun i => C / 1000 ^ i) (fun i => dlP i C) (fun i => dlE (C / 1000 ^ i % 1000)) hc (fun W => ?_) (fun i hi W vn vd h1 h2 => ?_) (fun i W v h1 => ?_) (fun i W => ?_) (fun i => ?_) (fun i hi W v h1 => ?_) rfl _ _ ?_
    · have := rnat13 C W hC
      simpa only [Nat.pow_zero, Nat.div_one] using this
    · have := over_new (by decide) h1 h2 (by decide)
      rw [Nat.div_div_eq_div_mul, ← Nat.pow_succ] at this
      exact this
    · refine (number_nv h1.nv (by decide) (by have := Nat.mod_lt (C / 1000 ^ i) (show 0 < 1000 by decide); omega)).mono ?_
      rintro r w' ⟨rfl, rfl⟩
      exact ⟨rfl, rfl⟩
    · exact enc_v _ (Nat.mod_lt _ (by decide)) W
    · exact (dl_back _ (Nat.mod_lt _ (by decide))).2
    · have := lay_any (dlP i C) (dlE (C / 1000 ^ i % 1000)) (10 * i) 1 v W (dlP_256 i C (by omega)) (by decide) (by omega) h1
      rw [show ((10 * i : Nat) : Int) = 10 * (i : Int) by omega, Nat.pow_mul, show (2 : Nat) ^ 10 = 1024 from rfl, ← dlP_snoc] at this
      exact this
    · by_cases hq : C < 1000 ^ c
      · rw [if_pos hq, if_pos hq]
        exact Or.inl ⟨Nat.div_eq_of_lt hq, rfl, rfl⟩
      · rw [if_neg hq, if_neg hq]
        refine Or.inr ⟨?_, rfl, rfl⟩
        have := (Nat.div_pos_iff (a := C) (b := 1000 ^ c)).2 ⟨Nat.pow_pos (by decide), by omega⟩
        omega
  · rw [if_neg h, if_neg h]
    exact rpck_bad C n (by omega) w
end
end Go.Proofs.YtehgnckgmdkfmaaDoor
