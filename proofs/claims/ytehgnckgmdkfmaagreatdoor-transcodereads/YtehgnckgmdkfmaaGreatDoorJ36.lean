/-
  Texts that the proof leans on.
-/
import Derived.Test.YtehgnckgmdkfmaaGreatDoorJ26
import Derived.Test.YtehgnckgmdkfmaaGreatDoorJ27
import Derived.Test.YtehgnckgmdkfmaaGreatDoorJ28
import Derived.Test.YtehgnckgmdkfmaaGreatDoorJ32
import Derived.Test.YtehgnckgmdkfmaaGreatDoorJ33
import Derived.Test.YtehgnckgmdkfmaaGreatDoorJ34
import Derived.Test.YtehgnckgmdkfmaaGreatDoorJ29
import Derived.Test.YtehgnckgmdkfmaaGreatDoorJ35
import Derived.Test.YtehgnckgmdkfmaaGreatDoorJ20
import Derived.Test.YtehgnckgmdkfmaaGreatDoorJ23
import Derived.Test.YtehgnckgmdkfmaaGreatDoorJ3
import Derived.Test.YtehgnckgmdkfmaaGreatDoorJ31
set_option linter.unusedVariables false
set_option linter.unusedSectionVars false
set_option linter.unusedSimpArgs false
set_option maxRecDepth 20000
namespace Go.Proofs.YtehgnckgmdkfmaaGreatDoor
open Go.RowKit
section
set_option maxHeartbeats 1000000 in
theorem layof_ok (n : Int) (w : World) (hT : Tab w) (hd : decN n) : Calls Tryz.prog 26 #[.int .i64 n] w fun r w' => r = .returned (.tuple #[LF (fD n), .int .i64 0]) ∧ Below w.heap.size w w' := by
  obtain ⟨hok, f1, f2, f3, f4, f5, f6, f7, f8⟩ := dec_fields hd
  have c1 := fun W hW => ofv_any n W hW
  rw [show infoE n = 0 from if_pos hok, f1, f2, f3, f4, f5, f6, f7, f8] at c1
  have h := fD_ok n
  have hw := h.w12
  generalize fD n = f at *
  have hG : ((f.t + (f.w + 6) : Nat) : Int) / 16 + 9 = ((f.w + 5 : Nat) : Int) := by rcases h with ⟨h1, h2, h3, h4⟩ | ⟨h1, h2, h3, h4⟩ | ⟨h1, h2, h3, h4⟩ <;> rw [h1, h2] <;> rfl
  have cc := fun W => dten_v (3 * f.j + 1) W (by omega)
  have cp := fun W => dten_v (3 * f.j) W (by omega)
  have e1 : ((3 * f.j + 1 : Nat) : Int) = 3 * (f.j : Int) + 1 := by omega
  have e2 : ((3 * f.j : Nat) : Int) = 3 * (f.j : Int) := by omega
  have cw := cp
  rw [e1] at cc
  rw [e2] at cp
  unfold LF
  cases e : f.dn
  · rw [e] at c1
    have eB : vB f = 0 := by unfold vB; rw [e, if_neg (by decide)]
    have eQ : vQ f = 2 ^ f.t := by unfold vQ; rw [e, if_neg (by decide)]
    have cs := fun W => shl4 1 f.t W (by decide) (by omega)
    rw [Nat.one_mul] at cs
    rw [eB, eQ]
    exact dlay_p n _ n _ _ _ _ _ _ w hT _ _ _ _ (by omega) (by omega) hG (by omega) (by omega) (by omega) (by omega) (by omega) cc cp _ c1 (fun W => of4 1 W (by decide)) cs
  · rw [e] at c1
    have eB : vB f = f.w := by unfold vB; rw [e, if_pos rfl]
    have eQ : vQ f = 10 ^ (3 * f.j) := by unfold vQ; rw [e, if_pos rfl]
    rw [eB, eQ]
    rw [show ((3 * f.j : Nat) : Int) = 3 * (f.j : Int) + 1 - 1 by omega] at cw
    exact dlay_d n _ n _ _ _ _ _ _ w hT _ _ _ _ (by omega) (by omega) hG (by omega) (by omega) (by omega) (by omega) (by omega) cc cp _ _ (by omega) (by omega) (by omega) c1 cw
theorem not_dec {n : Int} (h : ¬ decN n) : (okN n ∧ (baseN n != 10) = true) ∨ ¬ okN n := by
  by_cases hk : okN n
  · left
    refine ⟨hk, ?_⟩
    unfold decN at h
    rcases okN_cases hk with rfl | rfl | rfl | rfl | rfl | rfl | rfl | rfl | rfl | rfl | rfl | rfl <;> first | rfl | omega
  · exact Or.inr hk
theorem layof_bad (n : Int) (w : World) (hT : Tab w) (hd : ¬ decN n) : Calls Tryz.prog 26 #[.int .i64 n] w fun r w' => r = .returned (.tuple #[ZL, .int .i64 1]) ∧ Below w.heap.size w w' := by
  have c1 := fun W hW => ofv_any n W hW
  rcases not_dec hd with ⟨hk, hb⟩ | hk
  · rw [show infoE n = 0 from if_pos hk] at c1
    exact dlay_b n _ _ _ _ _ _ _ _ _ _ w hT hb c1
  · rw [show infoE n = 1 from if_neg hk] at c1
    exact dlay_e n _ _ _ _ _ _ _ _ _ _ w hT 1 rfl c1
theorem fits_dec {n : Int} (B : Nat) (hd : decN n) : (okN n ∧ B < 2 ^ (widthN n).toNat) ↔ goodD n B := by
  have hF := dec_fields hd
  rw [hF.2.2.2.1, Int.toNat_natCast]
  exact ⟨fun h => ⟨hd, h.2⟩, fun h => ⟨hF.1, h.2⟩⟩
theorem layfor_ok (n : Int) (B : Nat) (w : World) (hT : Tab w) (hB : B < 2 ^ 256) (hg : goodD n B) : Calls Tryz.prog 23 #[.int .i64 n, A4 B] w fun r w' => r = .returned (.tuple #[LF (fD n), .int .i64 0]) ∧ Below w.heap.size w w' := by
  have c1 := fun W hW => fits4 n B hB W hW
  rw [decide_eq_true ((fits_dec B hg.1).2 hg)] at c1
  exact dfor_y n B w hT c1 _ _ _ _ _ _ _ _ _ (fun W hW => layof_ok n W hW hg.1)
theorem layfor_bad (n : Int) (B : Nat) (w : World) (hT : Tab w) (hB : B < 2 ^ 256) (hg : ¬ goodD n B) : Calls Tryz.prog 23 #[.int .i64 n, A4 B] w fun r w' => r = .returned (.tuple #[ZL, .int .i64 1]) ∧ Below w.heap.size w w' := by
  have c1 := fun W hW => fits4 n B hB W hW
  by_cases hd : decN n
  · rw [decide_eq_false (fun q => hg ((fits_dec B hd).1 q))] at c1
    exact dfor_n n B w hT c1
  · by_cases hf : okN n ∧ B < 2 ^ (widthN n).toNat
    · rw [decide_eq_true hf] at c1
      exact dfor_b n B w hT c1 (fun W hW => layof_bad n W hW hd)
    · rw [decide_eq_false hf] at c1
      exact dfor_n n B w hT c1
/-- decimal.Pack by value -/
theorem dpack14 (n : Int) (d : Dat) (hk : d.k < 2 ^ 256) (W : World) (hT : Tab W) : Calls Tryz.prog 14 #[.int .i64 n, d.v] W fun r w' => r = .returned (.tuple #[A4 (vPV n d), .int .i64 (vPE n d)]) ∧ Below W.heap.size W w' := by
  unfold vPV vPE
  by_cases hd : decN n
  · have c2 := fun W => fpack (fD_ok n) d W hk
    have e1 : (if decN n ∧ vI (fD n) d then vP (fD n) d else 0) = (if vI (fD n) d then vP (fD n) d else 0) := by
      by_cases hi : vI (fD n) d
      · rw [if_pos ⟨hd, hi⟩, if_pos hi]
      · rw [if_neg (fun q => hi q.2), if_neg hi]
    rw [e1, if_pos hd]
    exact dpck14_y n W hT _ _ _ _ _ _ _ _ _ _ _ _ _ _ _ _ (fun W hW => layof_ok n W hW hd) c2
  · rw [if_neg (fun q => hd q.1), if_neg hd]
    exact dpck14_n n W hT _ _ _ _ _ (fun W hW => layof_bad n W hW hd)
/-- decimal.Unpack by value -/
theorem dunpk14 (n : Int) (B : Nat) (hB : B < 2 ^ 256) (W : World) (hT : Tab W) : Calls Tryz.prog 13 #[.int .i64 n, A4 B] W fun r w' => r = .returned (.tuple #[(vUD n B).v, .bool (vUC n B), .int .i64 (vUE n B)]) ∧ Below W.heap.size W w' := by
  by_cases hg : goodD n B
  · obtain ⟨e1, e2, e3⟩ := vU_good hg
    rw [e1, e2, e3]
    have h := fD_ok n
    have c3 := fun W => fpack h (vM (fD n) B) W (vM_256 h B)
    rw [if_pos (vM_is h B), if_pos (vM_is h B)] at c3
    refine dunp_y n W hT _ _ _ _ _ _ _ _ _ B (fun W hW => layfor_ok n B W hW hB hg) _ _ _ _ _ _ _ (fun W => fmean h B W hB) c3 _ ?_
    exact eq_words (vP_256 h (vM_is h B)) hB
  · obtain ⟨e1, e2, e3⟩ := vU_bad hg
    rw [e1, e2, e3, zero_v]
    exact dunp_n n W hT B (fun W hW => layfor_bad n B W hW hB hg)
end
section
attribute [local irreducible] W4
set_option maxHeartbeats 1000000 in
theorem ttwin_y (n t : Int) (w : World) (h : (n = 7 ∧ t = 10) ∨ (n = 8 ∧ t = 11) ∨ (n = 9 ∧ t = 12) ∨ (n = 10 ∧ t = 7) ∨ (n = 11 ∧ t = 8) ∨ (n = 12 ∧ t = 9)) :
    Calls Tryz.prog 7 #[.int .i64 n] w fun r w' => r = .returned (.tuple #[.int .i64 t, .int .i64 0]) ∧ Below w.heap.size w w' := by
  rcases h with ⟨rfl, rfl⟩ | ⟨rfl, rfl⟩ | ⟨rfl, rfl⟩ | ⟨rfl, rfl⟩ | ⟨rfl, rfl⟩ | ⟨rfl, rfl⟩
  all_goals
    go_enter Tryz.func7, Tryz.ntmps7
    go_wp2
    exact bodyPost_ret (by simp only [results, Tryz.results7]; go_simp) rfl ⟨rfl, bgo⟩
set_option maxHeartbeats 1000000 in
theorem ttwin_n (n : Int) (w : World) (h7 : (n == 7) = false) (h8 : (n == 8) = false) (h9 : (n == 9) = false) (h10 : (n == 10) = false) (h11 : (n == 11) = false) (h12 : (n == 12) = false) :
    Calls Tryz.prog 7 #[.int .i64 n] w fun r w' => r = .returned (.tuple #[.int .i64 0, .int .i64 1]) ∧ Below w.heap.size w w' := by
  go_enter Tryz.func7, Tryz.ntmps7
  go_wp2
  exact bodyPost_ret (by simp only [results, Tryz.results7]; go_simp) rfl ⟨rfl, bgo⟩
theorem ttwin17 (n : Int) (w : World) : Calls Tryz.prog 7 #[.int .i64 n] w fun r w' => r = .returned (.tuple #[.int .i64 (twV n), .int .i64 (twE n)]) ∧ Below w.heap.size w w' := by
  unfold twV twE
  by_cases h : decN n
  · rw [if_pos h, if_pos h]
    have h1 : 7 ≤ n ∧ n ≤ 12 := h
    refine ttwin_y n _ w ?_
    unfold twN
    by_cases h9 : n ≤ 9
    · rw [if_pos h9]; omega
    · rw [if_neg h9]; omega
  · rw [if_neg h, if_neg h]
    have h1 : ¬ (7 ≤ n ∧ n ≤ 12) := h
    exact ttwin_n n w (beq_false_of_ne (by omega)) (beq_false_of_ne (by omega)) (beq_false_of_ne (by omega)) (beq_false_of_ne (by omega)) (beq_false_of_ne (by omega)) (beq_false_of_ne (by omega))
section
variable (n : Int) (Bp : Nat) (c : Int) (s g ok : Bool) (x : Int) (k : Nat) (w : World) (hT : Tab w)
include hT
set_option maxHeartbeats 2000000 in
theorem tcd_t (t E : Int) (hE : (E != 0) = true) (c22 : ∀ W, Calls Tryz.prog 7 #[.int .i64 n] W fun r w' => r = .returned (.tuple #[.int .i64 t, .int .i64 E]) ∧ Below W.heap.size W w') :
    Calls Tryz.prog 8 #[.int .i64 n, A4 Bp] w fun r w' => r = .returned (.tuple #[Z4, .int .i64 E]) ∧ Below w.heap.size w w' := by
  have hsm := cell_set_map
  unfold A4 at *
  go_enter Tryz.func8, Tryz.ntmps8
  go_wp2_with (go_at_call 7; refine (c22 _).mono ?_; rintro r w1 ⟨rfl, hb1⟩; obtain ⟨hc1, hf1⟩ := bcell hb1; have hz1_0 : w.heap.size < w1.heap.size := lt_below hb1 ltg; have hl1_0 := Nat.le_of_lt hz1_0; have hz1_1 : w.heap.size + 1 < w1.heap.size := lt_below hb1 ltg; have hl1_1 := Nat.le_of_lt hz1_1; have hA1 := bnext (w0 := w) bgo hb1; have hs1 := hA1.size; clear hb1)
  exact bodyPost_ret (v := .tuple #[Z4, .int .i64 E]) (by simp only [results, Tryz.results8]; go_simp) rfl ⟨rfl, bgo⟩
set_option maxHeartbeats 2000000 in
theorem tcd_e (t E : Int) (hE : (E != 0) = true) (c22 : ∀ W, Calls Tryz.prog 7 #[.int .i64 n] W fun r w' => r = .returned (.tuple #[.int .i64 t, .int .i64 0]) ∧ Below W.heap.size W w')
    (c21 : ∀ W, Tab W → Calls Tryz.prog 13 #[.int .i64 n, A4 Bp] W fun r w' => r = .returned (.tuple #[DV c s g x k, .bool ok, .int .i64 E]) ∧ Below W.heap.size W w') :
    Calls Tryz.prog 8 #[.int .i64 n, A4 Bp] w fun r w' => r = .returned (.tuple #[Z4, .int .i64 E]) ∧ Below w.heap.size w w' := by
  have hsm := cell_set_map
  unfold DV A4 at *
  go_enter Tryz.func8, Tryz.ntmps8
  go_wp2_with (first
    | (go_at_call 7; refine (c22 _).mono ?_; rintro r w1 ⟨rfl, hb1⟩; obtain ⟨hc1, hf1⟩ := bcell hb1; have hz1_0 : w.heap.size < w1.heap.size := lt_below hb1 ltg; have hl1_0 := Nat.le_of_lt hz1_0; have hz1_1 : w.heap.size + 1 < w1.heap.size := lt_below hb1 ltg; have hl1_1 := Nat.le_of_lt hz1_1; have hA1 := bnext (w0 := w) bgo hb1; have hs1 := hA1.size; clear hb1)
    | (go_at_call 13; refine (c21 _ (hT.go bgo)).mono ?_; rintro r w2 ⟨rfl, hb2⟩; obtain ⟨hc2, hf2⟩ := bcell hb2; have hz2_0 : w.heap.size < w2.heap.size := lt_below hb2 ltg; have hl2_0 := Nat.le_of_lt hz2_0; have hz2_1 : w.heap.size + 1 < w2.heap.size := lt_below hb2 ltg; have hl2_1 := Nat.le_of_lt hz2_1; have hA2 := bnext (w0 := w) bgo hb2; have hs2 := hA2.size; clear hb2))
  exact bodyPost_ret (v := .tuple #[Z4, .int .i64 E]) (by simp only [results, Tryz.results8]; go_simp) rfl ⟨rfl, bgo⟩
set_option maxHeartbeats 2000000 in
theorem tcd_k (t : Int) (R : Nat) (E : Int) (c22 : ∀ W, Calls Tryz.prog 7 #[.int .i64 n] W fun r w' => r = .returned (.tuple #[.int .i64 t, .int .i64 0]) ∧ Below W.heap.size W w')
    (c21 : ∀ W, Tab W → Calls Tryz.prog 13 #[.int .i64 n, A4 Bp] W fun r w' => r = .returned (.tuple #[DV c s g x k, .bool ok, .int .i64 0]) ∧ Below W.heap.size W w')
    (c23 : ∀ W, Tab W → Calls Tryz.prog 14 #[.int .i64 t, DV c s g x k] W fun r w' => r = .returned (.tuple #[A4 R, .int .i64 E]) ∧ Below W.heap.size W w') :
    Calls Tryz.prog 8 #[.int .i64 n, A4 Bp] w fun r w' => r = .returned (.tuple #[A4 R, .int .i64 E]) ∧ Below w.heap.size w w' := by
  have hsm := cell_set_map
  unfold DV A4 at *
  go_enter Tryz.func8, Tryz.ntmps8
  go_wp2_with (first
    | (go_at_call 7; refine (c22 _).mono ?_; rintro r w1 ⟨rfl, hb1⟩; obtain ⟨hc1, hf1⟩ := bcell hb1; have hz1_0 : w.heap.size < w1.heap.size := lt_below hb1 ltg; have hl1_0 := Nat.le_of_lt hz1_0; have hz1_1 : w.heap.size + 1 < w1.heap.size := lt_below hb1 ltg; have hl1_1 := Nat.le_of_lt hz1_1; have hA1 := bnext (w0 := w) bgo hb1; have hs1 := hA1.size; clear hb1)
    | (go_at_call 13; refine (c21 _ (hT.go bgo)).mono ?_; rintro r w2 ⟨rfl, hb2⟩; obtain ⟨hc2, hf2⟩ := bcell hb2; have hz2_0 : w.heap.size < w2.heap.size := lt_below hb2 ltg; have hl2_0 := Nat.le_of_lt hz2_0; have hz2_1 : w.heap.size + 1 < w2.heap.size := lt_below hb2 ltg; have hl2_1 := Nat.le_of_lt hz2_1; have hA2 := bnext (w0 := w) bgo hb2; have hs2 := hA2.size; clear hb2)
    | (go_at_call 14; refine (c23 _ (hT.go bgo)).mono ?_; rintro r w3 ⟨rfl, hb3⟩; obtain ⟨hc3, hf3⟩ := bcell hb3; have hz3_0 : w.heap.size < w3.heap.size := lt_below hb3 ltg; have hl3_0 := Nat.le_of_lt hz3_0; have hz3_1 : w.heap.size + 1 < w3.heap.size := lt_below hb3 ltg; have hl3_1 := Nat.le_of_lt hz3_1; have hA3 := bnext (w0 := w) bgo hb3; have hs3 := hA3.size; clear hb3))
  exact bodyPost_ret (v := .tuple #[A4 R, .int .i64 E]) (by unfold A4; simp only [results, Tryz.results8]; go_simp) rfl ⟨rfl, bgo⟩
end
theorem tcode17 (n : Int) (Bp : Nat) (w : World) (hB : Bp < 2 ^ 256) (hT : Tab w) :
    Calls Tryz.prog 8 #[.int .i64 n, A4 Bp] w fun r w' => r = .returned (.tuple #[A4 (tcV n Bp), .int .i64 (vUE n Bp)]) ∧ Below w.heap.size w w' := by
  have c21 := fun W hW => dunpk14 n Bp hB W hW
  have c22 := fun W => ttwin17 n W
  by_cases hg : goodD n Bp
  · have e1 : vUE n Bp = 0 := if_pos hg
    have e2 : vUD n Bp = vM (fD n) Bp := if_pos hg
    rw [show twV n = twN n from if_pos hg.1, show twE n = 0 from if_pos hg.1] at c22
    have c23 := fun W hW => dpack14 (twN n) (vM (fD n) Bp) (by rw [← e2]; exact vUD_256 n Bp) W hW
    obtain ⟨p1, p2⟩ := tc_pack hg
    rw [p1, p2] at c23
    rw [e1, e2] at c21
    rw [e1]
    exact tcd_k n Bp _ _ _ _ _ _ w hT (twN n) _ _ c22 c21 c23
  · have e1 : vUE n Bp = 1 := if_neg hg
    have hZ : A4 0 = Z4 := by unfold A4; simp only [W4_zero]
    rw [show tcV n Bp = 0 from if_neg hg, e1, hZ]
    rw [e1] at c21
    by_cases hd : decN n
    · rw [show twV n = twN n from if_pos hd, show twE n = 0 from if_pos hd] at c22
      exact tcd_e n Bp _ _ _ _ _ _ w hT _ 1 (by decide) c22 c21
    · rw [show twE n = 1 from if_neg hd] at c22
      exact tcd_t n Bp w hT _ 1 (by decide) c22
end
/-- a nought's digits -/
theorem ndig_z {K : Nat} {v : Value} {w : World} (hK : K ≤ 1000) (h : Nt K 0 v w) : Calls Tryz.prog 16 #[v] w fun r w' => r = .returned (.tuple #[.string (B [48]), .int .i64 0]) ∧ Below w.heap.size w w' := by
  obtain ⟨a, n, c, z, rfl, hn, hN, hz⟩ := h
  have hle := sizeL_le z n
  refine (ndigits_any a n c z w (by omega) hN (by omega)).mono fun r w' ⟨L, hL, he, hB⟩ => ⟨?_, hB⟩
  rw [he, hz] at *
  rw [decL_more (L' := 0) (by decide) hL (by decide)]
  rfl
theorem ndig_wt {K k : Nat} {v : Value} {w : World} (hK : K ≤ 1000) (hk : k < 2 ^ 256) (h : Nt K k v w) : Calls Tryz.prog 16 #[v] w fun r w' => r = .returned (.tuple #[.string (B (wtD k)), .int .i64 0]) ∧ Below w.heap.size w w' := by
  unfold wtD
  by_cases h0 : k = 0
  · rw [if_pos h0]
    subst h0
    exact ndig_z hK h
  · rw [if_neg h0]
    exact ndig_v hK hk h0 h
theorem jn_word {f : DF} (hf : f.ok) {v : Dat} (h : vI f v) (hc : ¬ v.c = 1) : jnP ⟨v.c, v.s, v.g, dcL v.k, 0⟩ := by
  obtain ⟨h1, h2⟩ := xt_cut hf h
  obtain ⟨f1, f2, f3⟩ := dcL_facts (vI_k hf h)
  unfold xtT xtP at h1
  rw [if_neg hc, if_neg hc] at h1
  exact ⟨by show (dcL v.k).length ≤ 4000; omega, h1⟩
/-- what isn't finite, as a text -/
theorem dword {f : DF} (hf : f.ok) {v : Dat} (h : vI f v) (hc : ¬ v.c = 1) (w : World) (hT10 : Tb10 w) :
    Calls Tryz.prog 15 #[v.v] w fun r w' => r = .returned (.string (B (xtT v))) ∧ Below w.heap.size w w' := by
  have hk := vI_k hf h
  have hj := jn_word hf h hc
  have c31 := fun W (hb : Below w.heap.size w W) => join_y ⟨v.c, v.s, v.g, dcL v.k, 0⟩ W (hT10.next hb) ⟨by show (-9223372036854775808 : Int) ≤ 0; decide, by show (0 : Int) ≤ 9223372036854775807; decide⟩ hj
  have e : xtT v = texT v.c v.s v.g (dcL v.k) 0 := if_neg hc
  rw [e]
  obtain ⟨c, s, g, x, k⟩ := v
  dsimp only at *
  by_cases h0 : k = 0
  · have ed : dcL k = [] := by rw [h0]; kernel_rfl
    rw [ed] at c31 ⊢
    exact dwd_0 c s g x k w _ h0 c31
  · exact dwd_k c s g x k w _ (dcL k) hk h0 (fun W v hv => ndig_v (by decide) hk h0 hv) c31
theorem dwr16 (n : Int) (Bp : Nat) (w : World) (hB : Bp < 2 ^ 256) (hT : Tab w) (hT10 : Tb10 w) :
    Calls Tryz.prog 9 #[.int .i64 n, A4 Bp] w fun r w' => r = .returned (.tuple #[.string (B (dwT n Bp)), .int .i64 (vUE n Bp)]) ∧ Below w.heap.size w w' := by
  have c21 := fun W hW => dunpk14 n Bp hB W hW
  have hk := vUD_256 n Bp
  unfold dwT
  by_cases hg : goodD n Bp
  · have e1 : vUE n Bp = 0 := if_pos hg
    have e2 : vUD n Bp = vM (fD n) Bp := if_pos hg
    rw [if_pos hg, e1]
    rw [e1] at c21
    have hi := vM_is (fD_ok n) Bp
    rw [← e2] at hi ⊢
    obtain ⟨m0, m1, l0, l1, lm, j0, j1⟩ := ok_m (fD_ok n)
    generalize vUD n Bp = v at *
    by_cases hc : v.c = 1
    · have hx : -10000 ≤ v.x ∧ v.x ≤ 10000 := by
        rcases hi with ⟨_, _, _, a, b⟩ | ⟨a, _⟩ | ⟨a, _⟩
        · unfold DF.m at *
          omega
        · rw [hc] at a; exact absurd a (by decide)
        · rw [hc] at a; exact absurd a (by decide)
      have eT : xtT v = sgL v.s ++ unT (wtD v.k) (v.x + (wtD v.k).length - 1) := if_pos hc
      rw [eT]
      have hl : 1 ≤ (wtD v.k).length ∧ (wtD v.k).length ≤ 660 := by
        unfold wtD
        by_cases h0 : v.k = 0
        · rw [if_pos h0]; decide
        · rw [if_neg h0]
          exact ⟨List.length_pos_iff.2 (dcL_ne h0 hk), (dcL_facts hk).2.2⟩
      have hu := unT_brief (D := wtD v.k) (e := v.x + (wtD v.k).length - 1) (by omega)
      have c20 := fun W u (h : Nt 4 v.k u W) => ndig_wt (by decide) hk h
      have c29 := fun W hW => ltext_v (wtD v.k) (v.x + (wtD v.k).length - 1) W hW (by omega) hl.1 (by omega)
      rw [show ((wtD v.k).length : Int) = ((B (wtD v.k)).size : Int) by rw [B_size]] at c29 hu ⊢
      obtain ⟨c, s, g, x, k⟩ := v
      dsimp only at *
      cases s
      · exact dwx_f n Bp c false g _ x k w hT hT10 c21 hc hk hx (wtD k) hl.2 (unT (wtD k) (x + ((B (wtD k)).size : Int) - 1)) (by omega) c20 c29 rfl
      · exact dwx_t n Bp c true g _ x k w hT hT10 c21 hc hk hx (wtD k) hl.2 (unT (wtD k) (x + ((B (wtD k)).size : Int) - 1)) (by omega) c20 c29 rfl
    · have c28 := fun W hW => dword (fD_ok n) hi hc W hW
      obtain ⟨c, s, g, x, k⟩ := v
      exact dwx_o n Bp c s g _ x k w hT hT10 c21 (by simpa using hc) _ c28
  · have e1 : vUE n Bp = 1 := if_neg hg
    rw [if_neg hg, e1]
    rw [e1] at c21
    exact dwx_e n Bp _ _ _ _ _ _ w hT 1 (by decide) c21
/-- digits beside a payload -/
theorem pay_len {l : List UInt8} (h : gdD l) (j : Nat) : 10 ^ j ≤ dV l ↔ ¬ l.length ≤ j := by
  have hd := gdD_all h
  have h1 := (dV_lt hd).1
  constructor
  · intro hh hl
    have := Nat.pow_le_pow_right (show 1 ≤ 10 by decide) hl
    omega
  · intro hl
    rcases h with rfl | ⟨_, h0⟩
    · exact absurd (Nat.zero_le _) hl
    · have h2 := dV_ge hd h0 (fun e => hl (by rw [e]; exact Nat.zero_le _))
      exact Nat.le_trans (Nat.pow_le_pow_right (by decide) (by omega)) h2
theorem nz_k {K A k0 : Nat} {v : Value} {w : World} (h : Nz K A v w) (hA : A < 2 ^ 256) (h0 : k0 ≤ 4) (h1 : bl A ≤ 64 * k0) (h2 : k0 = 0 ∨ 64 * (k0 - 1) < bl A) :
    ∃ a cap z, v = .slice a k0 cap ∧ Num w a k0 cap z ∧ ∀ i, i < 4 → z i = W4 A i := by
  obtain ⟨a, k, cap, z, rfl, hk, hN, hv, hs⟩ := h
  have e1 := (size_bl (m := k0) hN.2.2.1 hv).2 h1
  have e2 : k0 ≤ k := by
    rcases h2 with h2 | h2
    · omega
    · by_cases hh : k0 ≤ k
      · exact hh
      · have := (size_bl (m := k0 - 1) hN.2.2.1 hv).1 (by omega)
        omega
  obtain rfl : k = k0 := by omega
  have hv4 : val z 4 = (A : Int) := by rw [val_more hN.2.2.2.1 4 h0, hv]
  exact ⟨a, cap, z, rfl, hN, val_inj hN.2.2.1 (W4_words A) 4 (by rw [hv4, W4_val4 hA])⟩
theorem W4_high {A k i : Nat} (h : bl A ≤ 64 * k) (hi : k ≤ i) : W4 A i = 0 := by
  have h1 := bl_le.1 h
  have h2 : (2 : Nat) ^ (64 * k) ≤ 2 ^ (64 * i) := Nat.pow_le_pow_right (by decide) (by omega)
  unfold W4
  rw [Nat.div_eq_of_lt (by omega)]
  rfl
/-- a number's own shape, where it has words -/
theorem nz_some {K A k0 : Nat} {v : Value} {w : World} (h : Nz K A v w) (hA : A < 2 ^ 256) (h0 : k0 ≤ 4) (h1 : bl A ≤ 64 * k0) (h2 : 64 * (k0 - 1) < bl A) :
    ∃ b off cap, v = .slice (some ⟨b, off, none⟩) k0 cap ∧ b < w.heap.size ∧ ∀ i, i < k0 → w.cell? ⟨b, off + i, none⟩ = some (.int .u64 (W4 A i)) := by
  obtain ⟨a, cap, z, rfl, ⟨n1, n2, n3, n4, n5⟩, hz⟩ := nz_k h hA h0 h1 (Or.inr h2)
  rcases n5 with ⟨rfl, rfl⟩ | ⟨b, off, rfl, hb, hc⟩
  · obtain rfl : k0 = 0 := by omega
    omega
  · exact ⟨b, off, cap, rfl, hb, fun i hi => by rw [← hz i (by omega)]; exact hc i hi⟩
/-- a payload that fits is copied -/
theorem dtm_c {n : Int} {nm : ByteArray} {wd P ex lo m pa : Int} {dn : Bool} {d c : Int} {s g : Bool} {l : List UInt8} {x : Int} {w : World} (hc : ¬ c = 1) (hl : (l.length : Int) ≤ pa) (hd : l.all dg = true) (hl2 : l.length ≤ 4000) (hk : dV l < 2 ^ 256) :
    Calls Tryz.prog 39 #[IDec n nm wd P ex lo m pa dn, .int .i64 d, PV c s g l x] w fun r w' => r = .returned (.tuple #[DV c s g 0 (dV l), .int .i64 0]) ∧ Below w.heap.size w w' := by
  have c66 := fun W => natural16 l W hd hl2
  have hl' : ((B l).size : Int) ≤ pa := by rw [B_size]; exact hl
  have hc' : (c == 1) = false := by simpa using hc
  have h256 := bl_le.2 hk
  generalize dV l = A at *
  unfold DV
  by_cases b0 : bl A ≤ 64 * 0
  · rw [W4_high b0 (Nat.zero_le _), W4_high b0 (Nat.zero_le _), W4_high b0 (Nat.zero_le _), W4_high b0 (Nat.zero_le _)]
    refine dtm_c0 n nm wd P ex lo m pa dn d c s g l x w hc' hl' fun W => (c66 W).mono fun r w' ⟨v, e1, e2, e3⟩ => ⟨?_, e3⟩
    obtain ⟨a, cap, z, rfl, _⟩ := nz_k e2 hk (by decide) b0 (Or.inl rfl)
    exact ⟨a, cap, e1⟩
  by_cases b1 : bl A ≤ 64 * 1
  · rw [W4_high b1 (by decide : 1 ≤ 1), W4_high b1 (by decide : 1 ≤ 2), W4_high b1 (by decide : 1 ≤ 3)]
    refine dtm_c1 n nm wd P ex lo m pa dn d c s g l x w hc' hl' (W4 A) fun W => (c66 W).mono fun r w' ⟨v, e1, e2, e3⟩ => ⟨?_, e3⟩
    obtain ⟨b, off, cap, rfl, hb, h⟩ := nz_some e2 hk (by decide) b1 (by omega)
    exact ⟨b, off, cap, e1, hb, h 0 (by decide)⟩
  by_cases b2 : bl A ≤ 64 * 2
  · rw [W4_high b2 (by decide : 2 ≤ 2), W4_high b2 (by decide : 2 ≤ 3)]
    refine dtm_c2 n nm wd P ex lo m pa dn d c s g l x w hc' hl' (W4 A) fun W => (c66 W).mono fun r w' ⟨v, e1, e2, e3⟩ => ⟨?_, e3⟩
    obtain ⟨b, off, cap, rfl, hb, h⟩ := nz_some e2 hk (by decide) b2 (by omega)
    exact ⟨b, off, cap, e1, hb, h 0 (by decide), h 1 (by decide)⟩
  by_cases b3 : bl A ≤ 64 * 3
  · rw [W4_high b3 (by decide : 3 ≤ 3)]
    refine dtm_c3 n nm wd P ex lo m pa dn d c s g l x w hc' hl' (W4 A) fun W => (c66 W).mono fun r w' ⟨v, e1, e2, e3⟩ => ⟨?_, e3⟩
    obtain ⟨b, off, cap, rfl, hb, h⟩ := nz_some e2 hk (by decide) b3 (by omega)
    exact ⟨b, off, cap, e1, hb, h 0 (by decide), h 1 (by decide), h 2 (by decide)⟩
  · refine dtm_c4 n nm wd P ex lo m pa dn d c s g l x w hc' hl' (W4 A) fun W => (c66 W).mono fun r w' ⟨v, e1, e2, e3⟩ => ⟨?_, e3⟩
    obtain ⟨b, off, cap, rfl, hb, h⟩ := nz_some (k0 := 4) e2 hk (by decide) (by omega) (by omega)
    exact ⟨b, off, cap, e1, hb, h 0 (by decide), h 1 (by decide), h 2 (by decide), h 3 (by decide)⟩
/-- what parts that Join takes are made -/
theorem datum16 {n d : Int} (h1 : decN n) (h2 : knB d) {p : Prt} (h3 : gdP p) {nm : ByteArray} {wd P ex lo m : Int} {dn : Bool} {w : World} (hT : Tab w) :
    Calls Tryz.prog 39 #[IDec n nm wd P ex lo m (3 * ((fD n).j : Int)) dn, .int .i64 d, p.v] w fun r w' => r = .returned (.tuple #[(dmD n d p).v, .int .i64 (dmF n d p)]) ∧ Below w.heap.size w w' := by
  obtain ⟨g1, g2⟩ := gd_dig h3
  have hbl := dig_bl g1 g2
  have hi := dm_is (d := d) h1 h2 h3 (by omega)
  have hk := vI_k (fD_ok n) hi
  have c66 := fun W => natural16 p.dig W g1 g2
  have hpl := pay_len h3.1 (3 * (fD n).j)
  obtain ⟨c, s, g, l, x⟩ := p
  obtain ⟨hg, hp⟩ := h3
  unfold dmF
  unfold dmD at hk ⊢
  dsimp only at *
  by_cases hc : c = 1
  · rw [if_pos hc, if_pos hc]
    exact dtm_1 n nm wd P ex lo m _ dn d c s g l x w hT hc (dV l) _ _ _ _ _ _ _ (fun W => (c66 W).mono fun r w' ⟨v, e1, e2, e3⟩ => ⟨v, e1, e2.nt.more (by decide), e3⟩) (fun W v hW hv => drk_v hW hv)
  · rw [if_neg hc] at hk ⊢
    rw [if_neg hc]
    by_cases hl : l.length ≤ 3 * (fD n).j
    · have e : (if c = 3 then (if 10 ^ (3 * (fD n).j) ≤ dV l then 0 else dV l) else 0) = dV l := by
        rw [if_neg (fun hh => (hpl.1 hh) hl)]
        rcases hp with ⟨q1, _⟩ | ⟨q1, q2, q3, q4⟩ | ⟨q1, q2, q3⟩
        · exact absurd q1 hc
        · rw [if_neg (by rw [q1]; decide), q3, dV_nil]
        · rw [if_pos q1]
      rw [e] at hk ⊢
      exact dtm_c (l := l) hc (by omega) g1 g2 hk
    · have e : (if c = 3 then (if 10 ^ (3 * (fD n).j) ≤ dV l then 0 else dV l) else 0) = 0 := by
        rw [if_pos (hpl.2 hl)]
        split <;> rfl
      rw [e]
      unfold Dat.v DV
      simp only [W4_zero]
      exact dtm_l n nm wd P ex lo m _ dn d c s g l x w (by simpa using hc) (by rw [B_size]; omega)
theorem dmk16 (n d : Int) (p : Prt) (w : World) (he : -9223372036854775808 ≤ p.ex ∧ p.ex ≤ 9223372036854775807) (hT : Tab w) (hT10 : Tb10 w) :
    Calls Tryz.prog 20 #[.int .i64 n, .int .i64 d, p.v] w fun r w' => r = .returned (.tuple #[A4 (kmV n d p), .int .i64 (kmF n d p), .int .i64 (kmE n d p)]) ∧ Below w.heap.size w w' := by
  have hZ : A4 0 = Z4 := by unfold A4; simp only [W4_zero]
  unfold kmV kmF
  by_cases h12 : decN n ∧ knB d
  · obtain ⟨h1, h2⟩ := h12
    have c28 := fun W hW => dck_good (n := n) (d := d) (w := W) hW h1 h2
    by_cases h3 : gdP p
    · have e : kmE n d p = 0 := by unfold kmE; rw [if_pos ⟨h1, h2⟩, if_pos h3]
      rw [if_pos e, if_pos e, e]
      have c31 := fun W (hb : Below w.heap.size w W) => join_y p W (hT10.next hb) he (jn_of_gd h3)
      obtain ⟨g1, g2⟩ := gd_dig h3
      have hbl := dig_bl g1 g2
      have hi := dm_is (d := d) h1 h2 h3 (by omega)
      have hk := vI_k (fD_ok n) hi
      have c32 := fun W (hW : Tab W) => datum16 h1 h2 h3 (nm := nameN n) (wd := widthN n) (P := 3 * ((fD n).j : Int) + 1) (ex := expN n) (lo := (fD n).l) (m := (fD n).m) (dn := denseN n) hW
      have c34 := fun W hW => dpack14 n (dmD n d p) hk W hW
      have e3 : vPE n (dmD n d p) = 0 := by unfold vPE; rw [if_pos h1, if_pos hi]
      rw [e3] at c34
      generalize dmD n d p = D at *
      obtain ⟨c, s, g, l, x⟩ := p
      exact dmk_k n d c s g l x _ _ _ _ _ _ _ _ _ w hT c28 _ _ _ _ _ _ _ _ _ _ _ c31 c32 c34
    · have e : kmE n d p = 2 := by unfold kmE; rw [if_pos ⟨h1, h2⟩, if_neg h3]
      rw [if_neg (by omega), if_neg (by omega), e, hZ]
      have c31 := fun W (hb : Below w.heap.size w W) => join_n p W (hT10.next hb) he (fun h => h3 (gd_of_jn h))
      obtain ⟨c, s, g, l, x⟩ := p
      exact dmk_j n d c s g l x _ _ _ _ _ _ _ _ _ w hT c28 1 (by decide) c31
  · have e : kmE n d p = 1 := if_neg h12
    rw [if_neg (by omega), if_neg (by omega), e, hZ]
    obtain ⟨c, s, g, l, x⟩ := p
    exact dmk_e n d c s g l x w hT 1 (by decide) (fun W hW => dck_bad hW h12)
theorem drd16 (n d : Int) (l : List UInt8) (w : World) (hl : l.length < 10001) (hT : Tab w) (hT10 : Tb10 w) :
    Calls Tryz.prog 10 #[.int .i64 n, .int .i64 d, .string (B l)] w fun r w' => r = .returned (.tuple #[A4 (krV n d l), .int .i64 (krF n d l), .int .i64 (krE n d l)]) ∧ Below w.heap.size w w' := by
  have hZ : A4 0 = Z4 := by unfold A4; simp only [W4_zero]
  unfold krV krF
  by_cases h12 : decN n ∧ knB d
  · have c28 := fun W hW => dck_good (n := n) (d := d) (w := W) hW h12.1 h12.2
    have c30 := fun W => cut_any l W hl
    by_cases h3 : cutE l = 0
    · have e : krE n d l = kmE n d (cutV l) := by unfold krE; rw [if_pos h12, if_pos h3]
      have hp := cutE_zero h3
      have c14 := fun W (hb : Below w.heap.size w W) => dmk16 n d (cutV l) W (cut_exD hp) (hT.go hb) (hT10.next hb)
      rw [e]
      rw [h3] at c30
      by_cases h0 : kmE n d (cutV l) = 0
      · rw [if_pos h0, if_pos h0]
        generalize cutV l = p at *
        obtain ⟨c, s, g, q, x⟩ := p
        exact drd_k n d _ _ _ _ _ _ _ _ w hT c28 (B l) _ _ _ _ _ _ _ _ c30 c14
      · rw [if_neg h0, if_neg h0]
        obtain ⟨q1, q2⟩ := km_not h0
        rw [q1, q2] at c14
        generalize cutV l = p at *
        obtain ⟨c, s, g, q, x⟩ := p
        exact drd_k n d _ _ _ _ _ _ _ _ w hT c28 (B l) _ _ _ _ _ _ _ _ c30 c14
    · have e : krE n d l = cutE l := by unfold krE; rw [if_pos h12, if_neg h3]
      rw [if_neg (by omega), if_neg (by omega), e, hZ]
      generalize cutV l = p at *
      obtain ⟨c, s, g, q, x⟩ := p
      exact drd_c n d _ _ _ _ _ _ _ _ w hT c28 (B l) _ _ _ _ _ _ (by simpa using h3) c30
  · have e : krE n d l = 1 := if_neg h12
    rw [if_neg (by omega), if_neg (by omega), e, hZ]
    exact drd_e n d w hT (B l) 1 (by decide) (fun W hW => dck_bad hW h12)
/-- the worlds in which the formats' table and the powers of ten stand -/
def TTb (w : World) : Prop := Tab w ∧ Tb10 w
theorem dtxC : DtxC TTb where
  next := fun w w' hT hb => ⟨hT.1.go hb, hT.2.next hb⟩
  t10 := fun w hT => hT.2
  wr := fun n Bp W hB hT => dwr16 n Bp W hB hT.1 hT.2
theorem dtxR : DtxR TTb where
  rd := fun n d l W hl hT => drd16 n d l W hl hT.1 hT.2
theorem trcB : TrcC TTb where
  next := dtxC.next
  tw := fun n W _ => ttwin17 n W
  cd := fun n Bp W hB hT => tcode17 n Bp W hB hT.1
theorem transcodeTexts_any (n : Int) (Bp : Nat) (w : World) (hT : Tab w) (hT10 : Tb10 w) (hB : Bp < 2 ^ 256) :
    Calls Tryz.prog 3 #[.int .i64 n, A4 Bp] w fun r w' => r = .returned (.bool true) ∧ Below w.heap.size w w' :=
  texts17_v trcB n Bp w ⟨hT, hT10⟩ hB dtxC
theorem transcodeReads_any (n d : Int) (s : ByteArray) (w : World) (hT : Tab w) (hT10 : Tb10 w) :
    Calls Tryz.prog 4 #[.int .i64 n, .int .i64 d, .string s] w fun r w' => r = .returned (.bool true) ∧ Below w.heap.size w w' := by
  rw [← B_of s]
  exact reads17_v trcB dtxR n d _ w ⟨hT, hT10⟩
end Go.Proofs.YtehgnckgmdkfmaaGreatDoor
