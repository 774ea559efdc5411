/-
  Texts that the proof leans on, joined: Wf.
-/
import Derived.Test.YthcndcanahhbcaaDoorJ19
import Derived.Test.YthcndcanahhbcaaDoorJ11
import Derived.Test.YthcndcanahhbcaaDoorJ15
/-
  What the document's Round, Binary and Scaled do, by value: contracts.
-/
set_option linter.unusedVariables false
set_option linter.unusedSectionVars false
set_option linter.unusedSimpArgs false
set_option maxRecDepth 20000
namespace Go.Proofs.YthcndcanahhbcaaDoor
open Go.RowKit

theorem DV_zero (c : Int) (s g : Bool) (x : Int) : DV c s g x 0 = .agg #[.int .i64 c, .bool s, .bool g, .int .i64 x, .int .u64 0, .int .u64 0, .int .u64 0, .int .u64 0] := by
  unfold DV; simp only [W4_zero]
theorem sN_bl {N : Nat} (h : N ≠ 0) (x : Int) : bl (sN N x) ≤ bl N + 200000 := by
  unfold sN; rw [bl_shift h]; unfold clZ; omega
theorem sD_bl {N : Nat} (h : N ≠ 0) (x : Int) : bl (sD N x) ≤ bl N + 200000 := by
  unfold sD; rw [bl_shift h]; unfold clZ; omega
set_option maxHeartbeats 2000000 in
/-- the document's Round -/
theorem round_v (n d x : Int) (s : Bool) {N D : Nat} {vn vd : Value} {w : World} (hn : NT 2001 N vn w) (hd : NT 2001 D vd w) (hb : binN n) (hk : knB d) (hD : D ≠ 0) (h1 : bl N ≤ 51200) (h2 : bl D ≤ 51200) :
    Calls Tryd.prog 34 #[.int .i64 n, .int .i64 d, .bool s, vn, vd, .int .i64 x] w fun r w' => r = .returned (.tuple #[A4 (doV n d s N D x), .int .i64 (doF n d s N D x)]) ∧ Below w.heap.size w w' := by
  obtain ⟨f1, f2, f3, f4, f5⟩ := fld_bd hb
  have c47 := fun W => rof_bin hb W
  obtain ⟨gn, kn, cn, rfl, hkn, hz⟩ := hn.zero
  by_cases hN : N = 0
  · have hk0 := hz.2 hN
    subst hk0
    unfold doV doF
    rw [if_pos hN, if_pos hN]
    have c66 := fun W => rpack_any n ⟨1, s, false, leastN n, 0⟩ W (show 0 < 2 ^ 256 by decide)
    rw [show (Dat.v ⟨1, s, false, leastN n, 0⟩) = _ from DV_zero 1 s false (leastN n)] at c66
    exact round_z n d x s gn cn vd w _ _ _ _ _ _ _ _ c47 c66
  · have hk0 : ((kn : Int) == 0) = false := by
      rw [beq_eq_false_iff_ne]
      intro e
      exact hN (hz.1 (by omega))
    have hw := dlow_ways hN hD x
    have hlb := low_bd (sN N x) (sD D x)
    have b1 := sN_bl hN x
    have b2 := sD_bl hD x
    have hld : -3000000 ≤ dLow N D x ∧ dLow N D x ≤ 3000000 := by unfold dLow; omega
    have c67 := fun W (hb' : Below w.heap.size w W) => rscale_nt x (by decide) (hn.next hb') (hd.next hb')
    have c68 := fun W a b (ha : NT (2001 + 3130) (sN N x) a W) (hb' : NT (2001 + 3130) (sD D x) b W) => rexp_nt (by decide) ha hb' (by omega) (by omega)
    have c67b : ∀ W a b k, k = -(dQ n N D x) → NT (2001 + 3130) (sN N x) a W → NT (2001 + 3130) (sD D x) b W → Calls Tryd.prog 67 #[a, b, .int .u64 2, .int .i64 k] W fun r w' => ∃ a' b', r = .returned (.tuple #[a', b']) ∧ NT (2001 + 3130 + 3130) (dA n N D x) a' w' ∧ NT (2001 + 3130 + 3130) (dB n N D x) b' w' ∧ Below W.heap.size W w' := by
      rintro W a b k rfl ha hb'
      exact rscale_nt _ (by decide) ha hb'
    have hB0 : dB n N D x ≠ 0 := sD_ne (sD_ne hD x) _
    have c69 := fun W a b (ha : NT (2001 + 3130 + 3130) (dA n N D x) a W) (hb' : NT (2001 + 3130 + 3130) (dB n N D x) b W) => whole_nt d s hk (by decide) ha hb' hB0
    have c70 := fun W v (hv : NV 41002 (dC n d s N D x) v W) => rlen_nv (by decide) hv
    have c71 := fun W v (hv : NV 41002 (dC n d s N D x) v W) => rright1_nv (by decide) hv
    have c66i := fun W => rpack_any n ⟨2, s, false, 0, 0⟩ W (show 0 < 2 ^ 256 by decide)
    rw [show (Dat.v ⟨2, s, false, 0, 0⟩) = _ from DV_zero 2 s false 0] at c66i
    have hf3 : fN n ≤ 300 := by omega
    have hl3 : -100000 ≤ leastN n ∧ leastN n ≤ 100000 := by omega
    have hm3 : -100000 ≤ mostN n ∧ mostN n ≤ 100000 := by omega
    refine round_w n d x s gn kn cn vd w (nameN n) (widthN n) (fN n) (eN n) (leastN n) (mostN n) (sN N x) (sD D x) (dA n N D x) (dB n N D x) (dC n d s N D x) _ _ (pkV n ⟨2, s, false, 0, 0⟩) (lgV n s) (pkV n ⟨1, s, false, dQ' n d s N D x, dC' n d s N D x⟩) _ _ _ (dLow N D x) (dQ n N D x) (decide (dA n N D x % dB n N D x = 0)) (inB d s) c47 hf3 hl3 hm3 hld rfl hk0 c67 c68 c67b c69 c70 c71 (dC' n d s N D x) (dQ' n d s N D x) (fun h => ⟨if_pos h, if_pos h⟩) (fun h => ⟨if_neg h, if_neg h⟩) _ _ (fun ho => ?_) (fun ho => ?_) (fun W => rlargest_any n s W) (fun W => rfar_kn d s W hk) c66i (fun ho W => rpack_any n ⟨1, s, false, dQ' n d s N D x, dC' n d s N D x⟩ W (do_lt d s x hb hN hD h1 h2 ho))
    · unfold doV doF
      rw [if_neg hN, if_neg hN, if_pos ho, if_pos ho]
      exact ⟨rfl, rfl⟩
    · unfold doV doF
      rw [if_neg hN, if_neg hN, if_neg ho, if_neg ho]
      refine ⟨rfl, ?_⟩
      simp only [decide_eq_true_eq]
attribute [local irreducible] W4 NT NV Nt
section
variable (n d x : Int) (s : Bool) (vn vd : Value) (w : World) (sn sd : Nat) (hsn : sn ≤ 10000) (hsd : sd ≤ 10000)
  (c19 : ∀ W, Below w.heap.size w W → Calls Tryd.prog 19 #[vn] W fun r w' => r = .returned (.int .i64 (sn : Int)) ∧ W = w')
  (c19d : ∀ W, Below w.heap.size w W → Calls Tryd.prog 19 #[vd] W fun r w' => r = .returned (.int .i64 (sd : Int)) ∧ W = w')
include hsn hsd c19 c19d
set_option maxHeartbeats 1000000 in
theorem rb12_n (c18 : ∀ W, Calls Tryd.prog 18 #[.int .i64 n] W fun r w' => r = .returned (.bool false) ∧ w' = W) :
    Calls Tryd.prog 12 #[.int .i64 n, .int .i64 d, .bool s, vn, vd, .int .i64 x] w fun r w' => r = .returned (.tuple #[Z4, .int .i64 0, .int .i64 1]) ∧ Below w.heap.size w w' := by
  have hsm := cell_set_map
  go_enter Tryd.func12, Tryd.ntmps12
  go_wp2_with (go_at_call 18; refine (c18 _).mono ?_; rintro r w1 ⟨rfl, rfl⟩)
  exact bodyPost_ret (v := .tuple #[Z4, .int .i64 0, .int .i64 1]) (by simp only [results, Tryd.results12]; go_simp) rfl ⟨rfl, by (repeat (first | with_reducible assumption | with_reducible exact Below.refl _ _ | with_reducible refine Below.setCell ?_ (by first | omega | (dsimp only; omega) | (simp <;> omega)) _ | with_reducible refine Below.alloc ?_ (by first | omega | (simp <;> omega)) _ | with_reducible refine Below.drew ?_))⟩
variable (c18 : ∀ W, Calls Tryd.prog 18 #[.int .i64 n] W fun r w' => r = .returned (.bool true) ∧ W = w')
include c18
set_option maxHeartbeats 1000000 in
theorem rb12_d (c16 : ∀ W, Calls Tryd.prog 16 #[.int .i64 d] W fun r w' => r = .returned (.bool false) ∧ W = w') :
    Calls Tryd.prog 12 #[.int .i64 n, .int .i64 d, .bool s, vn, vd, .int .i64 x] w fun r w' => r = .returned (.tuple #[Z4, .int .i64 0, .int .i64 1]) ∧ Below w.heap.size w w' := by
  have hsm := cell_set_map
  go_enter Tryd.func12, Tryd.ntmps12
  go_wp2_with (first
    | (go_at_call 18; refine (c18 _).mono ?_; rintro r w1 ⟨rfl, rfl⟩)
    | (go_at_call 16; refine (c16 _).mono ?_; rintro r w1 ⟨rfl, rfl⟩))
  exact bodyPost_ret (v := .tuple #[Z4, .int .i64 0, .int .i64 1]) (by simp only [results, Tryd.results12]; go_simp) rfl ⟨rfl, by (repeat (first | with_reducible assumption | with_reducible exact Below.refl _ _ | with_reducible refine Below.setCell ?_ (by first | omega | (dsimp only; omega) | (simp <;> omega)) _ | with_reducible refine Below.alloc ?_ (by first | omega | (simp <;> omega)) _ | with_reducible refine Below.drew ?_))⟩
variable (c16 : ∀ W, Calls Tryd.prog 16 #[.int .i64 d] W fun r w' => r = .returned (.bool true) ∧ W = w')
include c16
set_option maxHeartbeats 1000000 in
theorem rb12_z (h : sd = 0) :
    Calls Tryd.prog 12 #[.int .i64 n, .int .i64 d, .bool s, vn, vd, .int .i64 x] w fun r w' => r = .returned (.tuple #[Z4, .int .i64 0, .int .i64 1]) ∧ Below w.heap.size w w' := by
  subst h
  have hsm := cell_set_map
  go_enter Tryd.func12, Tryd.ntmps12
  go_wp2_with (first
    | (go_at_call 18; refine (c18 _).mono ?_; rintro r w1 ⟨rfl, rfl⟩)
    | (go_at_call 16; refine (c16 _).mono ?_; rintro r w1 ⟨rfl, rfl⟩)
    | (go_at_call_of 19 vd; refine (c19d _ (by (repeat (first | with_reducible assumption | with_reducible exact Below.refl _ _ | with_reducible refine Below.setCell ?_ (by first | omega | (dsimp only; omega) | (simp <;> omega)) _ | with_reducible refine Below.alloc ?_ (by first | omega | (simp <;> omega)) _ | with_reducible refine Below.drew ?_)))).mono ?_; rintro r w1 ⟨rfl, rfl⟩))
  exact bodyPost_ret (v := .tuple #[Z4, .int .i64 0, .int .i64 1]) (by simp only [results, Tryd.results12]; go_simp) rfl ⟨rfl, by (repeat (first | with_reducible assumption | with_reducible exact Below.refl _ _ | with_reducible refine Below.setCell ?_ (by first | omega | (dsimp only; omega) | (simp <;> omega)) _ | with_reducible refine Below.alloc ?_ (by first | omega | (simp <;> omega)) _ | with_reducible refine Below.drew ?_))⟩
variable (hd0 : ((sd : Int) == 0) = false)
include hd0
set_option maxHeartbeats 1000000 in
theorem rb12_ln (h : (800 : Int) < sn) :
    Calls Tryd.prog 12 #[.int .i64 n, .int .i64 d, .bool s, vn, vd, .int .i64 x] w fun r w' => r = .returned (.tuple #[Z4, .int .i64 0, .int .i64 4]) ∧ Below w.heap.size w w' := by
  have hsm := cell_set_map
  go_enter Tryd.func12, Tryd.ntmps12
  go_wp2_with (first
    | (go_at_call 18; refine (c18 _).mono ?_; rintro r w1 ⟨rfl, rfl⟩)
    | (go_at_call 16; refine (c16 _).mono ?_; rintro r w1 ⟨rfl, rfl⟩)
    | (go_at_call_of 19 vd; refine (c19d _ (by (repeat (first | with_reducible assumption | with_reducible exact Below.refl _ _ | with_reducible refine Below.setCell ?_ (by first | omega | (dsimp only; omega) | (simp <;> omega)) _ | with_reducible refine Below.alloc ?_ (by first | omega | (simp <;> omega)) _ | with_reducible refine Below.drew ?_)))).mono ?_; rintro r w1 ⟨rfl, rfl⟩; clear c19d)
    | (go_at_call_of 19 vn; refine (c19 _ (by (repeat (first | with_reducible assumption | with_reducible exact Below.refl _ _ | with_reducible refine Below.setCell ?_ (by first | omega | (dsimp only; omega) | (simp <;> omega)) _ | with_reducible refine Below.alloc ?_ (by first | omega | (simp <;> omega)) _ | with_reducible refine Below.drew ?_)))).mono ?_; rintro r w1 ⟨rfl, rfl⟩))
  exact bodyPost_ret (v := .tuple #[Z4, .int .i64 0, .int .i64 4]) (by simp only [results, Tryd.results12]; go_simp) rfl ⟨rfl, by (repeat (first | with_reducible assumption | with_reducible exact Below.refl _ _ | with_reducible refine Below.setCell ?_ (by first | omega | (dsimp only; omega) | (simp <;> omega)) _ | with_reducible refine Below.alloc ?_ (by first | omega | (simp <;> omega)) _ | with_reducible refine Below.drew ?_))⟩
set_option maxHeartbeats 1000000 in
theorem rb12_ld (h : ¬ (800 : Int) < sn) (h' : (800 : Int) < sd) :
    Calls Tryd.prog 12 #[.int .i64 n, .int .i64 d, .bool s, vn, vd, .int .i64 x] w fun r w' => r = .returned (.tuple #[Z4, .int .i64 0, .int .i64 4]) ∧ Below w.heap.size w w' := by
  have hsm := cell_set_map
  go_enter Tryd.func12, Tryd.ntmps12
  go_wp2_with (first
    | (go_at_call 18; refine (c18 _).mono ?_; rintro r w1 ⟨rfl, rfl⟩)
    | (go_at_call 16; refine (c16 _).mono ?_; rintro r w1 ⟨rfl, rfl⟩)
    | (go_at_call_of 19 vd; refine (c19d _ (by (repeat (first | with_reducible assumption | with_reducible exact Below.refl _ _ | with_reducible refine Below.setCell ?_ (by first | omega | (dsimp only; omega) | (simp <;> omega)) _ | with_reducible refine Below.alloc ?_ (by first | omega | (simp <;> omega)) _ | with_reducible refine Below.drew ?_)))).mono ?_; rintro r w1 ⟨rfl, rfl⟩)
    | (go_at_call_of 19 vn; refine (c19 _ (by (repeat (first | with_reducible assumption | with_reducible exact Below.refl _ _ | with_reducible refine Below.setCell ?_ (by first | omega | (dsimp only; omega) | (simp <;> omega)) _ | with_reducible refine Below.alloc ?_ (by first | omega | (simp <;> omega)) _ | with_reducible refine Below.drew ?_)))).mono ?_; rintro r w1 ⟨rfl, rfl⟩))
  exact bodyPost_ret (v := .tuple #[Z4, .int .i64 0, .int .i64 4]) (by simp only [results, Tryd.results12]; go_simp) rfl ⟨rfl, by (repeat (first | with_reducible assumption | with_reducible exact Below.refl _ _ | with_reducible refine Below.setCell ?_ (by first | omega | (dsimp only; omega) | (simp <;> omega)) _ | with_reducible refine Below.alloc ?_ (by first | omega | (simp <;> omega)) _ | with_reducible refine Below.drew ?_))⟩
set_option maxHeartbeats 1000000 in
theorem rb12_k (h : ¬ (800 : Int) < sn) (h' : ¬ (800 : Int) < sd) (N D V : Nat) (F : Int)
    (c35 : ∀ W, Below w.heap.size w W → Calls Tryd.prog 35 #[vn] W fun r w' => ∃ v, r = .returned v ∧ NT 2001 N v w' ∧ Below W.heap.size W w')
    (c35d : ∀ W, Below w.heap.size w W → Calls Tryd.prog 35 #[vd] W fun r w' => ∃ v, r = .returned v ∧ NT 2001 D v w' ∧ Below W.heap.size W w')
    (c34 : ∀ W v v', NT 2001 N v W → NT 2001 D v' W → Calls Tryd.prog 34 #[.int .i64 n, .int .i64 d, .bool s, v, v', .int .i64 x] W fun r w' => r = .returned (.tuple #[A4 V, .int .i64 F]) ∧ Below W.heap.size W w') :
    Calls Tryd.prog 12 #[.int .i64 n, .int .i64 d, .bool s, vn, vd, .int .i64 x] w fun r w' => r = .returned (.tuple #[A4 V, .int .i64 F, .int .i64 0]) ∧ Below w.heap.size w w' := by
  have hsm := cell_set_map
  go_enter Tryd.func12, Tryd.ntmps12
  go_upto_region 5 with (first
    | (go_at_call 18; refine (c18 _).mono ?_; rintro r w1 ⟨rfl, rfl⟩)
    | (go_at_call 16; refine (c16 _).mono ?_; rintro r w1 ⟨rfl, rfl⟩)
    | (go_at_call_of 19 vd; refine (c19d _ (by (repeat (first | with_reducible assumption | with_reducible exact Below.refl _ _ | with_reducible refine Below.setCell ?_ (by first | omega | (dsimp only; omega) | (simp <;> omega)) _ | with_reducible refine Below.alloc ?_ (by first | omega | (simp <;> omega)) _ | with_reducible refine Below.drew ?_)))).mono ?_; rintro r w1 ⟨rfl, rfl⟩)
    | (go_at_call_of 19 vn; refine (c19 _ (by (repeat (first | with_reducible assumption | with_reducible exact Below.refl _ _ | with_reducible refine Below.setCell ?_ (by first | omega | (dsimp only; omega) | (simp <;> omega)) _ | with_reducible refine Below.alloc ?_ (by first | omega | (simp <;> omega)) _ | with_reducible refine Below.drew ?_)))).mono ?_; rintro r w1 ⟨rfl, rfl⟩))
  go_wp2_with (first
    | (go_at_call_of 35 vn; refine (c35 _ (by (repeat (first | with_reducible assumption | with_reducible exact Below.refl _ _ | with_reducible refine Below.setCell ?_ (by first | omega | (dsimp only; omega) | (simp <;> omega)) _ | with_reducible refine Below.alloc ?_ (by first | omega | (simp <;> omega)) _ | with_reducible refine Below.drew ?_)))).mono ?_; rintro r w2 ⟨v2, rfl, h2, hb2⟩; clear c35; obtain ⟨hc2, hf2⟩ := bcell hb2; have hz2_0 : w.heap.size < w2.heap.size := lt_below hb2 (by first | with_reducible assumption | (simp; done) | (simp; omega)); have hl2_0 := Nat.le_of_lt hz2_0; have hA2 := bnext (w0 := w) (by (repeat (first | with_reducible assumption | with_reducible exact Below.refl _ _ | with_reducible refine Below.setCell ?_ (by first | omega | (dsimp only; omega) | (simp <;> omega)) _ | with_reducible refine Below.alloc ?_ (by first | omega | (simp <;> omega)) _ | with_reducible refine Below.drew ?_))) hb2; have hs2 := hA2.size; clear hb2)
    | (go_at_call_of 35 vd; refine (c35d _ (by (repeat (first | with_reducible assumption | with_reducible exact Below.refl _ _ | with_reducible refine Below.setCell ?_ (by first | omega | (dsimp only; omega) | (simp <;> omega)) _ | with_reducible refine Below.alloc ?_ (by first | omega | (simp <;> omega)) _ | with_reducible refine Below.drew ?_)))).mono ?_; rintro r w3 ⟨v3, rfl, h3, hb3⟩; have h2' := h2.next hb3; clear c35d; obtain ⟨hc3, hf3⟩ := bcell hb3; have hz3_0 : w.heap.size < w3.heap.size := lt_below hb3 (by first | with_reducible assumption | (simp; done) | (simp; omega)); have hl3_0 := Nat.le_of_lt hz3_0; have hA3 := bnext (w0 := w) (by (repeat (first | with_reducible assumption | with_reducible exact Below.refl _ _ | with_reducible refine Below.setCell ?_ (by first | omega | (dsimp only; omega) | (simp <;> omega)) _ | with_reducible refine Below.alloc ?_ (by first | omega | (simp <;> omega)) _ | with_reducible refine Below.drew ?_))) hb3; have hs3 := hA3.size; clear hb3)
    | (go_at_call 34; refine (c34 _ _ _ h2' h3).mono ?_; rintro r w4 ⟨rfl, hb4⟩; obtain ⟨hc4, hf4⟩ := bcell hb4; have hz4_0 : w.heap.size < w4.heap.size := lt_below hb4 (by first | with_reducible assumption | (simp; done) | (simp; omega)); have hl4_0 := Nat.le_of_lt hz4_0; have hA4 := bnext (w0 := w) (by (repeat (first | with_reducible assumption | with_reducible exact Below.refl _ _ | with_reducible refine Below.setCell ?_ (by first | omega | (dsimp only; omega) | (simp <;> omega)) _ | with_reducible refine Below.alloc ?_ (by first | omega | (simp <;> omega)) _ | with_reducible refine Below.drew ?_))) hb4; have hs4 := hA4.size; clear hb4))
  exact bodyPost_ret (v := .tuple #[A4 V, .int .i64 F, .int .i64 0]) (by simp only [results, Tryd.results12]; go_simp) rfl ⟨rfl, by (repeat (first | with_reducible assumption | with_reducible exact Below.refl _ _ | with_reducible refine Below.setCell ?_ (by first | omega | (dsimp only; omega) | (simp <;> omega)) _ | with_reducible refine Below.alloc ?_ (by first | omega | (simp <;> omega)) _ | with_reducible refine Below.drew ?_))⟩
end
/-- the document's Binary answers as round's -/
theorem rb12_any (n d x : Int) (s : Bool) {N D : Nat} {vn vd : Value} {w : World} (hn : Nt 2001 N vn w) (hd : Nt 2001 D vd w) :
    Calls Tryd.prog 12 #[.int .i64 n, .int .i64 d, .bool s, vn, vd, .int .i64 x] w fun r w' => r = .returned (.tuple #[A4 (rnV n d s N D x), .int .i64 (rnF n d s N D x), .int .i64 (rnE n d N D)]) ∧ Below w.heap.size w w' := by
  obtain ⟨sn, ⟨n1, n2, n3⟩, c19⟩ := rsize_nt (by decide) hn
  obtain ⟨sd, ⟨d1, d2, d3⟩, c19d⟩ := rsize_nt (by decide) hd
  have e800 := n3 800
  have f800 := d3 800
  by_cases hb : binN n
  · have c18 : ∀ W, Calls Tryd.prog 18 #[.int .i64 n] W fun r w' => r = .returned (.bool true) ∧ W = w' := fun W => by
      have := rbinary_any n W
      rw [decide_eq_true hb] at this
      exact this.mono fun _ _ ⟨h1, h2⟩ => ⟨h1, h2.symm⟩
    by_cases hk : knB d
    · have c16 : ∀ W, Calls Tryd.prog 16 #[.int .i64 d] W fun r w' => r = .returned (.bool true) ∧ W = w' := fun W => by
        have := rdir_any d W
        rw [decide_eq_true hk] at this
        exact this
      by_cases hD : D = 0
      · have e : rnE n d N D = 1 := if_neg fun h => h.2.2 hD
        unfold rnV rnF
        rw [e, if_neg (by decide), if_neg (by decide), A4_zero]
        exact rb12_z n d x s vn vd w sn sd (by omega) (by omega) c19 c19d c18 c16 (d2.2 hD)
      · have hd0 : ((sd : Int) == 0) = false := by
          rw [beq_eq_false_iff_ne]
          intro e
          exact hD (d2.1 (by omega))
        have e0 : rnE n d N D = if 51200 < bl N ∨ 51200 < bl D then 4 else 0 := if_pos ⟨hb, hk, hD⟩
        by_cases hln : 51200 < bl N
        · have e : rnE n d N D = 4 := by rw [e0, if_pos (Or.inl hln)]
          unfold rnV rnF
          rw [e, if_neg (by decide), if_neg (by decide), A4_zero]
          exact rb12_ln n d x s vn vd w sn sd (by omega) (by omega) c19 c19d c18 c16 hd0 (by omega)
        · by_cases hl2 : 51200 < bl D
          · have e : rnE n d N D = 4 := by rw [e0, if_pos (Or.inr hl2)]
            unfold rnV rnF
            rw [e, if_neg (by decide), if_neg (by decide), A4_zero]
            exact rb12_ld n d x s vn vd w sn sd (by omega) (by omega) c19 c19d c18 c16 hd0 (by omega) (by omega)
          · have e : rnE n d N D = 0 := by rw [e0, if_neg (by omega)]
            unfold rnV rnF
            rw [e, if_pos rfl, if_pos rfl]
            have heq := do_eq d s N x hb hD (by omega) (by omega)
            rw [← heq.1, ← heq.2]
            exact rb12_k n d x s vn vd w sn sd (by omega) (by omega) c19 c19d c18 c16 hd0 (by omega) (by omega) N D _ _ (fun W hW => rtrim_nt (by decide) (hn.next hW)) (fun W hW => rtrim_nt (by decide) (hd.next hW)) (fun W v v' hv hv' => round_v n d x s hv hv' hb hk hD (by omega) (by omega))
    · have c16 : ∀ W, Calls Tryd.prog 16 #[.int .i64 d] W fun r w' => r = .returned (.bool false) ∧ W = w' := fun W => by
        have := rdir_any d W
        rw [decide_eq_false hk] at this
        exact this
      have e : rnE n d N D = 1 := if_neg fun h => hk h.2.1
      unfold rnV rnF
      rw [e, if_neg (by decide), if_neg (by decide), A4_zero]
      exact rb12_d n d x s vn vd w sn sd (by omega) (by omega) c19 c19d c18 c16
  · have c18 : ∀ W, Calls Tryd.prog 18 #[.int .i64 n] W fun r w' => r = .returned (.bool false) ∧ w' = W := fun W => by
      have := rbinary_any n W
      rw [decide_eq_false hb] at this
      exact this
    have e : rnE n d N D = 1 := if_neg fun h => hb h.1
    unfold rnV rnF
    rw [e, if_neg (by decide), if_neg (by decide), A4_zero]
    exact rb12_n n d x s vn vd w sn sd (by omega) (by omega) c19 c19d c18
set_option maxHeartbeats 1000000 in
theorem rscaled_any (n d x : Int) (s : Bool) (B : Nat) (w : World) (hB : B < 2 ^ 256) :
    Calls Tryd.prog 14 #[.int .i64 n, .int .i64 d, .bool s, A4 B, .int .i64 x] w fun r w' => r = .returned (.tuple #[A4 (rnV n d s B 1 x), .int .i64 (rnF n d s B 1 x), .int .i64 (rnE n d B 1)]) ∧ Below w.heap.size w w' := by
  have c12 := fun W (vn vd : Value) (h1 : Nt 2001 B vn W) (h2 : Nt 2001 1 vd W) => rb12_any n d x s h1 h2
  have hbx := fun W hW => (nv_nt (box_nv (w0 := w) (w := W) (B := B) (t := 27) hB hW)).more (show 4 ≤ 2001 by decide)
  generalize rnV n d s B 1 x = R at *
  generalize rnF n d s B 1 x = F at *
  generalize rnE n d B 1 = E at *
  have hsm := cell_set_map
  go_enter Tryd.func14, Tryd.ntmps14
  go_wp2_with (go_at_call 12; refine (c12 _ _ _ (hbx _ (by (repeat (first | with_reducible assumption | with_reducible exact Below.refl _ _ | with_reducible refine Below.setCell ?_ (by first | omega | (dsimp only; omega) | (simp <;> omega)) _ | with_reducible refine Below.alloc ?_ (by first | omega | (simp <;> omega)) _ | with_reducible refine Below.drew ?_)))) ((nt_one (by simp) rfl (by decide)).more (by decide))).mono ?_; rintro r w1 ⟨rfl, hb1⟩; obtain ⟨hc1, hf1⟩ := bcell hb1; have hz1_0 : w.heap.size < w1.heap.size := lt_below hb1 (by first | with_reducible assumption | (simp; done) | (simp; omega)); have hl1_0 := Nat.le_of_lt hz1_0; have hz1_1 : w.heap.size + 1 < w1.heap.size := lt_below hb1 (by first | with_reducible assumption | (simp; done) | (simp; omega)); have hl1_1 := Nat.le_of_lt hz1_1; have hA1 := bnext (w0 := w) (by (repeat (first | with_reducible assumption | with_reducible exact Below.refl _ _ | with_reducible refine Below.setCell ?_ (by first | omega | (dsimp only; omega) | (simp <;> omega)) _ | with_reducible refine Below.alloc ?_ (by first | omega | (simp <;> omega)) _ | with_reducible refine Below.drew ?_))) hb1; have hs1 := hA1.size; clear hb1)
  exact bodyPost_ret (v := .tuple #[A4 R, .int .i64 F, .int .i64 E]) (by simp only [results, Tryd.results14]; go_simp) rfl ⟨rfl, by (repeat (first | with_reducible assumption | with_reducible exact Below.refl _ _ | with_reducible refine Below.setCell ?_ (by first | omega | (dsimp only; omega) | (simp <;> omega)) _ | with_reducible refine Below.alloc ?_ (by first | omega | (simp <;> omega)) _ | with_reducible refine Below.drew ?_))⟩
end Go.Proofs.YthcndcanahhbcaaDoor
