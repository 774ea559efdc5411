/-
  Texts that the proof leans on.
-/
import Derived.Test.YtehgnckgmdkfmaaGreatDoorJ25
import Derived.Test.YtehgnckgmdkfmaaGreatDoorJ20
set_option linter.unusedVariables false
set_option linter.unusedSectionVars false
set_option linter.unusedSimpArgs false
set_option maxRecDepth 20000
namespace Go.Proofs.YtehgnckgmdkfmaaGreatDoor
open Go.RowKit
section
theorem dof_dec {n : Int} (h : decN n) (w : World) (hT : Tab w) : Calls Tryz.prog 34 #[.int .i64 n] w fun x w' => x = .returned (.tuple #[IDec n (nameN n) (widthN n) (3 * ((fD n).j : Int) + 1) (expN n) (fD n).l (fD n).m (payN n) (denseN n), .int .i64 0]) ∧ Below w.heap.size w w' := by
  obtain ⟨hok, h1, h2, h3, h4, h5, h6, h7, h8⟩ := dec_fields h
  have c := ofv_any n w hT
  rw [show infoE n = 0 from if_pos hok, h1, h2, h4, h5, h6] at c
  exact c
theorem not_decE {n : Int} (hok : okN n) (h : ¬ decN n) : (baseN n != 10) = true := by
  unfold okN at hok
  unfold decN at h
  have : n = 1 ∨ n = 2 ∨ n = 3 ∨ n = 4 ∨ n = 5 ∨ n = 6 := by omega
  rcases this with rfl | rfl | rfl | rfl | rfl | rfl <;> decide
section
variable {n d : Int} {N D : Nat} {vn vd : Value} {w : World} (hT : Tab w) (hn : Nt 2001 N vn w) (hd : Nt 2001 D vd w)
include hT hn hd
theorem dchk_bad (hE : rqE n d N D ≠ 0) : Calls Tryz.prog 116 #[.int .i64 n, .int .i64 d, vn, vd] w fun r w' => r = .returned (.tuple #[IZ, .int .i64 (rqE n d N D)]) ∧ Below w.heap.size w w' := by
  have c66 := fun W (hb : Below w.heap.size w W) => nlen_v (by decide) (hn.next hb)
  have c66d := fun W (hb : Below w.heap.size w W) => nlen_v (by decide) (hd.next hb)
  unfold rqE at hE ⊢
  by_cases h1 : decN n
  · by_cases h2 : knB d
    · by_cases h3 : D = 0
      · rw [if_neg (fun h => h.2.2 h3)]
        exact dcheck_z n d _ _ _ _ _ _ _ _ N D vn vd w hT c66 c66d (decide_eq_true h2) (by rw [h3]; rfl) (fun W hT' => dof_dec h1 W hT')
      · rw [if_pos ⟨h1, h2, h3⟩] at hE ⊢
        have hD0 : (((bl D : Nat) : Int) == 0) = false := by rw [bl_nought]; exact decide_eq_false h3
        by_cases h4 : 25600 < bl N
        · rw [if_pos (Or.inl h4)]
          exact dcheck_n n d _ _ _ _ _ _ _ _ N D vn vd w hT c66 c66d (decide_eq_true h2) hD0 (by omega) (fun W hT' => dof_dec h1 W hT')
        · by_cases h5 : 25600 < bl D
          · rw [if_pos (Or.inr h5)]
            exact dcheck_l n d _ _ _ _ _ _ _ _ N D vn vd w hT c66 c66d (decide_eq_true h2) hD0 (by omega) (by omega) (fun W hT' => dof_dec h1 W hT')
          · exact absurd (if_neg (fun h => h.elim h4 h5)) hE
    · rw [if_neg (fun h => h2 h.2.1)]
      exact dcheck_d n d _ _ _ _ _ _ _ _ N D vn vd w hT c66 c66d (decide_eq_false h2) (fun W hT' => dof_dec h1 W hT')
  · rw [if_neg (fun h => h1 h.1)]
    by_cases hok : okN n
    · refine dcheck_b n d (nameN n) (widthN n) (precN n) (expN n) (leastN n) (mostN n) (payN n) (baseN n) (denseN n) N D vn vd w hT c66 c66d (numN n) (not_decE hok h1) (fun W hT' => ?_)
      have c := ofv_any n W hT'
      rw [show infoE n = 0 from if_pos hok] at c
      exact c
    · refine dcheck_e n d (nameN n) (widthN n) (precN n) (expN n) (leastN n) (mostN n) (payN n) (baseN n) (denseN n) N D vn vd w hT c66 c66d (numN n) 1 (by decide) (fun W hT' => ?_)
      have c := ofv_any n W hT'
      rw [show infoE n = 1 from if_neg hok] at c
      exact c
theorem dchk_ok (hE : rqE n d N D = 0) : Calls Tryz.prog 116 #[.int .i64 n, .int .i64 d, vn, vd] w fun r w' => r = .returned (.tuple #[IDec n (nameN n) (widthN n) (3 * ((fD n).j : Int) + 1) (expN n) (fD n).l (fD n).m (payN n) (denseN n), .int .i64 0]) ∧ Below w.heap.size w w' := by
  have c66 := fun W (hb : Below w.heap.size w W) => nlen_v (by decide) (hn.next hb)
  have c66d := fun W (hb : Below w.heap.size w W) => nlen_v (by decide) (hd.next hb)
  obtain ⟨h1, h2, h3, h4, h5⟩ := rq_zero hE
  exact dcheck_k n d _ _ _ _ _ _ _ _ N D vn vd w hT c66 c66d (decide_eq_true h2) (by rw [bl_nought]; exact decide_eq_false h3) (by omega) (by omega) (fun W hT' => dof_dec h1 W hT')
end
theorem ten_256 {f : DF} (hf : f.ok) : (10 : Nat) ^ (3 * f.j + 1) < 2 ^ 256 := by
  obtain ⟨m0, m1, l0, l1, lm, j0, j1⟩ := ok_m hf
  exact Nat.lt_of_le_of_lt (Nat.pow_le_pow_right (by decide) (show 3 * f.j + 1 ≤ 34 by omega)) (by decide)
theorem drd_v {n d x y : Int} {s : Bool} {N D : Nat} {vn vd : Value} {w : World} (hT : Tab w) (hn : Nt 2001 N vn w) (hd : Nt 2001 D vd w) :
    Calls Tryz.prog 96 #[.int .i64 n, .int .i64 d, .bool s, vn, vd, .int .i64 x, .int .i64 y] w fun r w' => r = .returned (.tuple #[(rqD n d s N D x y).v, .int .i64 (rqF n d s N D x), .int .i64 (rqE n d N D)]) ∧ Below w.heap.size w w' := by
  by_cases hE : rqE n d N D = 0
  · have c17 := fun W (hb : Below w.heap.size w W) => dchk_ok (hT.go hb) (hn.next hb) (hd.next hb) hE
    have c18 := fun W (hb : Below w.heap.size w W) => nlen_v (by decide) (hn.next hb)
    obtain ⟨h1, h2, h3, h4, h5⟩ := rq_zero hE
    have hf := fD_ok n
    obtain ⟨m0, m1, l0, l1, lm, j0, j1⟩ := ok_m hf
    by_cases hN : N = 0
    · have e1 : rqD n d s N D x y = ⟨1, s, false, min (max y (fD n).l) (fD n).m, 0⟩ := by unfold rqD; rw [if_pos hE, if_pos hN]
      have e2 : rqF n d s N D x = 0 := by unfold rqF; rw [if_pos hE, if_pos hN]
      rw [e1, e2, hE]
      have ev : (Dat.mk 1 s false (min (max y (fD n).l) (fD n).m) 0).v = .agg #[.int .i64 1, .bool s, .bool false, .int .i64 (min (max y (fD n).l) (fD n).m), .int .u64 0, .int .u64 0, .int .u64 0, .int .u64 0] := by
        unfold Dat.v DV
        simp only [W4_zero]
      rw [ev]
      exact ddec_z n d x y s vn vd w _ _ _ _ _ _ _ _ N _ _ _ _ _ _ _ _ c17 c18 (by rw [hN]; rfl) _ rfl (fun W => dfin_n s _ W)
    · obtain ⟨L, hL, _⟩ := dlead_v hn hd hN h3 h4 h5
      have c20 : ∀ W, Below w.heap.size w W → Calls Tryz.prog 118 #[vn, vd] W fun r w' => r = .returned (.int .i64 L) ∧ Below W.heap.size W w' := fun W hb => by
        obtain ⟨L', hL', c⟩ := dlead_v (hn.next hb) (hd.next hb) hN h3 h4 h5
        rw [hL'.only hL] at c
        exact c
      obtain ⟨b1, b2⟩ := tn_bd (by omega) (by omega) h4 h5 hL
      obtain ⟨r1, r2⟩ := drd_num (s := s) (x := x) (y := y) hE hN hL
      have hTn := TnE_sh hL (pX (fD n) L x)
      have c21 : ∀ W, Calls Tryz.prog 119 #[IDec n (nameN n) (widthN n) (3 * ((fD n).j : Int) + 1) (expN n) (fD n).l (fD n).m (payN n) (denseN n), .int .i64 L, .int .i64 x] W fun r w' => r = .returned (.int .i64 (pX (fD n) L x)) ∧ Below W.heap.size W w' := fun W =>
        dwithin_v n _ _ _ _ _ _ _ _ L x W (by omega) (by omega) (by omega) (by omega)
      have hXb : (fD n).l - 2 - L ≤ pX (fD n) L x ∧ pX (fD n) L x ≤ (fD n).m + (3 * (fD n).j + 1) - L := by unfold pX; omega
      have hC0 := dkC0_at (fD n) d s N D (pX (fD n) L x) (L + pX (fD n) L x)
      have hX0 := dkX_at (fD n) N D (pX (fD n) L x) (L + pX (fD n) L x)
      have hle := dkC0_le (f := fD n) (d := d) (s := s) (Nat.mul_pos (show 0 < D by omega) (ten_pos (-(pX (fD n) L x)).toNat)) hTn
      have hCl := dkC_lt (f := fD n) (d := d) (s := s) (Nat.mul_pos (show 0 < D by omega) (ten_pos (-(pX (fD n) L x)).toNat)) hTn
      have h256 := ten_256 hf
      have hql := dkE_ge (fD n) d s (N * 10 ^ (pX (fD n) L x).toNat) (D * 10 ^ (-(pX (fD n) L x)).toNat) (L + pX (fD n) L x)
      have hqq : max (fD n).l (L + pX (fD n) L x - (3 * ((fD n).j : Int) + 1) + 1) = dkQ (fD n) (L + pX (fD n) L x) := by unfold dkQ; omega
      have hqb : -20000 ≤ dkQ (fD n) (L + pX (fD n) L x) ∧ dkQ (fD n) (L + pX (fD n) L x) ≤ 20000 := by unfold dkQ; omega
      have hdf : -9100 ≤ pX (fD n) L x - dkQ (fD n) (L + pX (fD n) L x) ∧ pX (fD n) L x - dkQ (fD n) (L + pX (fD n) L x) ≤ 9100 := by unfold dkQ; omega
      rw [r1, r2, hE]
      clear r1 r2 hL
      unfold dkD dkF
      unfold dkM at *
      generalize hEq : dkE (fD n) d s (N * 10 ^ (pX (fD n) L x).toNat) (D * 10 ^ (-(pX (fD n) L x)).toNat) (L + pX (fD n) L x) = qe at *
      generalize hCq : dkC (fD n) d s (N * 10 ^ (pX (fD n) L x).toNat) (D * 10 ^ (-(pX (fD n) L x)).toNat) (L + pX (fD n) L x) = ce at *
      unfold dkE at hEq
      unfold dkC at hCq
      rw [hX0]
      generalize dkC0 (fD n) d s (N * 10 ^ (pX (fD n) L x).toNat) (D * 10 ^ (-(pX (fD n) L x)).toNat) (L + pX (fD n) L x) = C at *
      clear hX0 hTn
      generalize dkQ (fD n) (L + pX (fD n) L x) = q0 at *
      generalize pX (fD n) L x = X at *
      have c22 : ∀ W, Below w.heap.size w W → Calls Tryz.prog 120 #[vn, vd, .int .i64 (X - q0)] W fun r w' => ∃ va vb, r = .returned (.tuple #[va, vb]) ∧ Below W.heap.size W w' ∧ (Calls Tryz.prog 121 #[.int .i64 d, .bool s, va, vb] w' fun r w'' => ∃ v, r = .returned (.tuple #[v, .bool (decide (N * 10 ^ (X - q0).toNat % (D * 10 ^ (-(X - q0)).toNat) = 0))]) ∧ Nz 2003 C v w'' ∧ Below w'.heap.size w' w'') := fun W hb => by
        refine (dscaled_v (X - q0) (hn.next hb) (hd.next hb) (by omega) (by omega) (by omega)).mono ?_
        rintro r w' ⟨va, vb, e1, e2, e3, e4⟩
        refine ⟨va, vb, e1, e4, ?_⟩
        rw [hC0]
        have t1 := bl_mul N (10 ^ (X - q0).toNat)
        have t2 := bl_mul D (10 ^ (-(X - q0)).toNat)
        have t3 := ten_bl (X - q0).toNat
        have t4 := ten_bl (-(X - q0)).toNat
        exact whole_cv d s e2 e3 (Nat.ne_of_gt (Nat.mul_pos (by omega) (ten_pos _))) (by omega) (by omega)
      have c25 : ∀ W, Calls Tryz.prog 123 #[.int .i64 (3 * ((fD n).j : Int) + 1)] W fun r w' => ∃ v, r = .returned v ∧ NT 2001 (10 ^ (3 * (fD n).j + 1)) v w' ∧ Below W.heap.size W w' := fun W => by
        have := drten_v (3 * (fD n).j + 1) W (by omega)
        rw [show ((3 * (fD n).j + 1 : Nat) : Int) = 3 * ((fD n).j : Int) + 1 by omega] at this
        exact this
      have c25b : ∀ W, Calls Tryz.prog 123 #[.int .i64 (3 * ((fD n).j : Int) + 1 - 1)] W fun r w' => ∃ v, r = .returned v ∧ NT 2001 (10 ^ (3 * (fD n).j)) v w' ∧ Below W.heap.size W w' := fun W => by
        have := drten_v (3 * (fD n).j) W (by omega)
        rw [show ((3 * (fD n).j : Nat) : Int) = 3 * ((fD n).j : Int) + 1 - 1 by omega] at this
        exact this
      have c24 : ∀ W v u, Nz 2003 C v W → NT 2001 (10 ^ (3 * (fD n).j + 1)) u W → Calls Tryz.prog 122 #[v, u] W fun r w' => r = .returned (.int .i64 (sgn (C : Int) ((10 ^ (3 * (fD n).j + 1) : Nat) : Int))) ∧ Below W.heap.size W w' := fun W v u hv hu => ncmp_v (by decide) (by decide) hv.nt hu.nt
      have hcm : (sgn (C : Int) ((10 ^ (3 * (fD n).j + 1) : Nat) : Int) == 0) = decide (10 ^ (3 * (fD n).j + 1) ≤ C) := by
        rcases sgn_ways (C : Int) ((10 ^ (3 * (fD n).j + 1) : Nat) : Int) with ⟨a, e⟩ | ⟨a, e⟩ | ⟨a, e⟩
        · rw [e, decide_eq_false (by omega)]; rfl
        · rw [e, decide_eq_true (by omega)]; rfl
        · exact absurd a (by omega)
      have c26 : ∀ W, Calls Tryz.prog 124 #[IDec n (nameN n) (widthN n) (3 * ((fD n).j : Int) + 1) (expN n) (fD n).l (fD n).m (payN n) (denseN n), .int .i64 d, .bool s] W fun r w' => r = .returned ((if inB d s then (⟨2, s, false, 0, 0⟩ : Dat) else ⟨1, s, false, (fD n).m, 10 ^ (3 * (fD n).j + 1) - 1⟩).v) ∧ Below W.heap.size W w' := fun W => by
        by_cases hi : inB d s = true
        · rw [if_pos hi]
          have := dover_i n (nameN n) (widthN n) (3 * ((fD n).j : Int) + 1) (expN n) (fD n).l (fD n).m (payN n) (denseN n) d s W hi
          unfold Dat.v DV
          simp only [W4_zero]
          exact this
        · rw [if_neg hi]
          exact dover_l n (nameN n) (widthN n) (3 * ((fD n).j : Int) + 1) (expN n) (fD n).l (fD n).m (payN n) (denseN n) d s W (by simpa using hi) _ (10 ^ (3 * (fD n).j + 1) - 1) _ _ _ _ _ _ _ _ c25 (fun W v u hv hu => nsub_vd (by decide) (by decide) hv hu (ten_pos _)) (fun W v hv => dfin_v (C := 10 ^ (3 * (fD n).j + 1) - 1) s (fD n).m hv (by omega))
      have hN0 : (((bl N : Nat) : Int) == 0) = false := by rw [bl_nought]; exact decide_eq_false hN
      have hfl : ∀ ex : Bool, ∀ W, Calls Tryz.prog 126 #[.bool ex, .bool (decide (L + X < 3 * ((fD n).j : Int) + 1 - 1 + (fD n).l))] W fun r w' => r = .returned (.int .i64 (if ex then 0 else if L + X < (fD n).l + 3 * (fD n).j then 12 else 8)) ∧ W = w' := fun ex W => by
        have := raised_any ex (decide (L + X < 3 * ((fD n).j : Int) + 1 - 1 + (fD n).l)) W
        have e : (L + X < 3 * ((fD n).j : Int) + 1 - 1 + (fD n).l) ↔ (L + X < (fD n).l + 3 * (fD n).j) := by omega
        simp only [decide_eq_true_eq, e] at this
        simpa only [e] using this
      generalize hxa : decide (N * 10 ^ (X - q0).toNat % (D * 10 ^ (-(X - q0)).toNat) = 0) = exa at *
      have hfx := hfl exa
      clear hfl hxa hC0
      by_cases hu : 10 ^ (3 * (fD n).j + 1) ≤ C
      · rw [if_pos hu] at hEq hCq
        subst hEq hCq
        rw [decide_eq_true hu] at hcm
        by_cases ho : (fD n).m < q0 + 1
        · rw [if_pos ho, if_pos ho]
          exact ddec_uo n d x y s vn vd w _ _ _ _ _ _ _ _ N _ _ _ _ _ _ _ _ c17 c18 (by omega) (by omega) (by omega) hN0 L X q0 (by omega) (by omega) hqq (by omega) C _ _ _ c20 c21 c22 c25 c24 hcm _ c25b ho c26
        · rw [if_neg ho, if_neg ho]
          cases exa
          · exact ddec_ui n d x y s vn vd w _ _ _ _ _ _ _ _ N _ _ _ _ _ _ _ _ c17 c18 (by omega) (by omega) (by omega) hN0 L X q0 (by omega) (by omega) hqq (by omega) C _ _ _ c20 c21 c22 c25 c24 hcm _ c25b ho rfl _ (fun W v hv => dfin_v (C := 10 ^ (3 * (fD n).j)) s (q0 + 1) hv (by omega)) hfx
          · obtain ⟨k1, k2, k3, k4⟩ := mbr_all (want := y) ((fD n).m - (q0 + 1)).toNat (10 ^ (3 * (fD n).j)) (q0 + 1) (show q0 + 1 ≤ (fD n).m by omega)
            exact ddec_ux n d x y s vn vd w _ _ _ _ _ _ _ _ N _ _ _ _ _ _ _ _ c17 c18 (by omega) (by omega) (by omega) hN0 L X q0 (by omega) (by omega) hqq (by omega) C _ _ _ c20 c21 c22 c25 c24 hcm _ c25b ho rfl _ _ _ rfl (fun W v hv => dmember_v (fD n).m y (by omega) (by omega) hv (by omega)) (fun W v hv => dfin_v (C := (mbr (fD n).m y ((fD n).m - (q0 + 1)).toNat (10 ^ (3 * (fD n).j)) (q0 + 1)).1) s _ hv (by omega)) hfx
      · rw [if_neg hu] at hEq hCq
        subst hEq hCq
        rw [decide_eq_false hu] at hcm
        by_cases ho : (fD n).m < q0
        · rw [if_pos ho, if_pos ho]
          exact ddec_no n d x y s vn vd w _ _ _ _ _ _ _ _ N _ _ _ _ _ _ _ _ c17 c18 (by omega) (by omega) (by omega) hN0 L X q0 (by omega) (by omega) hqq (by omega) C _ _ _ c20 c21 c22 c25 c24 hcm ho c26
        · rw [if_neg ho, if_neg ho]
          cases exa
          · exact ddec_ni n d x y s vn vd w _ _ _ _ _ _ _ _ N _ _ _ _ _ _ _ _ c17 c18 (by omega) (by omega) (by omega) hN0 L X q0 (by omega) (by omega) hqq (by omega) C _ _ _ c20 c21 c22 c25 c24 hcm ho rfl _ (fun W v hv => dfin_v (C := C) s q0 hv (by omega)) hfx
          · obtain ⟨k1, k2, k3, k4⟩ := mbr_all (want := y) ((fD n).m - q0).toNat C q0 (show q0 ≤ (fD n).m by omega)
            exact ddec_nx n d x y s vn vd w _ _ _ _ _ _ _ _ N _ _ _ _ _ _ _ _ c17 c18 (by omega) (by omega) (by omega) hN0 L X q0 (by omega) (by omega) hqq (by omega) C _ _ _ c20 c21 c22 c25 c24 hcm ho rfl _ _ _ rfl (fun W v hv => dmember_v (fD n).m y (by omega) (by omega) hv (by omega)) (fun W v hv => dfin_v (C := (mbr (fD n).m y ((fD n).m - q0).toNat C q0).1) s _ hv (by omega)) hfx
  · obtain ⟨q1, q2⟩ := rq_not (s := s) (x := x) (y := y) hE
    rw [q1, q2]
    exact ddec_e n d x y s vn vd w _ (by simpa using hE) (fun W hb => dchk_bad (hT.go hb) (hn.next hb) (hd.next hb) hE)
theorem drk_v {n d x : Int} {s : Bool} {N : Nat} {vn : Value} {w : World} (hT : Tab w) (hn : Nt 2001 N vn w) :
    Calls Tryz.prog 70 #[.int .i64 n, .int .i64 d, .bool s, vn, .int .i64 x] w fun r w' => r = .returned (.tuple #[(rqD n d s N 1 x x).v, .int .i64 (rqF n d s N 1 x), .int .i64 (rqE n d N 1)]) ∧ Below w.heap.size w w' :=
  dkeep_w n d x s vn w _ _ _ _ _ _ _ _ _ _ fun W v hb hv => drd_v (hT.go hb) (hn.next hb) (hv.more (by decide))
end
end Go.Proofs.YtehgnckgmdkfmaaGreatDoor
