/-
  Texts that the proof leans on.
-/
import Derived.Test.YtpemdcnneabbfaaDoorJ15
set_option linter.unusedVariables false
set_option linter.unusedSimpArgs false
set_option linter.unusedSectionVars false
set_option maxRecDepth 20000
namespace Go.Proofs.YtpemdcnneabbfaaDoor
open Go.RowKit
section
/-- what is left, and the divisor, by their two highest words and what is below -/
structure Gs (R D u1 u0 v1 v0 P a b : Int) : Prop where
  hR : R = a + (u1 * 18446744073709551616 + u0) * (P * 18446744073709551616)
  hD : D = b + (v1 * 18446744073709551616 + v0) * P
  p : 0 < P
  a0 : 0 ≤ a
  a1 : a < P * 18446744073709551616
  b0 : 0 ≤ b
  b1 : b < P
  u1w : 0 ≤ u1 ∧ u1 ≤ 18446744073709551615
  u0w : 0 ≤ u0 ∧ u0 ≤ 18446744073709551615
  v1w : 9223372036854775808 ≤ v1 ∧ v1 ≤ 18446744073709551615
  v0w : 0 ≤ v0 ∧ v0 ≤ 18446744073709551615
  lt : R < D * 18446744073709551616

section
variable {R D u1 u0 v1 v0 P a b : Int}
theorem Gs.lowR (h : Gs R D u1 u0 v1 v0 P a b) : (u1 * 18446744073709551616 + u0) * 18446744073709551616 * P ≤ R := by
  have := h.hR; have := h.a0
  have e : (u1 * 18446744073709551616 + u0) * 18446744073709551616 * P = (u1 * 18446744073709551616 + u0) * (P * 18446744073709551616) := by grind
  omega
theorem Gs.highR (h : Gs R D u1 u0 v1 v0 P a b) : R < ((u1 * 18446744073709551616 + u0) + 1) * 18446744073709551616 * P := by
  have := h.hR; have := h.a1
  have e : ((u1 * 18446744073709551616 + u0) + 1) * 18446744073709551616 * P = (u1 * 18446744073709551616 + u0) * (P * 18446744073709551616) + P * 18446744073709551616 := by grind
  omega
theorem Gs.lowD (h : Gs R D u1 u0 v1 v0 P a b) : (v1 * 18446744073709551616 + v0) * P ≤ D := by have := h.hD; have := h.b0; omega
theorem Gs.highD (h : Gs R D u1 u0 v1 v0 P a b) : D ≤ (v1 * 18446744073709551616 + v0 + 1) * P := by
  have := h.hD; have := h.b1
  have e : (v1 * 18446744073709551616 + v0 + 1) * P = (v1 * 18446744073709551616 + v0) * P + P := by grind
  omega
theorem Gs.posD (h : Gs R D u1 u0 v1 v0 P a b) : 0 < D := by
  have h1 := h.lowD
  have : 0 < (v1 * 18446744073709551616 + v0) * P := Int.mul_pos (by have := h.v1w; have := h.v0w; omega) h.p
  omega
/-- products of a digit with the divisor, from both sides -/
theorem Gs.times_ge (h : Gs R D u1 u0 v1 v0 P a b) {k N : Int} (hk : 0 ≤ k) (hN : N ≤ k * (v1 * 18446744073709551616 + v0)) : N * P ≤ k * D := by
  have h1 : k * ((v1 * 18446744073709551616 + v0) * P) ≤ k * D := Int.mul_le_mul_of_nonneg_left h.lowD hk
  have h2 : N * P ≤ k * (v1 * 18446744073709551616 + v0) * P := Int.mul_le_mul_of_nonneg_right hN (Int.le_of_lt h.p)
  rw [Int.mul_assoc] at h2
  omega
theorem Gs.times_le (h : Gs R D u1 u0 v1 v0 P a b) {k N : Int} (hk : 0 ≤ k) (hN : k * (v1 * 18446744073709551616 + v0 + 1) ≤ N) : k * D ≤ N * P := by
  have h1 : k * D ≤ k * ((v1 * 18446744073709551616 + v0 + 1) * P) := Int.mul_le_mul_of_nonneg_left h.highD hk
  have h2 : k * (v1 * 18446744073709551616 + v0 + 1) * P ≤ N * P := Int.mul_le_mul_of_nonneg_right hN (Int.le_of_lt h.p)
  rw [Int.mul_assoc] at h2
  omega
/-- the first guess is not too small -/
theorem Gs.first (h : Gs R D u1 u0 v1 v0 P a b) : R < ((u1 * 18446744073709551616 + u0) / v1 + 1) * D := by
  have hv : 0 < v1 := by have := h.v1w; omega
  have h1 := h.highR
  have hq := Int.lt_mul_ediv_self_add (x := u1 * 18446744073709551616 + u0) hv
  have hq0 : 0 ≤ (u1 * 18446744073709551616 + u0) / v1 := Int.ediv_nonneg (by have := h.u1w; have := h.u0w; omega) (Int.le_of_lt hv)
  have := h.v0w
  generalize (u1 * 18446744073709551616 + u0) / v1 = k at *
  have h2 : (u1 * 18446744073709551616 + u0 + 1) * 18446744073709551616 ≤ (k + 1) * (v1 * 18446744073709551616 + v0) := by
    have e : (k + 1) * (v1 * 18446744073709551616 + v0) = (v1 * k + v1) * 18446744073709551616 + (k + 1) * v0 := by grind
    have : 0 ≤ (k + 1) * v0 := Int.mul_nonneg (by omega) (by omega)
    omega
  have h3 := h.times_ge (by omega) h2
  omega
/-- a guess whose product with the second word is too great is too great itself -/
theorem Gs.great (h : Gs R D u1 u0 v1 v0 P a b) {k r : Int} (hk : 0 ≤ k) (he : k * v1 + r = u1 * 18446744073709551616 + u0) (ht : (r + 1) * 18446744073709551616 ≤ k * v0) : R < k * D := by
  have h1 := h.highR
  have h2 : (u1 * 18446744073709551616 + u0 + 1) * 18446744073709551616 ≤ k * (v1 * 18446744073709551616 + v0) := by
    have e : k * (v1 * 18446744073709551616 + v0) = (k * v1) * 18446744073709551616 + k * v0 := by grind
    omega
  have h3 := h.times_ge hk h2
  omega
/-- a guess that stands is at most one too great -/
theorem Gs.stands (h : Gs R D u1 u0 v1 v0 P a b) {k r : Int} (hk : 0 ≤ k) (hk2 : k ≤ 18446744073709551615) (he : k * v1 + r = u1 * 18446744073709551616 + u0) (ht : k * v0 < (r + 1) * 18446744073709551616) : (k - 1) * D ≤ R := by
  have h1 := h.lowR
  by_cases h0 : k = 0
  · subst h0
    have := h.posD
    have : 0 ≤ (u1 * 18446744073709551616 + u0) * 18446744073709551616 * P := Int.mul_nonneg (Int.mul_nonneg (by have := h.u1w; have := h.u0w; omega) (by decide)) (Int.le_of_lt h.p)
    omega
  · have hv := h.v1w
    have hv0 := h.v0w
    have h2 : (k - 1) * (v1 * 18446744073709551616 + v0 + 1) ≤ (u1 * 18446744073709551616 + u0) * 18446744073709551616 := by
      have e : (k - 1) * (v1 * 18446744073709551616 + v0 + 1) = (k * v1) * 18446744073709551616 + k * v0 + k - v1 * 18446744073709551616 - v0 - 1 := by grind
      omega
    have h3 := h.times_le (by omega) h2
    omega
/-- where the highest words are the same the greatest word is at most one too great -/
theorem Gs.full (h : Gs R D u1 u0 v1 v0 P a b) (he : v1 ≤ u1) : (18446744073709551615 - 1) * D ≤ R := by
  have h1 := h.lowR
  have hv := h.v1w
  have hv0 := h.v0w
  have hu0 := h.u0w
  have h2 : (18446744073709551615 - 1) * (v1 * 18446744073709551616 + v0 + 1) ≤ (u1 * 18446744073709551616 + u0) * 18446744073709551616 := by omega
  have h3 := h.times_le (by decide) h2
  omega
end

/-- words shifted down: their value -/
theorem dn_val {y : Nat → Int} (hy : Words y) {r : Nat} (hr : r < 64) : ∀ m, val (shrW y 0 r) m * 2 ^ r + y 0 % 2 ^ r = val y m + y m % 2 ^ r * 18446744073709551616 ^ m
  | 0 => by simp [val]
  | m + 1 => by
    have ih := dn_val hy hr m
    have hp := p2_pos r
    have e1 : shrW y 0 r m = y m / 2 ^ r + y (m + 1) % 2 ^ r * 2 ^ (64 - r) := by
      have h1 := shr_or hy hr 0 m
      rw [Nat.zero_add] at h1
      rw [← h1]
      unfold dnW
      have hme : y (m + 1) * 2 ^ (64 - r) % 18446744073709551616 = y (m + 1) % 2 ^ r * 2 ^ (64 - r) := by
        have h3 := Int.mul_emod_mul_of_pos (y (m + 1)) (2 ^ r) (p2_pos (64 - r))
        rw [← p2_split (show r ≤ 64 by omega), Int.mul_comm (y (m + 1)), h3, Int.mul_comm]
      have hlt : y m / 2 ^ r < 2 ^ (64 - r) := by
        refine Int.ediv_lt_of_lt_mul hp ?_
        rw [p2_split (show r ≤ 64 by omega)]
        have := hy m; omega
      by_cases h0 : r = 0
      · subst h0
        have : y (m + 1) * 2 ^ (64 - 0) % 18446744073709551616 = 0 := Int.mul_emod_left _ _
        rw [wrap_mod, this, orW_zero _ (div_word _ _ (hy m))]
        simp [Int.emod_one]
      · have h64 : 64 - (64 - r) = r := by omega
        have ho := or_shl (y := y (m + 1)) (b := y m / 2 ^ r) (r := 64 - r) (by omega) (hy (m + 1)).1 ⟨(div_word _ _ (hy m)).1, hlt⟩
        rw [ho, hme]; omega
    show (val (shrW y 0 r) m + shrW y 0 r m * 18446744073709551616 ^ m) * 2 ^ r + y 0 % 2 ^ r = val y m + y m * 18446744073709551616 ^ m + y (m + 1) % 2 ^ r * 18446744073709551616 ^ (m + 1)
    have e2 := Int.emod_add_mul_ediv (y m) (2 ^ r)
    have e3 := p2_split (show r ≤ 64 by omega)
    rw [e1, Int.pow_succ]
    generalize (18446744073709551616 : Int) ^ m = Q at *
    generalize y m / 2 ^ r = A at *
    generalize y m % 2 ^ r = A' at *
    generalize y (m + 1) % 2 ^ r = C at *
    generalize y 0 % 2 ^ r = Z at *
    generalize (2 : Int) ^ (64 - r) = T at *
    generalize (2 : Int) ^ r = S at *
    grind
end
section
/-- the guess, put right by the second word -/
def gsL (v1 v0 : Int) : Nat → Int → Int → Int
  | 0, d, r => d
  | f + 1, d, r => if d * v0 / 18446744073709551616 ≤ r then d else if 18446744073709551616 ≤ r + v1 then d - 1 else gsL v1 v0 f (d - 1) (r + v1)
def gsF (u1 u0 v1 v0 : Int) : Int := if v1 ≤ u1 then 18446744073709551615 else gsL v1 v0 2 ((u1 * 18446744073709551616 + u0) / v1) ((u1 * 18446744073709551616 + u0) % v1)

theorem gs_one {d v0 r : Int} (hd : 0 ≤ d) (hr : 0 ≤ r) (h : ¬ d * v0 / 18446744073709551616 ≤ r) : 1 ≤ d := by
  by_cases e : d = 0
  · subst e; rw [Int.zero_mul] at h; omega
  · omega
theorem gsL_spec {R D u1 u0 v1 v0 P a b : Int} (G : Gs R D u1 u0 v1 v0 P a b) : ∀ (f : Nat) (d r : Int), 0 ≤ d → d ≤ 18446744073709551615 → 0 ≤ r → r ≤ 18446744073709551615 → d * v1 + r = u1 * 18446744073709551616 + u0 → R < (d + 1) * D → 18446744073709551616 ≤ r + f * v1 →
    0 ≤ gsL v1 v0 f d r ∧ gsL v1 v0 f d r ≤ 18446744073709551615 ∧ R < (gsL v1 v0 f d r + 1) * D ∧ (gsL v1 v0 f d r - 1) * D ≤ R
  | 0, d, r, h1, h2, h3, h4, he, hR, hf => by simp at hf; omega
  | f + 1, d, r, h1, h2, h3, h4, he, hR, hf => by
    unfold gsL
    by_cases hh : d * v0 / 18446744073709551616 ≤ r
    · rw [if_pos hh]
      exact ⟨h1, h2, hR, G.stands h1 h2 he (by omega)⟩
    · rw [if_neg hh]
      have h11 := gs_one h1 h3 hh
      have hR2 : R < (d - 1 + 1) * D := by
        have := G.great h1 he (by omega)
        rw [show d - 1 + 1 = d by omega]; exact this
      have he2 : (d - 1) * v1 + (r + v1) = u1 * 18446744073709551616 + u0 := by rw [Int.sub_mul]; omega
      have hv := G.v1w
      have hv0 := G.v0w
      by_cases ho : 18446744073709551616 ≤ r + v1
      · rw [if_pos ho]
        refine ⟨by omega, by omega, hR2, G.stands (by omega) (by omega) he2 ?_⟩
        have : (d - 1) * v0 ≤ 18446744073709551615 * 18446744073709551615 := Int.mul_le_mul (by omega) hv0.2 hv0.1 (by decide)
        omega
      · rw [if_neg ho]
        refine gsL_spec G f (d - 1) (r + v1) (by omega) (by omega) (by omega) (by omega) he2 hR2 ?_
        have e : ((f + 1 : Nat) : Int) * v1 = f * v1 + v1 := by rw [Int.natCast_add, Int.add_mul]; simp
        rw [e] at hf
        omega
theorem gsF_spec {R D u1 u0 v1 v0 P a b : Int} (G : Gs R D u1 u0 v1 v0 P a b) : 0 ≤ gsF u1 u0 v1 v0 ∧ gsF u1 u0 v1 v0 ≤ 18446744073709551615 ∧ R < (gsF u1 u0 v1 v0 + 1) * D ∧ (gsF u1 u0 v1 v0 - 1) * D ≤ R := by
  have hv := G.v1w
  have hu := G.u1w
  have hu0 := G.u0w
  unfold gsF
  by_cases h : v1 ≤ u1
  · rw [if_pos h]
    refine ⟨by decide, by decide, ?_, G.full h⟩
    have := G.lt
    rw [Int.mul_comm]; exact this
  · rw [if_neg h]
    have h1 : 0 ≤ (u1 * 18446744073709551616 + u0) / v1 := Int.ediv_nonneg (by omega) (by omega)
    have h2 : (u1 * 18446744073709551616 + u0) / v1 < 18446744073709551616 := Int.ediv_lt_of_lt_mul (by omega) (by omega)
    have h3 := Int.emod_nonneg (u1 * 18446744073709551616 + u0) (show v1 ≠ 0 by omega)
    have h4 := Int.emod_lt_of_pos (u1 * 18446744073709551616 + u0) (show 0 < v1 by omega)
    have h5 := Int.emod_add_mul_ediv (u1 * 18446744073709551616 + u0) v1
    refine gsL_spec G 2 _ _ h1 (by omega) h3 (by omega) ?_ G.first (by omega)
    rw [Int.mul_comm]; omega
theorem drw_add (w : World) (a b : Nat) : (w.drewN a).drewN b = w.drewN (a + b) := by simp [World.drewN, Nat.add_assoc]

set_option maxHeartbeats 1000000 in
theorem guess_any (u1 u0 v1 v0 : Int) (w : World) (hu1 : 0 ≤ u1 ∧ u1 ≤ 18446744073709551615) (hu0 : 0 ≤ u0 ∧ u0 ≤ 18446744073709551615) (hv1 : 9223372036854775808 ≤ v1 ∧ v1 ≤ 18446744073709551615) (hv0 : 0 ≤ v0 ∧ v0 ≤ 18446744073709551615) :
    Calls Tryd.prog 89 #[.int .u64 u1, .int .u64 u0, .int .u64 v1, .int .u64 v0] w fun e w' => e = .returned (.int .u64 (gsF u1 u0 v1 v0)) ∧ ∃ m, w' = w.drewN m := by
  by_cases h : v1 ≤ u1
  · have HG : Hid (gsF u1 u0 v1 v0 = 18446744073709551615) := by show _ = _; unfold gsF; rw [if_pos h]
    go_enter Tryd.func89, Tryd.ntmps89
    go_wp2
    go_ret
    exact ⟨ret_int HG.out.symm, 0, rfl⟩
  · have HG : Hid (gsF u1 u0 v1 v0 = gsL v1 v0 2 ((u1 * 18446744073709551616 + u0) / v1) ((u1 * 18446744073709551616 + u0) % v1)) := by show _ = _; unfold gsF; rw [if_neg h]
    have hd := div64_all u1 u0 v1 w hu1.1 (by omega) hv1.2 hu0
    have h1 : 0 ≤ (u1 * 18446744073709551616 + u0) / v1 := Int.ediv_nonneg (by omega) (by omega)
    have h2 : (u1 * 18446744073709551616 + u0) / v1 < 18446744073709551616 := Int.ediv_lt_of_lt_mul (by omega) (by omega)
    have h3 := Int.emod_nonneg (u1 * 18446744073709551616 + u0) (show v1 ≠ 0 by omega)
    have h4 := Int.emod_lt_of_pos (u1 * 18446744073709551616 + u0) (show 0 < v1 by omega)
    generalize gsF u1 u0 v1 v0 = T at *
    generalize (u1 * 18446744073709551616 + u0) / v1 = d0 at *
    generalize (u1 * 18446744073709551616 + u0) % v1 = r0 at *
    go_enter Tryd.func89, Tryd.ntmps89
    go_wp2_with (go_at_call 85; refine hd.mono ?_; rintro e w' ⟨rfl, m, rfl⟩)
    go_loopw [9, 10, 11, 12, 23] (fun dv rv u11 u12 u23 wr => ∃ (f : Nat) (d r : Int), dv = .int .u64 d ∧ rv = .int .u64 r ∧ 0 ≤ d ∧ d ≤ 18446744073709551615 ∧ 0 ≤ r ∧ r ≤ 18446744073709551615 ∧ 18446744073709551616 ≤ r + f * v1 ∧ Hid (T = gsL v1 v0 f d r) ∧ wr = w.drewN m) (fun dv _ _ _ _ _ => (intOf dv).toNat)
    case atStart => exact ⟨2, d0, r0, rfl, rfl, h1, by omega, h3, by omega, by omega, HG.out, rfl⟩
    case round =>
      clear hd h1 h2 h3 h4 HG
      obtain ⟨f, d, r, rfl, rfl, a1, a2, a3, a4, hf, hT, rfl⟩ := hrel
      obtain ⟨f', rfl⟩ : ∃ f', f = f' + 1 := by
        cases f with
        | zero => simp at hf; omega
        | succ f' => exact ⟨f', rfl⟩
      have hmul := mul64 d v0 ⟨a1, a2⟩ hv0 (w.drewN m)
      have hfe : ((f' + 1 : Nat) : Int) * v1 = f' * v1 + v1 := by rw [Int.natCast_add, Int.add_mul]; simp
      rw [hfe] at hf
      have HF : Hid (18446744073709551616 ≤ r + (f' * v1 + v1)) := hf
      have hh0 : 0 ≤ d * v0 / 18446744073709551616 := Int.ediv_nonneg (Int.mul_nonneg a1 hv0.1) (by decide)
      by_cases hh : d * v0 / 18446744073709551616 ≤ r
      · have HT : Hid (T = d) := by show _ = _; rw [hT.out]; unfold gsL; rw [if_pos hh]
        clear hT hf hfe HF
        generalize d * v0 / 18446744073709551616 = hi at *
        generalize d * v0 % 18446744073709551616 = lo at *
        go_wp2_with (go_at_call 88; refine hmul.mono ?_; rintro e w' ⟨rfl, rfl⟩)
        go_ret
        exact ⟨ret_int HT.out.symm, m, rfl⟩
      · have h11 := gs_one a1 a3 hh
        by_cases ho : 18446744073709551616 ≤ r + v1
        · have HT : Hid (T = d - 1) := by show _ = _; rw [hT.out]; unfold gsL; rw [if_neg hh, if_pos ho]
          have hw : IntKind.u64.wrap (r + v1) = r + v1 - 18446744073709551616 := by rw [wrap_mod]; omega
          have hlt : r + v1 - 18446744073709551616 < v1 := by omega
          clear hT hf hfe HF
          generalize d * v0 / 18446744073709551616 = hi at *
          generalize d * v0 % 18446744073709551616 = lo at *
          go_wp2_with (go_at_call 88; refine hmul.mono ?_; rintro e w' ⟨rfl, rfl⟩)
          go_ret
          exact ⟨ret_int HT.out.symm, m, rfl⟩
        · have HT : Hid (T = gsL v1 v0 f' (d - 1) (r + v1)) := by show _ = _; rw [hT.out]; conv => lhs; unfold gsL
                                                                  rw [if_neg hh, if_neg ho]
          have hlt : ¬ r + v1 < v1 := by omega
          have hle : r + v1 ≤ 18446744073709551615 := by omega
          clear hT hf hfe
          generalize d * v0 / 18446744073709551616 = hi at *
          generalize d * v0 % 18446744073709551616 = lo at *
          go_wp2_with (go_at_call 88; refine hmul.mono ?_; rintro e w' ⟨rfl, rfl⟩)
          go_roundw
          case rel => exact ⟨f', d - 1, r + v1, rfl, rfl, by omega, by omega, by omega, by omega, by have := HF.out; omega, HT, trivial⟩
          case measure => simp [intOf]; omega
end
section
theorem seg_next (z : Nat → Int) (off j : Nat) : val (segW z off (j + 1)) (j + 1) = val (segW z off j) j + z (off + j) * 18446744073709551616 ^ j := by
  show val (segW z off (j + 1)) j + segW z off (j + 1) j * 18446744073709551616 ^ j = _
  rw [segW_lt z off (j + 1) j (by omega), val_congr (x := segW z off (j + 1)) (y := segW z off j) j fun i hi => by rw [segW_lt _ _ _ i (by omega), segW_lt _ _ _ i hi]]
theorem seg_congr {z z' : Nat → Int} (off j : Nat) (h : ∀ i, off ≤ i → i < off + j → z i = z' i) : val (segW z off j) j = val (segW z' off j) j :=
  val_congr j fun i hi => by rw [segW_lt _ _ _ i hi, segW_lt _ _ _ i hi, h (off + i) (by omega) (by omega)]
theorem sub_round {V V0 C n vy yj zj l hi l' bo : Int} {Q : Int} (h : V - C * Q = V0 - n * vy) (hl : l + hi * 18446744073709551616 = yj * n + 0 + C) (hb : l' - bo * 18446744073709551616 = zj - l) :
    V + l' * Q - (hi + bo) * (Q * 18446744073709551616) = V0 + zj * Q - n * (vy + yj * Q) := by grind

theorem sub_nowrap {yj n C l hi zj : Int} (hy : 0 ≤ yj ∧ yj ≤ 18446744073709551615) (hn : 0 ≤ n ∧ n ≤ 18446744073709551615) (hC : 0 ≤ C ∧ C ≤ 18446744073709551615) (hl : l + hi * 18446744073709551616 = yj * n + 0 + C) (hlb : 0 ≤ l ∧ l ≤ 18446744073709551615) (hz : 0 ≤ zj ∧ zj ≤ 18446744073709551615) : hi + bor zj l 0 ≤ 18446744073709551615 := by
  have hp : yj * n ≤ 18446744073709551615 * 18446744073709551615 := Int.mul_le_mul hy.2 hn.2 hn.1 (by decide)
  have hb := bor_01 zj l 0
  by_cases e : hi = 18446744073709551615
  · have e2 : l = 0 := by omega
    have : bor zj l 0 = 0 := by unfold bor; rw [if_neg (by omega)]
    omega
  · omega

set_option maxHeartbeats 1000000 in
theorem subProduct_any (g N off m c k c' : Nat) (a' : Option Addr) (x y : Nat → Int) (n : Int) (w : World) (hm : off + m ≤ N) (hN : N < 4294967296) (hk : k ≤ m) (hx : Words x) (hn : 0 ≤ n ∧ n ≤ 18446744073709551615) (h : Own g N x w) (h' : Num w a' k c' y) (hA : Apart a' g) :
    Calls Tryd.prog 90 #[.slice (some ⟨g, off, none⟩) m c, .slice a' k c', .int .u64 n] w fun e w' => ∃ C z, e = .returned (.int .u64 C) ∧ (0 ≤ C ∧ C ≤ 18446744073709551615) ∧ Own g N z w' ∧ Words z ∧ val (segW z off k) k - C * 18446744073709551616 ^ k = val (segW x off k) k - n * val y k ∧ (∀ i, i < off ∨ off + k ≤ i → z i = x i) ∧ Upd g w w' := by
  have hy := h'.2.2.1
  go_enter Tryd.func90, Tryd.ntmps90
  go_wp2
  go_loopw [7, 8, 9, 10, 11, 12, 15, 20, 27] (fun cv u8 u9 u10 u11 u12 i u20 u27 wr => ∃ (j : Nat) (C : Int) (z : Nat → Int), j ≤ k ∧ i = .int .i64 j ∧ cv = .int .u64 C ∧ (0 ≤ C ∧ C ≤ 18446744073709551615) ∧ Own g N z wr ∧ Words z ∧ Hid (val (segW z off j) j - C * 18446744073709551616 ^ j = val (segW x off j) j - n * val y j) ∧ (∀ i, i < off ∨ off + j ≤ i → z i = x i) ∧ Upd g w wr) (fun _ _ _ _ _ _ i _ _ _ => k - (intOf i).toNat)
  case atStart => exact ⟨0, 0, x, Nat.zero_le _, rfl, rfl, by decide, h, hx, by show _ = _; simp [val], fun _ _ => rfl, Upd.refl _ _⟩
  case round =>
    obtain ⟨j, C, z, hj, rfl, rfl, hCb, hO, hzw, hv, hzx, hU⟩ := hrel
    by_cases hlt : j < k
    · have hji : (j : Int) < k := by omega
      have hjm : (j : Int) < m := by omega
      obtain ⟨b, off', rfl, hb, hc⟩ := (hU.num' hA h').cells (by omega)
      have hcj := hc j hlt
      have hco := hO.cell (off + j) (by omega)
      have hzj : z (off + j) = x (off + j) := hzx _ (by omega)
      rw [hzj] at hco
      have hfo := hO.frozen (off + j)
      have hma := fun w => mulAdd_any (y j) n 0 C w (hy j) hn (by decide) hCb
      have bx := hx (off + j)
      have b_y := hy j
      have HO : Hid (Own g N z wr) := hO
      have HU : Hid (Upd g w wr) := hU
      have HZW : Hid (Words z) := hzw
      have HZX : Hid (∀ i, i < off ∨ off + j ≤ i → z i = x i) := hzx
      clear hO hU hc h h' hA hx hy hzw hzx
      go_wp2_with (go_at_call 84; refine (hma _).mono ?_; rintro e w1 ⟨l, hi, rfl, hlh, hlb, hhb, rfl⟩; have hsb := fun w => sub64 (x (off + j)) l 0 bx.1 hlb.1 (by omega) (by decide) (by decide) w; have hbo := bor_01 (x (off + j)) l 0; have hbv := bor_val bx hlb (b := 0) (by decide); have hw := sub_nowrap b_y hn hCb hlh hlb bx; rw [Int.sub_zero] at hsb hbv; generalize bor (x (off + j)) l 0 = bo at *)
      go_roundw
      case rel =>
        refine ⟨j + 1, hi + bo, fun i => if i = off + j then (x (off + j) - l) % 18446744073709551616 else z i, by omega, by go_num, rfl, by omega, HO.out.set (off + j) _, upd_words HZW.out (by omega), ?_, ?_, HU.out.set (off + j) _⟩
        · show _ = _
          rw [seg_next, seg_next, if_pos rfl, seg_congr (z := fun i => if i = off + j then (x (off + j) - l) % 18446744073709551616 else z i) (z' := z) off j fun i h1 h2 => if_neg (by omega), Int.pow_succ]
          exact sub_round hv.out hlh (by omega)
        · intro i hi2
          exact (if_neg (show ¬ i = off + j by omega)).trans (HZX.out i (by omega))
      case measure => simp [intOf]; omega
    · obtain rfl : j = k := by omega
      have HO : Hid (Own g N z wr) := hO
      have HU : Hid (Upd g w wr) := hU
      have HZW : Hid (Words z) := hzw
      have HZX : Hid (∀ i, i < off ∨ off + j ≤ i → z i = x i) := hzx
      clear hO hU h h' hA hx hy hzw hzx
      go_wp2
      go_ret
      exact ⟨C, z, rfl, hCb, HO.out, HZW.out, hv.out, HZX.out, HU.out⟩
end
section
theorem stp_on {R D dg V0 V1 u1 C Q : Int} (h : V1 - C * Q = V0 - dg * D) (hR : R = V0 + u1 * Q) (h0 : 0 ≤ V1) (hV : V1 < Q) (hD : 0 < D) (hDQ : D < Q) (h1 : R < (dg + 1) * D) (hc : C ≤ u1) : R / D = dg ∧ R % D = V1 := by
  have e : R - dg * D = V1 + (u1 - C) * Q := by rw [Int.sub_mul]; omega
  have e1 : (dg + 1) * D = dg * D + D := by rw [Int.add_mul, Int.one_mul]
  have hk : u1 = C := by
    rcases Int.lt_or_le C u1 with hlt | hge
    · have : 1 * Q ≤ (u1 - C) * Q := Int.mul_le_mul_of_nonneg_right (by omega) (by omega)
      omega
    · omega
  rw [hk, Int.sub_self, Int.zero_mul] at e
  have := (Int.ediv_emod_unique hD (a := R) (r := V1) (q := dg)).2 ⟨by rw [Int.mul_comm]; omega, h0, by omega⟩
  exact this
theorem stp_back {R D dg V0 V1 u1 C Q N1 c : Int} (h : V1 - C * Q = V0 - dg * D) (hR : R = V0 + u1 * Q) (h0 : 0 ≤ V1) (hV : V1 < Q) (hD : 0 < D) (hDQ : D < Q) (h2 : (dg - 1) * D ≤ R) (hc : u1 < C) (hn : N1 + c * Q = V1 + D) (n0 : 0 ≤ N1) (n1 : N1 < Q) : R / D = dg - 1 ∧ R % D = N1 := by
  have e : R - dg * D = V1 + (u1 - C) * Q := by rw [Int.sub_mul]; omega
  have e1 : (dg - 1) * D = dg * D - D := by rw [Int.sub_mul, Int.one_mul]
  have hneg : (C - u1) * Q ≥ 1 * Q := Int.mul_le_mul_of_nonneg_right (by omega) (by omega)
  have e2 : (u1 - C) * Q = - ((C - u1) * Q) := by rw [← Int.neg_mul]; congr 1; omega
  have e3 : N1 - (R - (dg - 1) * D) = (C - u1 - c) * Q := by rw [Int.sub_mul (C - u1) c Q]; omega
  have hk : C - u1 - c = 0 := by
    rcases Int.lt_trichotomy (C - u1 - c) 0 with hl | he | hg
    · have : (C - u1 - c) * Q ≤ (-1) * Q := Int.mul_le_mul_of_nonneg_right (by omega) (by omega)
      omega
    · exact he
    · have : 1 * Q ≤ (C - u1 - c) * Q := Int.mul_le_mul_of_nonneg_right (by omega) (by omega)
      omega
  rw [hk, Int.zero_mul] at e3
  exact (Int.ediv_emod_unique hD (a := R) (r := N1) (q := dg - 1)).2 ⟨by rw [Int.mul_comm]; omega, n0, by omega⟩

set_option maxHeartbeats 2000000 in
theorem divideStep_any (g N off t c c' : Nat) (a' : Option Addr) (z y : Nat → Int) (w : World) (ht : 2 ≤ t) (hm : off + t + 1 ≤ N) (hN : N < 4294967296) (hz : Words z) (h : Own g N z w) (h' : Num w a' t c' y) (hA : Apart a' g) (hy1 : 9223372036854775808 ≤ y (t - 1)) (hlt : val (segW z off (t + 1)) (t + 1) < val y t * 18446744073709551616) :
    Calls Tryd.prog 87 #[.slice (some ⟨g, off, none⟩) (t + 1) c, .slice a' t c'] w fun e w' => e = .returned (.int .u64 (val (segW z off (t + 1)) (t + 1) / val y t)) ∧ ∃ z', Own g N z' w' ∧ Words z' ∧ (∀ i, i < off → z' i = z i) ∧ val (segW z' off t) t = val (segW z off (t + 1)) (t + 1) % val y t ∧ Upd g w w' := by
  have hy := h'.2.2.1
  obtain ⟨p, rfl⟩ : ∃ p, t = p + 2 := ⟨t - 2, by omega⟩
  have hy1' : 9223372036854775808 ≤ y (p + 1) := hy1
  have G : Gs (val (segW z off (p + 2 + 1)) (p + 2 + 1)) (val y (p + 2)) (z (off + (p + 2))) (z (off + (p + 1))) (y (p + 1)) (y p) (18446744073709551616 ^ p) (val (segW z off (p + 1)) (p + 1)) (val y p) := by
    have ba := val_bd (segW_words hz off (p + 1)) (p + 1)
    have bb := val_bd hy p
    refine ⟨?_, ?_, pw_pos p, ba.1, by rw [← Int.pow_succ]; exact ba.2, bb.1, bb.2, hz _, hz _, ⟨hy1', (hy _).2⟩, hy _, hlt⟩
    · rw [seg_next, seg_next, Int.pow_succ, Int.pow_succ, Int.pow_succ]; grind
    · show val y p + y p * 18446744073709551616 ^ p + y (p + 1) * 18446744073709551616 ^ (p + 1) = _
      rw [Int.pow_succ]; grind
  have hsp := gsF_spec G
  have hg := fun w => guess_any (z (off + (p + 2))) (z (off + (p + 1))) (y (p + 1)) (y p) w (hz _) (hz _) ⟨hy1', (hy _).2⟩ (hy _)
  have hposD := G.posD
  have hRe : val (segW z off (p + 2 + 1)) (p + 2 + 1) = val (segW z off (p + 2)) (p + 2) + z (off + (p + 2)) * 18446744073709551616 ^ (p + 2) := seg_next z off (p + 2)
  have hDQ := (val_bd hy (p + 2)).2
  generalize gsF (z (off + (p + 2))) (z (off + (p + 1))) (y (p + 1)) (y p) = dg at *
  generalize hR : val (segW z off (p + 2 + 1)) (p + 2 + 1) = R at *
  obtain ⟨b, off', rfl, hb, hc⟩ := h'.cells (by omega)
  have hv1 := hc (p + 1) (by omega)
  have hv0 := hc p (by omega)
  have hu1 := h.cell (off + (p + 2)) (by omega)
  have hu0 := h.cell (off + (p + 1)) (by omega)
  have bu1 := hz (off + (p + 2))
  have hsub := fun wr hO hN' => subProduct_any g N off (p + 2 + 1) c (p + 2) c' (some ⟨b, off', none⟩) z y dg wr (by omega) hN (by omega) hz ⟨hsp.1, hsp.2.1⟩ hO hN' hA
  have hpi : (0 : Int) ≤ p := by omega
  go_enter Tryd.func87, Tryd.ntmps87
  go_wp2
  go_quiet ((go_at_call 89; exact (hg _).mono fun _ _ h => ⟨h.1, h.2.elim fun m hm => ⟨_, hm.trans (drw_add _ _ _)⟩⟩))
  go_wp2
  have HRe : Hid (R = val (segW z off (p + 2)) (p + 2) + z (off + (p + 2)) * 18446744073709551616 ^ (p + 2)) := hRe
  have HSP : Hid (R < (dg + 1) * val y (p + 2) ∧ (dg - 1) * val y (p + 2) ≤ R) := ⟨hsp.2.2.1, hsp.2.2.2⟩
  have hdg0 := hsp.1
  have hdg1 := hsp.2.1
  have HWY : Hid (Words y) := hy
  have HWZ : Hid (Words z) := hz
  clear hsp hRe G hg hlt hc hv1 hv0 hu0 hy hz hy1 hy1' hR
  go_region_with (go_at_call 90; refine (hsub (w.drewN nq).drew h h').mono ?_; rintro e w1 ⟨C, z1, rfl, hCb, hO1, hw1, hvv, hzx1, hU1⟩; have hct := hO1.cell (off + (p + 2)) (by omega); rw [hzx1 (off + (p + 2)) (by omega)] at hct)
  all_goals
    have hbd := val_bd (segW_words hw1 off (p + 2)) (p + 2)
    by_cases hcc : z (off + (p + 2)) < C
    · have hd1 : 1 ≤ dg := by
        rcases Int.lt_or_le 0 dg with h1 | h1
        · omega
        · exfalso
          have e0 : dg = 0 := by omega
          rw [e0, Int.zero_mul, Int.sub_zero] at hvv
          have h5 := (val_bd (segW_words HWZ.out off (p + 2)) (p + 2)).1
          have h6 : 1 * 18446744073709551616 ^ (p + 2) ≤ C * 18446744073709551616 ^ (p + 2) := Int.mul_le_mul_of_nonneg_right (by omega) (Int.le_of_lt (pw_pos _))
          omega
      have had := addInto_any g N off (p + 2 + 1) c (p + 2) c' (some ⟨b, off', none⟩) z1 y w1 (by omega) hN (by omega) hw1 hO1 (hU1.num' hA h') hA
      have e1 : val (segW (addZ z1 y off (p + 2)) off (p + 2)) (p + 2) = val (sumW (fun i => z1 (off + i)) y) (p + 2) := val_congr _ fun i hi => by
        rw [segW_lt _ _ _ i hi]; unfold addZ; rw [if_pos (by omega)]; congr 1; omega
      have e2 : val (fun i => z1 (off + i)) (p + 2) = val (segW z1 off (p + 2)) (p + 2) := val_congr _ fun i hi => by rw [segW_lt _ _ _ i hi]
      have e3 := sum_val (x := fun i => z1 (off + i)) (y := y) (p + 2)
      rw [e2, ← e1] at e3
      have HAW : Hid (Words (addZ z1 y off (p + 2))) := fun i => by
        unfold addZ; split
        · exact sumW_words _ _ _
        · exact hw1 i
      have hnb := val_bd (segW_words HAW.out off (p + 2)) (p + 2)
      have HQ : Hid (R / val y (p + 2) = dg - 1 ∧ R % val y (p + 2) = val (segW (addZ z1 y off (p + 2)) off (p + 2)) (p + 2)) := stp_back hvv HRe.out hbd.1 hbd.2 hposD hDQ HSP.out.2 hcc e3 hnb.1 hnb.2
      have HU : Hid (Upd g w w1) := ⟨hU1.os, hU1.tape, hU1.output, hU1.size, hU1.block⟩
      have HZX : Hid (∀ i, i < off → addZ z1 y off (p + 2) i = z i) := fun i hi => by
        unfold addZ; rw [if_neg (by omega)]; exact hzx1 i (Or.inl hi)
      clear e1 e2 e3 hnb hbd hvv hzx1 hO1 hw1 hU1 hsub h h' hposD hDQ HRe HSP
      go_wp2_with (go_at_call 83; refine had.mono ?_; rintro e w2 ⟨rfl, hO2, hU2⟩)
      go_ret
      exact ⟨ret_int HQ.out.1.symm, _, hO2, HAW.out, HZX.out, HQ.out.2.symm, HU.out.trans hU2⟩
    · have HQ : Hid (R / val y (p + 2) = dg ∧ R % val y (p + 2) = val (segW z1 off (p + 2)) (p + 2)) := stp_on hvv HRe.out hbd.1 hbd.2 hposD hDQ HSP.out.1 (by omega)
      have HU : Hid (Upd g w w1) := ⟨hU1.os, hU1.tape, hU1.output, hU1.size, hU1.block⟩
      have HO : Hid (Own g N z1 w1) := hO1
      have HW1 : Hid (Words z1) := hw1
      have HZX : Hid (∀ i, i < off → z1 i = z i) := fun i hi => hzx1 i (Or.inl hi)
      clear hbd hvv hzx1 hO1 hw1 hU1 hsub h h' hposD hDQ HRe HSP
      go_wp2
      go_ret
      exact ⟨ret_int HQ.out.1.symm, z1, HO.out, HW1.out, HZX.out, HQ.out.2.symm, HU.out⟩
end
end Go.Proofs.YtpemdcnneabbfaaDoor
