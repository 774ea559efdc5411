/-
  What nat's guess and subProduct do: contracts.
-/
import Derived.Test.YtkbplchgaploeaaDoorDlm
set_option linter.unusedVariables false
set_option linter.unusedSimpArgs false
namespace Go.Proofs.YtkbplchgaploeaaDoor
open Go.RowKit

/-- the guess, put right by the second word -/
def gsL (v1 v0 : Int) : Nat → Int → Int → Int
  | 0, d, r => d
  | f + 1, d, r => if d * v0 / 18446744073709551616 ≤ r then d else if 18446744073709551616 ≤ r + v1 then d - 1 else gsL v1 v0 f (d - 1) (r + v1)
def gsF (u1 u0 v1 v0 : Int) : Int := if v1 ≤ u1 then 18446744073709551615 else gsL v1 v0 2 ((u1 * 18446744073709551616 + u0) / v1) ((u1 * 18446744073709551616 + u0) % v1)

theorem gs_one {d v0 r : Int} (hd : 0 ≤ d) (hr : 0 ≤ r) (h : ¬ d * v0 / 18446744073709551616 ≤ r) : 1 ≤ d := by
  by_cases e : d = 0
  · subst e; rw [Int.zero_mul] at h; omega
  · omega
theorem gsL_spec {R D u1 u0 v1 v0 P a b : Int} (G : Gs R D u1 u0 v1 v0 P a b) : ∀ (f : Nat) (d r : Int), 0 ≤ d → d ≤ 18446744073709551615 → 0 ≤ r → r ≤ 18446744073709551615 → d * v1 + r = u1 * 18446744073709551616 + u0 → R < (d + 1) * D → 18446744073709551616 ≤ r + f * v1 →
    0 ≤ gsL v1 v0 f d r ∧ gsL v1 v0 f d r ≤ 18446744073709551615 ∧ R < (gsL v1 v0 f d r + 1) * D ∧ (gsL v1 v0 f d r - 1) * D ≤ R
  | 0, d, r, h1, h2, h3, h4, he, hR, hf => by simp at hf; omega
  | f + 1, d, r, h1, h2, h3, h4, he, hR, hf => by
    unfold gsL
    by_cases hh : d * v0 / 18446744073709551616 ≤ r
    · rw [if_pos hh]
      exact ⟨h1, h2, hR, G.stands h1 h2 he (by omega)⟩
    · rw [if_neg hh]
      have h11 := gs_one h1 h3 hh
      have hR2 : R < (d - 1 + 1) * D := by
        have := G.great h1 he (by omega)
        rw [show d - 1 + 1 = d by omega]; exact this
      have he2 : (d - 1) * v1 + (r + v1) = u1 * 18446744073709551616 + u0 := by rw [Int.sub_mul]; omega
      have hv := G.v1w
      have hv0 := G.v0w
      by_cases ho : 18446744073709551616 ≤ r + v1
      · rw [if_pos ho]
        refine ⟨by omega, by omega, hR2, G.stands (by omega) (by omega) he2 ?_⟩
        have : (d - 1) * v0 ≤ 18446744073709551615 * 18446744073709551615 := Int.mul_le_mul (by omega) hv0.2 hv0.1 (by decide)
        omega
      · rw [if_neg ho]
        refine gsL_spec G f (d - 1) (r + v1) (by omega) (by omega) (by omega) (by omega) he2 hR2 ?_
        have e : ((f + 1 : Nat) : Int) * v1 = f * v1 + v1 := by rw [Int.natCast_add, Int.add_mul]; simp
        rw [e] at hf
        omega
theorem gsF_spec {R D u1 u0 v1 v0 P a b : Int} (G : Gs R D u1 u0 v1 v0 P a b) : 0 ≤ gsF u1 u0 v1 v0 ∧ gsF u1 u0 v1 v0 ≤ 18446744073709551615 ∧ R < (gsF u1 u0 v1 v0 + 1) * D ∧ (gsF u1 u0 v1 v0 - 1) * D ≤ R := by
  have hv := G.v1w
  have hu := G.u1w
  have hu0 := G.u0w
  unfold gsF
  by_cases h : v1 ≤ u1
  · rw [if_pos h]
    refine ⟨by decide, by decide, ?_, G.full h⟩
    have := G.lt
    rw [Int.mul_comm]; exact this
  · rw [if_neg h]
    have h1 : 0 ≤ (u1 * 18446744073709551616 + u0) / v1 := Int.ediv_nonneg (by omega) (by omega)
    have h2 : (u1 * 18446744073709551616 + u0) / v1 < 18446744073709551616 := Int.ediv_lt_of_lt_mul (by omega) (by omega)
    have h3 := Int.emod_nonneg (u1 * 18446744073709551616 + u0) (show v1 ≠ 0 by omega)
    have h4 := Int.emod_lt_of_pos (u1 * 18446744073709551616 + u0) (show 0 < v1 by omega)
    have h5 := Int.emod_add_mul_ediv (u1 * 18446744073709551616 + u0) v1
    refine gsL_spec G 2 _ _ h1 (by omega) h3 (by omega) ?_ G.first (by omega)
    rw [Int.mul_comm]; omega
theorem drw_add (w : World) (a b : Nat) : (w.drewN a).drewN b = w.drewN (a + b) := by simp [World.drewN, Nat.add_assoc]

set_option maxHeartbeats 1000000 in
theorem guess_any (u1 u0 v1 v0 : Int) (w : World) (hu1 : 0 ≤ u1 ∧ u1 ≤ 18446744073709551615) (hu0 : 0 ≤ u0 ∧ u0 ≤ 18446744073709551615) (hv1 : 9223372036854775808 ≤ v1 ∧ v1 ≤ 18446744073709551615) (hv0 : 0 ≤ v0 ∧ v0 ≤ 18446744073709551615) :
    Calls Tryd.prog 72 #[.int .u64 u1, .int .u64 u0, .int .u64 v1, .int .u64 v0] w fun e w' => e = .returned (.int .u64 (gsF u1 u0 v1 v0)) ∧ ∃ m, w' = w.drewN m := by
  by_cases h : v1 ≤ u1
  · have HG : Hid (gsF u1 u0 v1 v0 = 18446744073709551615) := by show _ = _; unfold gsF; rw [if_pos h]
    go_enter Tryd.func72, Tryd.ntmps72
    go_wp2
    go_ret
    exact ⟨ret_int HG.out.symm, 0, rfl⟩
  · have HG : Hid (gsF u1 u0 v1 v0 = gsL v1 v0 2 ((u1 * 18446744073709551616 + u0) / v1) ((u1 * 18446744073709551616 + u0) % v1)) := by show _ = _; unfold gsF; rw [if_neg h]
    have hd := div64_all u1 u0 v1 w hu1.1 (by omega) hv1.2 hu0
    have h1 : 0 ≤ (u1 * 18446744073709551616 + u0) / v1 := Int.ediv_nonneg (by omega) (by omega)
    have h2 : (u1 * 18446744073709551616 + u0) / v1 < 18446744073709551616 := Int.ediv_lt_of_lt_mul (by omega) (by omega)
    have h3 := Int.emod_nonneg (u1 * 18446744073709551616 + u0) (show v1 ≠ 0 by omega)
    have h4 := Int.emod_lt_of_pos (u1 * 18446744073709551616 + u0) (show 0 < v1 by omega)
    generalize gsF u1 u0 v1 v0 = T at *
    generalize (u1 * 18446744073709551616 + u0) / v1 = d0 at *
    generalize (u1 * 18446744073709551616 + u0) % v1 = r0 at *
    go_enter Tryd.func72, Tryd.ntmps72
    go_wp2_with (go_at_call 63; refine hd.mono ?_; rintro e w' ⟨rfl, m, rfl⟩)
    go_loopw [9, 10, 11, 12, 23] (fun dv rv u11 u12 u23 wr => ∃ (f : Nat) (d r : Int), dv = .int .u64 d ∧ rv = .int .u64 r ∧ 0 ≤ d ∧ d ≤ 18446744073709551615 ∧ 0 ≤ r ∧ r ≤ 18446744073709551615 ∧ 18446744073709551616 ≤ r + f * v1 ∧ Hid (T = gsL v1 v0 f d r) ∧ wr = w.drewN m) (fun dv _ _ _ _ _ => (intOf dv).toNat)
    case atStart => exact ⟨2, d0, r0, rfl, rfl, h1, by omega, h3, by omega, by omega, HG.out, rfl⟩
    case round =>
      clear hd h1 h2 h3 h4 HG
      obtain ⟨f, d, r, rfl, rfl, a1, a2, a3, a4, hf, hT, rfl⟩ := hrel
      obtain ⟨f', rfl⟩ : ∃ f', f = f' + 1 := by
        cases f with
        | zero => simp at hf; omega
        | succ f' => exact ⟨f', rfl⟩
      have hmul := mul64 d v0 ⟨a1, a2⟩ hv0 (w.drewN m)
      have hfe : ((f' + 1 : Nat) : Int) * v1 = f' * v1 + v1 := by rw [Int.natCast_add, Int.add_mul]; simp
      rw [hfe] at hf
      have HF : Hid (18446744073709551616 ≤ r + (f' * v1 + v1)) := hf
      have hh0 : 0 ≤ d * v0 / 18446744073709551616 := Int.ediv_nonneg (Int.mul_nonneg a1 hv0.1) (by decide)
      by_cases hh : d * v0 / 18446744073709551616 ≤ r
      · have HT : Hid (T = d) := by show _ = _; rw [hT.out]; unfold gsL; rw [if_pos hh]
        clear hT hf hfe HF
        generalize d * v0 / 18446744073709551616 = hi at *
        generalize d * v0 % 18446744073709551616 = lo at *
        go_wp2_with (go_at_call 55; refine hmul.mono ?_; rintro e w' ⟨rfl, rfl⟩)
        go_ret
        exact ⟨ret_int HT.out.symm, m, rfl⟩
      · have h11 := gs_one a1 a3 hh
        by_cases ho : 18446744073709551616 ≤ r + v1
        · have HT : Hid (T = d - 1) := by show _ = _; rw [hT.out]; unfold gsL; rw [if_neg hh, if_pos ho]
          have hw : IntKind.u64.wrap (r + v1) = r + v1 - 18446744073709551616 := by rw [wrap_mod]; omega
          have hlt : r + v1 - 18446744073709551616 < v1 := by omega
          clear hT hf hfe HF
          generalize d * v0 / 18446744073709551616 = hi at *
          generalize d * v0 % 18446744073709551616 = lo at *
          go_wp2_with (go_at_call 55; refine hmul.mono ?_; rintro e w' ⟨rfl, rfl⟩)
          go_ret
          exact ⟨ret_int HT.out.symm, m, rfl⟩
        · have HT : Hid (T = gsL v1 v0 f' (d - 1) (r + v1)) := by show _ = _; rw [hT.out]; conv => lhs; unfold gsL
                                                                  rw [if_neg hh, if_neg ho]
          have hlt : ¬ r + v1 < v1 := by omega
          have hle : r + v1 ≤ 18446744073709551615 := by omega
          clear hT hf hfe
          generalize d * v0 / 18446744073709551616 = hi at *
          generalize d * v0 % 18446744073709551616 = lo at *
          go_wp2_with (go_at_call 55; refine hmul.mono ?_; rintro e w' ⟨rfl, rfl⟩)
          go_roundw
          case rel => exact ⟨f', d - 1, r + v1, rfl, rfl, by omega, by omega, by omega, by omega, by have := HF.out; omega, HT, trivial⟩
          case measure => simp [intOf]; omega
end Go.Proofs.YtkbplchgaploeaaDoor
