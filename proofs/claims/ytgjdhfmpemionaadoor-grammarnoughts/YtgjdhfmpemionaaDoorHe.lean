/-
  Noughts ahead, and noughts behind the point: what a text with a point and an exponent is cut up into.
-/
import Derived.Test.YtgjdhfmpemionaaDoorHd
set_option linter.unusedVariables false
set_option linter.unusedSimpArgs false
set_option maxRecDepth 20000
namespace Go.Proofs.YtgjdhfmpemionaaDoor
open Go.RowKit

theorem cut_point {A F X : List UInt8} (hA : A.all dg = true) (hA0 : A ≠ []) (hF : F.all dg = true) (hX : isd X = true) (hl : (A ++ 46 :: (F ++ 101 :: X)).length ≤ 4000) :
    cutP (A ++ 46 :: (F ++ 101 :: X)) = some ⟨1, false, false, bar (A ++ F), clampE (vc X - F.length)⟩ := by
  have hs : sgB (A ++ 46 :: (F ++ 101 :: X)) = false ∧ sgR (A ++ 46 :: (F ++ 101 :: X)) = A ++ 46 :: (F ++ 101 :: X) := by
    cases A with
    | nil => exact absurd rfl hA0
    | cons c r =>
      rw [List.all_cons, Bool.and_eq_true] at hA
      have := dg_nat hA.1
      exact sg_cons ⟨by omega, by omega⟩
  unfold cutP
  rw [if_neg (by omega), hs.1, hs.2]
  obtain ⟨d1, d2⟩ := dgs_app2 (m := 46 :: (F ++ 101 :: X)) hA rfl
  obtain ⟨d3, d4⟩ := dgs_app2 (m := 101 :: X) hF rfl
  have e1 : Lib.hasPrefix (46 :: (F ++ 101 :: X)) [46] = true := rfl
  have e2 : Lib.trimPrefix (46 :: (F ++ 101 :: X)) [46] = F ++ 101 :: X := rfl
  have f1 : frac (A ++ 46 :: (F ++ 101 :: X)) = F := by unfold frac; rw [d2, e1, e2, d3]; rfl
  have f2 : behind (A ++ 46 :: (F ++ 101 :: X)) = 101 :: X := by unfold behind; rw [d2, e1, e2, d4]; rfl
  obtain ⟨s1, s2⟩ := sg_all (isd_all hX)
  have x1 : exB (101 :: X) = true := by simp only [exB]; rw [s2, hX]; rfl
  have x2 : exI (101 :: X) = vc X := by
    simp only [exI]; rw [if_pos x1]; unfold exS; rw [s1, s2]; rfl
  have hfin : finB (A ++ 46 :: (F ++ 101 :: X)) = true := by
    unfold finB; rw [f1, f2, x1, d1]
    cases A with
    | nil => exact absurd rfl hA0
    | cons c r => rfl
  unfold bodP
  rw [if_pos hfin]
  unfold finD finE
  rw [f1, f2, d1, x2]
theorem bar_rep (k : Nat) (l : List UInt8) : bar (List.replicate k 48 ++ l) = bar l := by
  induction k with
  | zero => rfl
  | succ k ih =>
    rw [List.replicate_succ, List.cons_append, bar_cons, if_pos (by decide), ih]
theorem rep_dg (k : Nat) : (List.replicate k (48 : UInt8)).all dg = true := by
  induction k with
  | zero => rfl
  | succ k ih => rw [List.replicate_succ, List.all_cons, ih]; rfl
theorem nv_rep (k : Nat) (l : List UInt8) : nv (List.replicate k 48 ++ l) = nv l := by
  rw [← nv_bar, bar_rep, nv_bar]
theorem by_app {l m : List UInt8} (h : l ≠ []) : by_ (l ++ m) 0 = by_ l 0 := by
  cases l with
  | nil => exact absurd rfl h
  | cons c r => rw [List.cons_append, by_zero, by_zero]
theorem dgN_gd (n : Nat) : gdD (dgN n) := by
  induction n using Nat.strongRecOn with
  | ind n ih =>
    by_cases h0 : n = 0
    · subst h0; exact Or.inl rfl
    · rw [dgN_step (by omega)]
      have hc := dig_of (n % 10) (by omega)
      have hall : (dgN (n / 10) ++ [UInt8.ofNat (48 + n % 10)]).all dg = true := by
        rw [List.all_append, gdD_all (ih (n / 10) (by omega))]
        simp only [List.all_cons, List.all_nil, Bool.and_true, Bool.true_and]
        exact hc.1
      refine Or.inr ⟨?_, ?_⟩
      · unfold isd; rw [hall]; simp
      · rcases ih (n / 10) (by omega) with h1 | ⟨h1, h2⟩
        · have : n / 10 = 0 := by
            by_cases h3 : n / 10 = 0
            · exact h3
            · exfalso
              unfold dgN at h1
              rw [if_neg h3] at h1
              exact dec_ne _ h1
          rw [h1, List.nil_append, by_zero, hc.2]
          omega
        · rw [by_app]
          · exact h2
          · intro h3; rw [h3] at h1; cases h1
end Go.Proofs.YtgjdhfmpemionaaDoor
