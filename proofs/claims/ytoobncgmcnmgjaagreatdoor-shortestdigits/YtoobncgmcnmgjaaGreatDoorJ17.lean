/-
  Texts that the proof leans on, joined: Mt.
-/
import Derived.Test.YtoobncgmcnmgjaaGreatDoorJ16
set_option linter.unusedSectionVars false
set_option linter.unusedVariables false
set_option linter.unusedSimpArgs false
set_option maxRecDepth 20000
namespace Go.Proofs.YtoobncgmcnmgjaaGreatDoor

/-- a pattern made of its fields -/
theorem fields_of {f e S E F : Nat} (hS : S ≤ 1) (hE : E < 2 ^ e) (hF : F < 2 ^ f) :
    (E * 2 ^ f + F + S * 2 ^ (f + e)) % 2 ^ f = F ∧ (E * 2 ^ f + F + S * 2 ^ (f + e)) / 2 ^ f % 2 ^ e = E ∧ (E * 2 ^ f + F + S * 2 ^ (f + e)) / 2 ^ (f + e) = S ∧ E * 2 ^ f + F + S * 2 ^ (f + e) < 2 ^ (f + e + 1) := by
  have hP : 0 < 2 ^ f := Nat.two_pow_pos f
  have hR : 0 < 2 ^ e := Nat.two_pow_pos e
  have e1 : E * 2 ^ f + F + S * 2 ^ (f + e) = F + (E + S * 2 ^ e) * 2 ^ f := by
    rw [Nat.pow_add, Nat.add_mul, Nat.mul_assoc, Nat.mul_comm (2 ^ e) (2 ^ f)]; omega
  have d1 : (E * 2 ^ f + F + S * 2 ^ (f + e)) / 2 ^ f = E + S * 2 ^ e := by
    rw [e1, Nat.add_mul_div_right _ _ hP, Nat.div_eq_of_lt hF, Nat.zero_add]
  have d2 : (E * 2 ^ f + F + S * 2 ^ (f + e)) / 2 ^ (f + e) = S := by
    rw [Nat.pow_add, ← Nat.div_div_eq_div_mul, ← Nat.pow_add, d1, Nat.add_mul_div_right _ _ hR, Nat.div_eq_of_lt hE, Nat.zero_add]
  refine ⟨?_, ?_, d2, ?_⟩
  · rw [e1, Nat.add_mul_mod_self_right, Nat.mod_eq_of_lt hF]
  · rw [d1, Nat.add_mul_mod_self_right, Nat.mod_eq_of_lt hE]
  · have hp : 0 < 2 ^ (f + e) := Nat.two_pow_pos _
    refine Nat.lt_of_div_lt_div (c := 2 ^ (f + e)) ?_
    rw [d2, Nat.pow_succ, Nat.mul_comm, Nat.mul_div_cancel _ hp]
    omega
theorem fields_in {f e B : Nat} (hB : B < 2 ^ (f + e + 1)) : ∃ S E F, S ≤ 1 ∧ E < 2 ^ e ∧ F < 2 ^ f ∧ B = E * 2 ^ f + F + S * 2 ^ (f + e) := by
  refine ⟨B / 2 ^ (f + e), B / 2 ^ f % 2 ^ e, B % 2 ^ f, ?_, Nat.mod_lt _ (Nat.two_pow_pos _), Nat.mod_lt _ (Nat.two_pow_pos _), ?_⟩
  · have : B / 2 ^ (f + e) < 2 := Nat.div_lt_of_lt_mul (by rw [Nat.mul_comm]; rw [Nat.pow_succ] at hB; omega)
    omega
  · have h1 := Nat.div_add_mod' B (2 ^ f)
    have h2 := Nat.div_add_mod' (B / 2 ^ f) (2 ^ e)
    rw [Nat.div_div_eq_div_mul, ← Nat.pow_add] at h2
    have h3 : (B / 2 ^ (f + e) * 2 ^ e + B / 2 ^ f % 2 ^ e) * 2 ^ f = B / 2 ^ f * 2 ^ f := by rw [h2]
    rw [Nat.add_mul, Nat.mul_assoc, Nat.mul_comm (2 ^ e) (2 ^ f), ← Nat.pow_add] at h3
    omega
theorem sg_of {f e S E F : Nat} (hS : S ≤ 1) (hE : E < 2 ^ e) (hF : F < 2 ^ f) : sgB f e (E * 2 ^ f + F + S * 2 ^ (f + e)) = decide (S = 1) := by
  unfold sgB
  rw [(fields_of hS hE hF).2.2.1]
  have : S = 0 ∨ S = 1 := by omega
  rcases this with rfl | rfl <;> rfl
/-- what a pattern means, by its fields -/
def mean (f e : Nat) (l : Int) (S E F : Nat) : Dat :=
  if E = 2 ^ e - 1 then spc f (decide (S = 1)) F else if E = 0 then ⟨1, decide (S = 1), false, l, F⟩ else ⟨1, decide (S = 1), false, l + ((E : Int) - 1), F + 2 ^ f⟩
theorem unp_mean {f e S E F : Nat} (l : Int) (hS : S ≤ 1) (hE : E < 2 ^ e) (hF : F < 2 ^ f) : unp f e l (E * 2 ^ f + F + S * 2 ^ (f + e)) = mean f e l S E F := by
  unfold unp mean
  obtain ⟨h1, h2, _, _⟩ := fields_of hS hE hF
  rw [h1, h2, sg_of hS hE hF]
theorem sel {S X : Nat} (hS : S ≤ 1) : (if decide (S = 1) = true then X else 0) = S * X := by
  have : S = 0 ∨ S = 1 := by omega
  rcases this with rfl | rfl <;> simp
theorem half {f : Nat} (h : 2 ≤ f) : 2 ^ (f - 1) + 2 ^ (f - 1) = 2 ^ f ∧ 1 ≤ 2 ^ (f - 1) := by
  refine ⟨?_, Nat.one_le_two_pow⟩
  have : f = f - 1 + 1 := by omega
  conv => rhs; rw [this, Nat.pow_succ]
  omega
theorem mean_isD {f e S E F : Nat} {l m : Int} (h : Fm f e l m) (hS : S ≤ 1) (hE : E < 2 ^ e) (hF : F < 2 ^ f) : isD f l m (mean f e l S E F) ∧ pk f e l (mean f e l S E F) = E * 2 ^ f + F + S * 2 ^ (f + e) ∧ (mean f e l S E F).k < 2 ^ 256 := by
  have hp := pow_e h.e2 h.e15
  have hpc : ((2 : Int) ^ e) = ((2 ^ e : Nat) : Int) := by simp
  have hm := h.m
  rw [hpc] at hp hm
  have hh := half h.f2
  have h256 : 2 ^ (f + 1) ≤ 2 ^ 256 := Nat.pow_le_pow_right (by decide) (by have := h.f240; omega)
  have hs1 : 2 ^ (f + 1) = 2 ^ f + 2 ^ f := by rw [Nat.pow_succ]; omega
  unfold mean
  by_cases h1 : E = 2 ^ e - 1
  · rw [if_pos h1]
    unfold spc
    by_cases h2 : F = 0
    · rw [if_pos h2]
      refine ⟨Or.inr (Or.inl ⟨rfl, rfl, rfl, rfl⟩), ?_, by show 0 < _; omega⟩
      unfold pk
      simp only [show ¬ ((2 : Int) = 1) by decide, if_false, if_true]
      rw [sel hS, ← h1, h2]
    · rw [if_neg h2]
      by_cases h3 : F < 2 ^ (f - 1)
      · rw [if_pos h3]
        refine ⟨Or.inr (Or.inr ⟨rfl, rfl, h3, Or.inl h2⟩), ?_, by show F < _; omega⟩
        unfold pk
        simp only [show ¬ ((3 : Int) = 1) by decide, show ¬ ((3 : Int) = 2) by decide, if_false, if_true]
        rw [sel hS, ← h1]
      · rw [if_neg h3]
        refine ⟨Or.inr (Or.inr ⟨rfl, rfl, by show F - 2 ^ (f - 1) < _; omega, Or.inr rfl⟩), ?_, by show F - 2 ^ (f - 1) < _; omega⟩
        unfold pk
        simp only [show ¬ ((3 : Int) = 1) by decide, show ¬ ((3 : Int) = 2) by decide, if_false, Bool.false_eq_true]
        rw [sel hS, ← h1, Nat.sub_add_cancel (by omega)]
  · rw [if_neg h1]
    by_cases h2 : E = 0
    · rw [if_pos h2]
      refine ⟨Or.inl ⟨rfl, rfl, by show F < _; omega, Int.le_refl _, by show l ≤ m; omega, Or.inr rfl⟩, ?_, by show F < _; omega⟩
      unfold pk
      simp only [if_true, Int.sub_self, Int.toNat_zero, Nat.zero_mul]
      rw [sel hS, h2, Nat.zero_mul]
    · rw [if_neg h2]
      refine ⟨Or.inl ⟨rfl, rfl, by show F + 2 ^ f < _; omega, by show l ≤ l + ((E : Int) - 1); omega, by show l + ((E : Int) - 1) ≤ m; omega, Or.inl (by show 2 ^ f ≤ F + 2 ^ f; omega)⟩, ?_, by show F + 2 ^ f < _; omega⟩
      unfold pk
      simp only [if_true]
      rw [sel hS, show (l + ((E : Int) - 1) - l).toNat = E - 1 by omega]
      obtain ⟨E', rfl⟩ : ∃ E', E = E' + 1 := ⟨E - 1, by omega⟩
      rw [Nat.add_sub_cancel, Nat.add_mul]
      omega
theorem pk_mean {f e : Nat} {l m : Int} {d : Dat} (h : Fm f e l m) (hd : isD f l m d) : ∃ S E F, S ≤ 1 ∧ E < 2 ^ e ∧ F < 2 ^ f ∧ pk f e l d = E * 2 ^ f + F + S * 2 ^ (f + e) ∧ mean f e l S E F = d := by
  have hp := pow_e h.e2 h.e15
  have hpc : ((2 : Int) ^ e) = ((2 ^ e : Nat) : Int) := by simp
  have hm := h.m
  rw [hpc] at hp hm
  have hh := half h.f2
  have hs1 : 2 ^ (f + 1) = 2 ^ f + 2 ^ f := by rw [Nat.pow_succ]; omega
  obtain ⟨c, s, g, x, k⟩ := d
  have hsg : ∃ S, S ≤ 1 ∧ decide (S = 1) = s ∧ ∀ X, (if s then X else 0) = S * X := by
    cases s
    · exact ⟨0, by decide, rfl, fun X => by simp⟩
    · exact ⟨1, by decide, rfl, fun X => by simp⟩
  obtain ⟨S, hS, hs, hsX⟩ := hsg
  rcases hd with ⟨hc, hg, hk, hx1, hx2, hx3⟩ | ⟨hc, hg, hx, hk⟩ | ⟨hc, hx, hk, hg⟩
  · dsimp only at hc hg hk hx1 hx2 hx3
    subst hc hg
    by_cases hf : 2 ^ f ≤ k
    · refine ⟨S, (x - l).toNat + 1, k - 2 ^ f, hS, by omega, by omega, ?_, ?_⟩
      · unfold pk
        simp only [if_true, hsX]
        rw [Nat.add_mul]; omega
      · unfold mean
        rw [if_neg (by omega), if_neg (by omega), hs, Nat.sub_add_cancel hf]
        congr 1
        omega
    · obtain rfl : x = l := by omega
      refine ⟨S, 0, k, hS, by omega, by omega, ?_, ?_⟩
      · unfold pk
        simp only [if_true, hsX, Int.sub_self, Int.toNat_zero]
      · unfold mean
        rw [if_neg (by omega), if_pos rfl, hs]
  · dsimp only at hc hg hx hk
    subst hc hg hx hk
    refine ⟨S, 2 ^ e - 1, 0, hS, by omega, by omega, ?_, ?_⟩
    · unfold pk
      simp only [show ¬ ((2 : Int) = 1) by decide, if_false, if_true, hsX]
    · unfold mean spc
      rw [if_pos rfl, if_pos rfl, hs]
  · dsimp only at hc hx hk hg
    subst hc hx
    cases g with
    | true =>
      have hk0 : k ≠ 0 := hg.resolve_right (by decide)
      refine ⟨S, 2 ^ e - 1, k, hS, by omega, by omega, ?_, ?_⟩
      · unfold pk
        simp only [show ¬ ((3 : Int) = 1) by decide, show ¬ ((3 : Int) = 2) by decide, if_false, if_true, hsX]
      · unfold mean spc
        rw [if_pos rfl, if_neg hk0, if_pos hk, hs]
    | false =>
      refine ⟨S, 2 ^ e - 1, k + 2 ^ (f - 1), hS, by omega, by omega, ?_, ?_⟩
      · unfold pk
        simp only [show ¬ ((3 : Int) = 1) by decide, show ¬ ((3 : Int) = 2) by decide, if_false, Bool.false_eq_true, hsX]
      · unfold mean spc
        rw [if_pos rfl, if_neg (by omega), if_neg (by omega), hs, Nat.add_sub_cancel]
/-- what was unpacked is packed as it was -/
theorem back_un {n : Int} {B : Nat} (h : goodN n B) : pkE n (unD n B) = 0 ∧ pkV n (unD n B) = B := by
  have hF := bin_fm h.1
  obtain ⟨S, E, F, hS, hE, hFr, hB⟩ := fields_in h.2
  have hu : unD n B = mean (fN n) (eN n) (leastN n) S E F := by
    unfold unD; rw [if_pos h, hB, unp_mean _ hS hE hFr]
  obtain ⟨h1, h2, _⟩ := mean_isD hF hS hE hFr
  rw [hu]
  unfold pkE pkV
  rw [if_pos h.1, if_pos h1, if_pos ⟨h.1, h1⟩, h2]
  exact ⟨rfl, hB.symm⟩
theorem unD_k (n : Int) (B : Nat) : (unD n B).k < 2 ^ 256 := by
  unfold unD
  by_cases h : goodN n B
  · rw [if_pos h]
    obtain ⟨S, E, F, hS, hE, hFr, hB⟩ := fields_in h.2
    rw [hB, unp_mean _ hS hE hFr]
    exact (mean_isD (bin_fm h.1) hS hE hFr).2.2
  · rw [if_neg h]; decide
theorem good_256 {n : Int} {B : Nat} (h : goodN n B) : B < 2 ^ 256 := by
  have := (bin_fm h.1).fe
  exact Nat.lt_of_lt_of_le h.2 (Nat.pow_le_pow_right (by decide) (by omega))
/-- the other way round -/
theorem back_pk {n : Int} {d : Dat} (h : pkE n d = 0) : goodN n (pkV n d) ∧ unD n (pkV n d) = d := by
  have hb : binN n := by
    unfold pkE at h
    by_cases hb : binN n
    · exact hb
    · rw [if_neg hb] at h; cases h
  have hi : isD (fN n) (leastN n) (mostN n) d := by
    unfold pkE at h
    rw [if_pos hb] at h
    by_cases hi : isD (fN n) (leastN n) (mostN n) d
    · exact hi
    · rw [if_neg hi] at h; cases h
  have hF := bin_fm hb
  obtain ⟨S, E, F, hS, hE, hFr, hB, hm⟩ := pk_mean hF hi
  have hv : pkV n d = E * 2 ^ fN n + F + S * 2 ^ (fN n + eN n) := by
    unfold pkV; rw [if_pos ⟨hb, hi⟩, hB]
  have hg : goodN n (pkV n d) := ⟨hb, by rw [hv]; exact (fields_of hS hE hFr).2.2.2⟩
  refine ⟨hg, ?_⟩
  unfold unD
  rw [if_pos hg, hv, unp_mean _ hS hE hFr, hm]
theorem pkV_256 (n : Int) (d : Dat) : pkV n d < 2 ^ 256 := by
  by_cases h : pkE n d = 0
  · exact good_256 (back_pk h).1
  · have : pkV n d = 0 := by
      unfold pkV pkE at *
      by_cases hb : binN n
      · rw [if_pos hb] at h
        by_cases hi : isD (fN n) (leastN n) (mostN n) d
        · rw [if_pos hi] at h; exact absurd rfl h
        · exact if_neg fun hh => hi hh.2
      · exact if_neg fun hh => hb hh.1
    rw [this]; decide
end Go.Proofs.YtoobncgmcnmgjaaGreatDoor
