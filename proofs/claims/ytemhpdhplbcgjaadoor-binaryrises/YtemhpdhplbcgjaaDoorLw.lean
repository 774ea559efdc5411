/-
  The law BinaryRises: it returns true.
-/
import Derived.Test.YtemhpdhplbcgjaaDoorLs
set_option linter.unusedVariables false
set_option linter.unusedSectionVars false
set_option linter.unusedSimpArgs false
set_option maxRecDepth 20000
namespace Go.Proofs.YtemhpdhplbcgjaaDoor
open Go.RowKit

theorem mean_ways {f e S E F : Nat} {l : Int} (hc : (mean f e l S E F).c ≠ 3) :
    (E = 2 ^ e - 1 ∧ F = 0 ∧ mean f e l S E F = ⟨2, decide (S = 1), false, 0, 0⟩) ∨ (E ≠ 2 ^ e - 1 ∧ E = 0 ∧ mean f e l S E F = ⟨1, decide (S = 1), false, l, F⟩) ∨ (E ≠ 2 ^ e - 1 ∧ E ≠ 0 ∧ mean f e l S E F = ⟨1, decide (S = 1), false, l + ((E : Int) - 1), F + 2 ^ f⟩) := by
  unfold mean spc at *
  by_cases h1 : E = 2 ^ e - 1
  · rw [if_pos h1] at hc ⊢
    by_cases h2 : F = 0
    · rw [if_pos h2]; exact Or.inl ⟨h1, h2, rfl⟩
    · exfalso
      rw [if_neg h2] at hc
      by_cases h3 : F < 2 ^ (f - 1)
      · rw [if_pos h3] at hc; exact hc rfl
      · rw [if_neg h3] at hc; exact hc rfl
  · rw [if_neg h1]
    by_cases h2 : E = 0
    · rw [if_pos h2]; exact Or.inr (Or.inl ⟨h1, h2, rfl⟩)
    · rw [if_neg h2]; exact Or.inr (Or.inr ⟨h1, h2, rfl⟩)
/-- patterns of one sign rise with what they mean -/
theorem lex {p E F E' F' : Nat} (hF : F < p) (hF' : F' < p) : (E' * p + F' < E * p + F) ↔ (E' < E ∨ (E = E' ∧ F' < F)) := by
  rcases Nat.lt_trichotomy E E' with h | h | h
  · have : (E + 1) * p ≤ E' * p := Nat.mul_le_mul_right _ h
    rw [Nat.add_mul] at this
    constructor
    · intro h'; omega
    · rintro (h' | ⟨h', _⟩) <;> omega
  · subst h; constructor
    · intro h'; exact Or.inr ⟨rfl, by omega⟩
    · rintro (h' | ⟨_, h'⟩) <;> omega
  · have : (E' + 1) * p ≤ E * p := Nat.mul_le_mul_right _ h
    rw [Nat.add_mul] at this
    exact ⟨fun _ => Or.inl h, fun _ => by omega⟩
theorem binaryRises_any (n : Int) (A B : Nat) (w : World) (hT : Tab w) (hA : A < 2 ^ 256) (hB : B < 2 ^ 256) :
    Calls Tryd.prog 7 #[.int .i64 n, A4 A, A4 B] w fun x w' => x = .returned (.bool true) ∧ Below w.heap.size w w' := by
  have c10 := fun w hT => unpack_any n A w hT hA
  have c10b := fun w hT => unpack_any n B w hT hB
  have u1 : ∀ B, ¬ goodN n B → unE n B = 1 := fun B h => if_neg h
  have u0 : ∀ B, goodN n B → unE n B = 0 := fun B h => if_pos h
  by_cases gA : goodN n A
  · rw [u0 A gA] at c10
    by_cases gB : goodN n B
    · rw [u0 B gB] at c10b
      have hF := bin_fm gA.1
      have hm4 := mo_four (A := A) (B := B) hA hB
      obtain ⟨S, E, F, hS, hE, hFr, hAe⟩ := fields_in gA.2
      obtain ⟨S', E', F', hS', hE', hFr', hBe⟩ := fields_in gB.2
      have hu : unD n A = mean (fN n) (eN n) (leastN n) S E F := by
        unfold unD; rw [if_pos gA, hAe, unp_mean _ hS hE hFr]
      have hu' : unD n B = mean (fN n) (eN n) (leastN n) S' E' F' := by
        unfold unD; rw [if_pos gB, hBe, unp_mean _ hS' hE' hFr']
      by_cases h1 : (unD n A).c = 3
      · exact rises_s3 n A B w hT _ _ _ _ _ _ _ _ _ 0 0 _ c10 c10b (by simpa using h1)
      · by_cases h2 : (unD n B).c = 3
        · exact rises_s4 n A B w hT _ _ _ _ _ _ _ _ _ 0 0 _ c10 c10b (by simpa using h1) (by simpa using h2)
        · by_cases h3 : (unD n A).s = (unD n B).s
          · have hsn : S = S' := by
              rw [hu, hu'] at h3
              rw [hu] at h1
              rw [hu'] at h2
              rcases mean_ways h1 with ⟨_, _, e1⟩ | ⟨_, _, e1⟩ | ⟨_, _, e1⟩ <;> rcases mean_ways h2 with ⟨_, _, e2⟩ | ⟨_, _, e2⟩ | ⟨_, _, e2⟩ <;>
                (rw [e1, e2] at h3; dsimp only at h3; have := decide_eq_decide.1 h3; omega)
            have key : B < A ↔ (E' < E ∨ (E = E' ∧ F' < F)) := by
              rw [← lex hFr hFr', hAe, hBe, hsn]; omega
            have hp := pow_e hF.e2 hF.e15
            have hpc : ((2 : Int) ^ eN n) = ((2 ^ eN n : Nat) : Int) := by simp
            rw [hpc] at hp
            have hk := unD_k n A
            have hk' := unD_k n B
            have hmk := mo_four hk hk'
            have h1' := h1
            have h2' := h2
            rw [hu] at h1'
            rw [hu'] at h2'
            have w1 := mean_ways h1'
            have w2 := mean_ways h2'
            rw [← hu] at w1
            rw [← hu'] at w2
            have h3b : (unD n B).v = DV (unD n B).c (unD n A).s (unD n B).g (unD n B).x (unD n B).k := by rw [h3]
            rw [h3b] at c10b
            by_cases h4 : (unD n A).c = (unD n B).c
            · by_cases h5 : (unD n A).x = (unD n B).x
              · refine rises_k n A B w hT _ _ _ _ _ _ _ _ _ c10 c10b (by simpa using h1) (by simpa using h2) (by simpa using h4) (by simpa using h5) ?_
                rw [hm4, hmk]
                apply decide_eq_decide.2
                rw [key]
                rcases w1 with ⟨a1, a2, e1⟩ | ⟨a1, a2, e1⟩ | ⟨a1, a2, e1⟩ <;> rcases w2 with ⟨b1, b2, e2⟩ | ⟨b1, b2, e2⟩ | ⟨b1, b2, e2⟩ <;>
                  (rw [e1, e2] at h4 h5 ⊢; dsimp only at h4 h5 ⊢; omega)
              · refine rises_x n A B w hT _ _ _ _ _ _ _ _ _ c10 c10b (by simpa using h1) (by simpa using h2) (by simpa using h4) (by simpa using h5) ?_
                rw [hm4]
                apply decide_eq_decide.2
                rw [key]
                rcases w1 with ⟨a1, a2, e1⟩ | ⟨a1, a2, e1⟩ | ⟨a1, a2, e1⟩ <;> rcases w2 with ⟨b1, b2, e2⟩ | ⟨b1, b2, e2⟩ | ⟨b1, b2, e2⟩ <;>
                  (rw [e1, e2] at h4 h5 ⊢; dsimp only at h4 h5 ⊢; omega)
            · refine rises_c n A B w hT _ _ _ _ _ _ _ _ _ c10 c10b (by simpa using h1) (by simpa using h2) (by simpa using h4) ?_
              rw [hm4]
              apply decide_eq_decide.2
              rw [key]
              rcases w1 with ⟨a1, a2, e1⟩ | ⟨a1, a2, e1⟩ | ⟨a1, a2, e1⟩ <;> rcases w2 with ⟨b1, b2, e2⟩ | ⟨b1, b2, e2⟩ | ⟨b1, b2, e2⟩ <;>
                (rw [e1, e2] at h4 ⊢; dsimp only at h4 ⊢; omega)
          · exact rises_s5 n A B w hT _ _ _ _ _ _ _ _ _ 0 0 _ c10 c10b (by simpa using h1) (by simpa using h2) (by simpa using h3)
    · rw [u1 B gB] at c10b
      exact rises_s2 n A B w hT _ _ _ _ _ _ _ _ _ 0 1 _ c10 c10b (by decide)
  · rw [u1 A gA] at c10
    exact rises_s1 n A B w hT _ _ _ _ _ _ _ _ _ 1 _ _ c10 c10b (by decide)
end Go.Proofs.YtemhpdhplbcgjaaDoor
