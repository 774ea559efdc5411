/-
  Texts that the proof leans on.
-/
import Derived.Test.YtiojbgdfmabjdaaDoorJ33
import Derived.Test.YtiojbgdfmabjdaaDoorJ27
import Derived.StillTail
import Derived.Below
import Derived.WalkKit
import Derived.Test.YtiojbgdfmabjdaaDoorJ26
import Derived.Test.YtiojbgdfmabjdaaDoorJ30
import Derived.Test.YtiojbgdfmabjdaaDoorJ22
set_option linter.unusedVariables false
set_option linter.unusedSectionVars false
set_option linter.unusedSimpArgs false
set_option maxRecDepth 20000
namespace Go.Proofs.YtiojbgdfmabjdaaDoor
open Go.RowKit
/-! the other sign -/
def othD (d : Int) : Int := if d = 3 ∨ d = 4 then 7 - d else d
theorem in_turn (d : Int) : inB (othD d) true = inB d false := by
  unfold othD inB
  by_cases h3 : d = 3
  · subst h3; rfl
  · by_cases h4 : d = 4
    · subst h4; rfl
    · simp only [h3, h4, or_self, if_false]
theorem fa_turn (d : Int) (o : Bool) (R D : Nat) : faB (othD d) true o R D = faB d false o R D := by
  unfold faB
  rw [in_turn]
  unfold othD
  by_cases h3 : d = 3
  · subst h3; rfl
  · by_cases h4 : d = 4
    · subst h4; rfl
    · simp only [h3, h4, or_self, if_false]
theorem nrF_turn (d : Int) (N D : Nat) (k : Int) : nrF (othD d) true N D k = nrF d false N D k := fa_turn d _ _ _
theorem rC_turn (n d : Int) (N D : Nat) (x : Int) : rC n (othD d) true N D x = rC n d false N D x := by unfold rC nrC; rw [nrF_turn]
theorem rP_turn (n d : Int) (N D : Nat) (x : Int) : rP n (othD d) true N D x = rP n d false N D x := by unfold rP; rw [rC_turn]
theorem kn_turn (d : Int) : knB (othD d) ↔ knB d := by unfold knB othD; split <;> omega
theorem rd_turn {n : Int} (d : Int) (N : Nat) {D : Nat} (x : Int) (hb : binN n) (hD : D ≠ 0) : rdV n (othD d) true N D x = rdV n d false N D x + 2 ^ (fN n + eN n) ∧ rdF n (othD d) true N D x = rdF n d false N D x ∧ rdV n d false N D x < 2 ^ (fN n + eN n) := by
  by_cases hN : N = 0
  · subst hN
    rw [(r_zero (othD d) true D x hb).1, (r_zero (othD d) true D x hb).2, (r_zero d false D x hb).1, (r_zero d false D x hb).2]
    have := Nat.two_pow_pos (fN n + eN n)
    unfold sgN
    simp only [if_true, Bool.false_eq_true, if_false]
    exact ⟨by omega, trivial, by omega⟩
  · rw [r_pat (othD d) true x hb hN hD, r_pat d false x hb hN hD, r_flag (othD d) true x hb hN hD, r_flag d false x hb hN hD, rP_turn, in_turn]
    unfold sgN
    simp only [if_true, Bool.false_eq_true, if_false, Nat.add_zero]
    exact ⟨trivial, trivial, Nat.lt_of_le_of_lt (cap_le _ _ _) (tp_lt hb)⟩
theorem un_turn {n : Int} {V : Nat} (hb : binN n) (hV : V < 2 ^ (fN n + eN n)) : goodN n V ∧ goodN n (V + 2 ^ (fN n + eN n)) ∧ ∃ c g x k, unD n V = ⟨c, false, g, x, k⟩ ∧ unD n (V + 2 ^ (fN n + eN n)) = ⟨c, true, g, x, k⟩ := by
  have hs : 2 ^ (fN n + eN n + 1) = 2 ^ (fN n + eN n) + 2 ^ (fN n + eN n) := by rw [Nat.pow_succ]; omega
  have g1 : goodN n V := ⟨hb, by omega⟩
  have g2 : goodN n (V + 2 ^ (fN n + eN n)) := ⟨hb, by omega⟩
  refine ⟨g1, g2, ?_⟩
  obtain ⟨S, E, F, hS, hE, hF, hB⟩ := fields_in g1.2
  have hS0 : S = 0 := by
    have : S = 0 ∨ S = 1 := by omega
    rcases this with h | h
    · exact h
    · subst h; omega
  subst hS0
  have e1 : unD n V = mean (fN n) (eN n) (leastN n) 0 E F := by unfold unD; rw [if_pos g1, hB, unp_mean _ (by decide) hE hF]
  have e2 : unD n (V + 2 ^ (fN n + eN n)) = mean (fN n) (eN n) (leastN n) 1 E F := by
    unfold unD; rw [if_pos g2, hB]
    have := unp_mean (leastN n) (show 1 ≤ 1 by decide) hE hF
    rw [← this]
    congr 1
    omega
  rw [e1, e2]
  unfold mean spc
  by_cases h1 : E = 2 ^ eN n - 1
  · rw [if_pos h1, if_pos h1]
    by_cases h2 : F = 0
    · rw [if_pos h2, if_pos h2]; exact ⟨_, _, _, _, rfl, rfl⟩
    · rw [if_neg h2, if_neg h2]
      by_cases h3 : F < 2 ^ (fN n - 1)
      · rw [if_pos h3, if_pos h3]; exact ⟨_, _, _, _, rfl, rfl⟩
      · rw [if_neg h3, if_neg h3]; exact ⟨_, _, _, _, rfl, rfl⟩
  · rw [if_neg h1, if_neg h1]
    by_cases h2 : E = 0
    · rw [if_pos h2, if_pos h2]; exact ⟨_, _, _, _, rfl, rfl⟩
    · rw [if_neg h2, if_neg h2]; exact ⟨_, _, _, _, rfl, rfl⟩
/-! a number of the format -/
theorem ld_mul {k b : Nat} (hk : k ≠ 0) (hb : b ≠ 0) : ld (k * b) b = (bl k : Int) - 1 := by
  obtain ⟨k1, k2, k3⟩ := bl_bd hk
  have hkb : k * b ≠ 0 := Nat.mul_ne_zero hk hb
  obtain ⟨K, hK⟩ : ∃ K : Nat, K = bl b + 2 + bl (k * b) := ⟨_, rfl⟩
  obtain ⟨h1, h2⟩ := ld_bd hkb hb K (by omega)
  have hl : (bl (k * b) : Int) - bl b - 1 ≤ ld (k * b) b ∧ ld (k * b) b ≤ (bl (k * b) : Int) - bl b := by
    unfold ld; dsimp only; split <;> omega
  have hbp : 0 < b := Nat.pos_of_ne_zero hb
  rw [Nat.mul_right_comm, Nat.mul_comm (k * 2 ^ K) b] at h1 h2
  have h1' := Nat.le_of_mul_le_mul_left h1 hbp
  have h2' := Nat.lt_of_mul_lt_mul_left h2
  have a1 : 2 ^ ((K : Int) + ld (k * b) b).toNat < 2 ^ (bl k + K) := by
    rw [Nat.pow_add]
    exact Nat.lt_of_le_of_lt h1' (Nat.mul_lt_mul_of_pos_right k2 (Nat.two_pow_pos _))
  have a2 : 2 ^ (bl k - 1 + K) < 2 ^ ((K : Int) + ld (k * b) b + 1).toNat := by
    rw [Nat.pow_add]
    exact Nat.lt_of_le_of_lt (Nat.mul_le_mul_right _ k1) h2'
  have b1 := (Nat.pow_lt_pow_iff_right (by decide : 1 < 2)).1 a1
  have b2 := (Nat.pow_lt_pow_iff_right (by decide : 1 < 2)).1 a2
  omega
theorem keep_eq {n : Int} (d : Int) {s : Bool} {q : Int} {k b : Nat} (hbn : binN n) (h : isD (fN n) (leastN n) (mostN n) ⟨1, s, false, q, k⟩) (hb : b ≠ 0) : rdV n d s (k * b) b q = pkV n ⟨1, s, false, q, k⟩ ∧ rdF n d s (k * b) b q = 0 := by
  rw [pk_fin hbn h]
  have hF := bin_fm hbn
  have hp := pow_e hF.e2 hF.e15
  have hm := hF.m
  rcases h with ⟨_, _, hk1, hx1, hx2, hx3⟩ | ⟨hc, _⟩ | ⟨hc, _⟩
  · dsimp only at hk1 hx1 hx2 hx3
    by_cases hk : k = 0
    · subst hk
      rw [Nat.zero_mul, (r_zero d s b q hbn).1, (r_zero d s b q hbn).2]
      have : q = leastN n := by
        rcases hx3 with h | h
        · have := Nat.two_pow_pos (fN n); omega
        · exact h
      rw [this]; simp
    · have hkb : k * b ≠ 0 := Nat.mul_ne_zero hk hb
      have hL := ld_mul hk hb
      obtain ⟨k1, k2, k3⟩ := bl_bd hk
      have hbl : bl k ≤ fN n + 1 := bl_le.2 hk1
      have hX : rX n (k * b) b q = q := by
        unfold rX wiZ; rw [hL]; omega
      have hQ : rQ n (k * b) b q = q := by
        unfold rQ; rw [hX, hL]
        rcases hx3 with h | h
        · have : fN n < bl k := bl_ge.2 h
          omega
        · omega
      have hq0 : nrQ (k * b) b (q - q) = k ∧ nrR (k * b) b (q - q) = 0 := by
        unfold nrQ nrR
        rw [Int.sub_self]
        simp
        exact Nat.mul_div_cancel _ (Nat.pos_of_ne_zero hb)
      have hFF : nrF d s (k * b) b (q - q) = false := by
        unfold nrF faB; rw [hq0.2]; rfl
      have hPP : rP n d s (k * b) b q = (q - leastN n).toNat * 2 ^ fN n + k := by
        rw [rP_eq]; unfold rB; rw [hX, hQ, hFF, hq0.1]; simp
      have hno : ¬ tpN n ≤ rP n d s (k * b) b q := by
        rw [hPP]
        unfold tpN
        have hpc : ((2 : Int) ^ eN n) = ((2 ^ eN n : Nat) : Int) := by simp
        rw [hpc] at hp hm
        rw [Nat.pow_succ] at hk1
        have h3 : ((q - leastN n).toNat + 2) * 2 ^ fN n ≤ (2 ^ eN n - 1) * 2 ^ fN n := Nat.mul_le_mul_right _ (by omega)
        rw [Nat.add_mul] at h3
        omega
      rw [r_pat d s q hbn hkb hb, r_flag d s q hbn hkb hb]
      unfold capV
      rw [if_neg hno, if_neg hno, hPP, hX, hQ, hq0.2]
      exact ⟨rfl, rfl⟩
  · exact absurd (show (1 : Int) = 2 from hc) (by decide)
  · exact absurd (show (1 : Int) = 3 from hc) (by decide)
theorem fa_mono {d : Int} {s o : Bool} {R1 R2 D : Nat} (h : R1 ≤ R2) (hf : faB d s o R1 D = true) : faB d s o R2 D = true := by
  unfold faB at hf ⊢
  by_cases h1 : R1 = 0
  · rw [if_pos h1] at hf; cases hf
  · rw [if_neg h1] at hf
    rw [if_neg (by omega)]
    by_cases h0 : d = 0
    · rw [if_pos h0] at hf ⊢
      simp only [Bool.or_eq_true, Bool.and_eq_true, decide_eq_true_eq] at hf ⊢
      rcases hf with hf | ⟨hf, ho⟩
      · left; omega
      · by_cases e : R2 + R2 = D
        · exact Or.inr ⟨e, ho⟩
        · left; omega
    · rw [if_neg h0] at hf ⊢
      by_cases h2 : d = 1
      · rw [if_pos h2] at hf ⊢
        simp only [decide_eq_true_eq] at hf ⊢
        omega
      · rw [if_neg h2] at hf ⊢; exact hf
theorem nrC_mono {d : Int} {s : Bool} {N1 N2 D : Nat} {k : Int} (h : N1 ≤ N2) (hD : D ≠ 0) : nrC d s N1 D k ≤ nrC d s N2 D k := by
  have hB : 0 < D * 2 ^ (-k).toNat := Nat.mul_pos (Nat.pos_of_ne_zero hD) (Nat.two_pow_pos _)
  have hA : N1 * 2 ^ k.toNat ≤ N2 * 2 ^ k.toNat := Nat.mul_le_mul_right _ h
  unfold nrC nrF nrQ nrR
  generalize N1 * 2 ^ k.toNat = A1 at *
  generalize N2 * 2 ^ k.toNat = A2 at *
  generalize D * 2 ^ (-k).toNat = M at *
  have hq : A1 / M ≤ A2 / M := Nat.div_le_div_right hA
  rcases Nat.lt_or_ge (A1 / M) (A2 / M) with h1 | h1
  · split <;> split <;> omega
  · have e : A1 / M = A2 / M := by omega
    have d1 := Nat.div_add_mod A1 M
    have d2 := Nat.div_add_mod A2 M
    rw [e] at d1 ⊢
    have hr : A1 % M ≤ A2 % M := by omega
    by_cases hf : faB d s (decide (A2 / M % 2 = 1)) (A1 % M) M = true
    · rw [if_pos hf, if_pos (fa_mono hr hf)]; exact Nat.le_refl _
    · rw [if_neg hf]; split <;> omega
theorem ld_mono {N1 N2 D : Nat} (h : N1 ≤ N2) (h1 : N1 ≠ 0) (hD : D ≠ 0) : ld N1 D ≤ ld N2 D := by
  have h2 : N2 ≠ 0 := by omega
  obtain ⟨K, hK⟩ : ∃ K : Nat, K = bl D + 2 + bl N1 + bl N2 := ⟨_, rfl⟩
  have b1 := (ld_bd h1 hD K (by omega)).1
  have b2 := (ld_bd h2 hD K (by omega)).2
  have hc : N1 * 2 ^ K ≤ N2 * 2 ^ K := Nat.mul_le_mul_right _ h
  have hlt : D * 2 ^ ((K : Int) + ld N1 D).toNat < D * 2 ^ ((K : Int) + ld N2 D + 1).toNat := by omega
  have := (Nat.pow_lt_pow_iff_right (by decide : 1 < 2)).1 (Nat.lt_of_mul_lt_mul_left hlt)
  have hl1 : (bl N1 : Int) - bl D - 1 ≤ ld N1 D := by unfold ld; dsimp only; split <;> omega
  have hl2 : (bl N2 : Int) - bl D - 1 ≤ ld N2 D := by unfold ld; dsimp only; split <;> omega
  omega
/-- what lies below a quarter -/
def tnB (d : Int) (s : Bool) : Bool := if d = 0 ∨ d = 1 then false else inB d s
theorem nr_tiny {d : Int} {s : Bool} {N D : Nat} {k : Int} (hN : N ≠ 0) (hD : D ≠ 0) (h : ld N D + k ≤ -2) : nrQ N D k = 0 ∧ nrF d s N D k = tnB d s ∧ nrR N D k ≠ 0 := by
  have key : N * 2 * 2 ^ k.toNat < D * 2 ^ (-k).toNat := by
    obtain ⟨K, hK⟩ : ∃ K : Nat, K = bl D + 1 + k.natAbs := ⟨_, rfl⟩
    obtain ⟨K1, hK1⟩ : ∃ K1 : Nat, (K1 : Int) = (K : Int) + k := ⟨((K : Int) + k).toNat, by omega⟩
    have key := cmp_sc (N * 2) D k K (by omega)
    rw [show ((K : Int) + k).toNat = K1 by omega] at key
    have hb := (ld_bd hN hD K1 (by omega)).2
    have hl1 : -(bl D : Int) ≤ ld N D := by
      have := (bl_bd hN).2.2
      unfold ld; dsimp only; split <;> omega
    refine key.2 ?_
    have h2 : D * 2 ^ (((K1 : Int) + ld N D + 1).toNat + 1) ≤ D * 2 ^ K := Nat.mul_le_mul_left _ (Nat.pow_le_pow_right (by decide) (by omega))
    rw [Nat.pow_succ, ← Nat.mul_assoc] at h2
    rw [Nat.mul_right_comm]
    omega
  have hA : N * 2 ^ k.toNat ≠ 0 := Nat.mul_ne_zero hN (Nat.pos_iff_ne_zero.1 (Nat.two_pow_pos _))
  rw [Nat.mul_right_comm] at key
  unfold nrF nrQ nrR
  generalize N * 2 ^ k.toNat = A at *
  generalize D * 2 ^ (-k).toNat = M at *
  have e1 : A / M = 0 := Nat.div_eq_of_lt (by omega)
  have e2 : A % M = A := Nat.mod_eq_of_lt (by omega)
  rw [e1, e2]
  refine ⟨rfl, ?_, hA⟩
  unfold faB tnB
  rw [if_neg hA]
  by_cases h0 : d = 0
  · rw [if_pos h0, if_pos (Or.inl h0), decide_eq_false (by omega), decide_eq_false (by omega)]; rfl
  · rw [if_neg h0]
    by_cases h1 : d = 1
    · rw [if_pos h1, if_pos (Or.inr h1), decide_eq_false (by omega)]
    · rw [if_neg h1, if_neg (by omega)]
theorem cap_top (T : Nat) (i : Bool) (p q : Nat) (h : T ≤ q) : capV T i p ≤ capV T i q := by
  unfold capV
  rw [if_pos h]
  split
  · exact Nat.le_refl _
  · split <;> omega
theorem cap_mono (T : Nat) (i : Bool) {p q : Nat} (h : p ≤ q) : capV T i p ≤ capV T i q := by
  by_cases hq : T ≤ q
  · exact cap_top T i p q hq
  · unfold capV; rw [if_neg hq, if_neg (by omega)]; exact h
theorem rd_mono {n : Int} (d : Int) (N1 N2 : Nat) {D : Nat} (x : Int) (hb : binN n) (hD : D ≠ 0) (h : N1 ≤ N2) : rdV n d false N1 D x ≤ rdV n d false N2 D x := by
  by_cases h1 : N1 = 0
  · subst h1
    rw [(r_zero d false D x hb).1]
    unfold sgN; simp
  · have h2 : N2 ≠ 0 := by omega
    rw [r_pat d false x hb h1 hD, r_pat d false x hb h2 hD]
    refine Nat.add_le_add_right ?_ _
    have hL := ld_mono h h1 hD
    obtain ⟨a1, a2, a3, _⟩ := r_coef d false x hb h1 hD
    obtain ⟨b1, b2, b3, _⟩ := r_coef d false x hb h2 hD
    have hF := bin_fm hb
    have hp := pow_e hF.e2 hF.e15
    have hm := hF.m
    have hpc : ((2 : Int) ^ eN n) = ((2 ^ eN n : Nat) : Int) := by simp
    rw [hpc] at hp hm
    have hq : rQ n N1 D x ≤ rQ n N2 D x := by unfold rQ rX wiZ; omega
    have hFp : 0 < 2 ^ fN n := Nat.two_pow_pos _
    rw [show 2 ^ (fN n + 1) = 2 ^ fN n + 2 ^ fN n by rw [Nat.pow_succ]; omega] at a2 b2
    by_cases htop : mostN n < rQ n N2 D x
    · refine cap_top _ _ _ _ ?_
      have hC := b3 (by omega)
      unfold tpN rP
      have : (2 ^ eN n - 1) * 2 ^ fN n ≤ ((rQ n N2 D x - leastN n).toNat + 1) * 2 ^ fN n := Nat.mul_le_mul_right _ (by omega)
      rw [Nat.add_mul] at this
      omega
    · refine cap_mono _ _ ?_
      unfold rP
      rcases Int.lt_or_le (rQ n N1 D x) (rQ n N2 D x) with hlt | hge
      · have hC := b3 (by omega)
        have : ((rQ n N1 D x - leastN n).toNat + 1) * 2 ^ fN n ≤ (rQ n N2 D x - leastN n).toNat * 2 ^ fN n := Nat.mul_le_mul_right _ (by omega)
        rw [Nat.add_mul] at this
        omega
      · have he : rQ n N1 D x = rQ n N2 D x := by omega
        rw [he]
        refine Nat.add_le_add_left ?_ _
        by_cases hX : rX n N1 D x = rX n N2 D x
        · unfold rC; rw [he, hX]; exact nrC_mono h hD
        · -- the first one lies below a quarter of the unit
          have hlow : ld N1 D + rX n N1 D x = leastN n - 2 := by
            unfold rX wiZ at hX ⊢
            unfold rQ rX wiZ at htop
            omega
          have hQ1 : rQ n N1 D x = leastN n := by unfold rQ; omega
          have t1 := nr_tiny (d := d) (s := false) h1 hD (k := rX n N1 D x - rQ n N1 D x) (by omega)
          have e1 : rC n d false N1 D x = if tnB d false then 1 else 0 := by
            unfold rC nrC; rw [t1.1, t1.2.1]
          rw [e1]
          by_cases ht : tnB d false = true
          · rw [if_pos ht]
            have hin : inB d false = true ∧ d ≠ 0 ∧ d ≠ 1 := by
              unfold tnB at ht
              split at ht
              · cases ht
              · rename_i hh; exact ⟨ht, by omega, by omega⟩
            unfold rC nrC
            by_cases hz : nrQ N2 D (rX n N2 D x - rQ n N2 D x) = 0
            · have hr : nrR N2 D (rX n N2 D x - rQ n N2 D x) ≠ 0 := by
                intro hr
                have := Nat.div_add_mod (N2 * 2 ^ (rX n N2 D x - rQ n N2 D x).toNat) (D * 2 ^ (-(rX n N2 D x - rQ n N2 D x)).toNat)
                unfold nrQ at hz
                unfold nrR at hr
                rw [hz, hr] at this
                have h3 : N2 * 2 ^ (rX n N2 D x - rQ n N2 D x).toNat ≠ 0 := Nat.mul_ne_zero h2 (Nat.pos_iff_ne_zero.1 (Nat.two_pow_pos _))
                simp at this
                omega
              have : nrF d false N2 D (rX n N2 D x - rQ n N2 D x) = true := by
                unfold nrF faB
                rw [if_neg hr, if_neg hin.2.1, if_neg hin.2.2, hin.1]
              rw [if_pos this]; omega
            · split <;> omega
          · rw [if_neg ht]; omega
def whC (d : Int) (s : Bool) (A B : Nat) : Nat := if faB d s (decide (A / B % 2 = 1)) (A % B) B then A / B + 1 else A / B
theorem sc_frac (N D a b : Nat) {n : Int} (h : (a : Int) - b = n) : ∃ κ, N * 2 ^ a = N * 2 ^ n.toNat * 2 ^ κ ∧ D * 2 ^ b = D * 2 ^ (-n).toNat * 2 ^ κ := by
  refine ⟨a - n.toNat, ?_, ?_⟩
  · rw [Nat.mul_assoc, ← Nat.pow_add]; congr 2; omega
  · rw [Nat.mul_assoc, ← Nat.pow_add]; congr 2; omega
theorem fa_sc (d : Int) (s o : Bool) (R D k : Nat) (hk : 0 < k) : faB d s o (R * k) (D * k) = faB d s o R D := by
  have e1 : R * k = 0 ↔ R = 0 := by rw [Nat.mul_eq_zero]; omega
  have e2 : D * k < R * k + R * k ↔ D < R + R := by rw [← Nat.add_mul]; exact Nat.mul_lt_mul_right hk
  have e3 : R * k + R * k = D * k ↔ R + R = D := by rw [← Nat.add_mul]; exact Nat.mul_right_cancel_iff hk
  have e4 : D * k ≤ R * k + R * k ↔ D ≤ R + R := by rw [← Nat.add_mul]; exact Nat.mul_le_mul_right_iff hk
  unfold faB
  simp only [e1, e2, e3, e4]
theorem wh_sc (d : Int) (s : Bool) (N D a b : Nat) {n : Int} (h : (a : Int) - b = n) : whC d s (N * 2 ^ a) (D * 2 ^ b) = nrC d s N D n ∧ (N * 2 ^ a % (D * 2 ^ b) = 0 ↔ nrR N D n = 0) := by
  obtain ⟨κ, e1, e2⟩ := sc_frac N D a b h
  have hk := Nat.two_pow_pos κ
  rw [e1, e2]
  unfold whC nrC nrF nrQ nrR
  rw [Nat.mul_div_mul_right _ _ hk, Nat.mul_mod_mul_right, fa_sc d s _ _ _ _ hk]
  refine ⟨rfl, ?_⟩
  rw [Nat.mul_eq_zero]; omega
theorem bl_shift {V : Nat} (h : V ≠ 0) (a : Nat) : bl (V * 2 ^ a) = bl V + a := by
  obtain ⟨h1, h2, h3⟩ := bl_bd h
  refine bl_eq ?_ ?_
  · rw [show bl V + a - 1 = (bl V - 1) + a by omega, Nat.pow_add]
    exact Nat.mul_le_mul_right _ h1
  · rw [Nat.pow_add]
    exact Nat.mul_lt_mul_of_pos_right h2 (Nat.two_pow_pos _)
theorem ld_shift {N D : Nat} (hN : N ≠ 0) (hD : D ≠ 0) (a b : Nat) : ld (N * 2 ^ a) (D * 2 ^ b) = ld N D + ((a : Int) - b) := by
  unfold ld
  dsimp only
  rw [bl_shift hN, bl_shift hD]
  obtain ⟨p, hp⟩ : ∃ p : Int, (bl N : Int) - bl D = p := ⟨_, rfl⟩
  obtain ⟨p', hp'⟩ : ∃ p' : Int, ((bl N + a : Nat) : Int) - ((bl D + b : Nat) : Int) = p' := ⟨_, rfl⟩
  rw [hp, hp']
  have hpp : p' = p + ((a : Int) - b) := by omega
  obtain ⟨κ, e1, e2⟩ := sc_frac N D (a + (-p').toNat) (b + p'.toNat) (n := -p) (by omega)
  rw [Nat.pow_add, ← Nat.mul_assoc] at e1 e2
  rw [Int.neg_neg] at e2
  rw [e1, e2]
  have hk := Nat.two_pow_pos κ
  by_cases h : N * 2 ^ (-p).toNat < D * 2 ^ p.toNat
  · rw [if_pos h, if_pos (Nat.mul_lt_mul_of_pos_right h hk)]; omega
  · rw [if_neg h, if_neg (fun hh => h (Nat.lt_of_mul_lt_mul_right hh))]; omega
theorem nr_shift (d : Int) (s : Bool) (N D a b : Nat) (k : Int) : nrC d s (N * 2 ^ a) (D * 2 ^ b) k = nrC d s N D (k + ((a : Int) - b)) ∧ (nrR (N * 2 ^ a) (D * 2 ^ b) k = 0 ↔ nrR N D (k + ((a : Int) - b)) = 0) := by
  have h := wh_sc d s N D (a + k.toNat) (b + (-k).toNat) (n := k + ((a : Int) - b)) (by omega)
  rw [Nat.pow_add, Nat.pow_add, ← Nat.mul_assoc, ← Nat.mul_assoc] at h
  exact h
theorem rX_shift {n : Int} {N D : Nat} (hN : N ≠ 0) (hD : D ≠ 0) (a b : Nat) (x : Int) : rX n (N * 2 ^ a) (D * 2 ^ b) x = rX n N D (x + ((a : Int) - b)) - ((a : Int) - b) := by
  unfold rX wiZ
  rw [ld_shift hN hD]
  omega
theorem rd_shift (n d : Int) (s : Bool) (N : Nat) {D : Nat} (hD : D ≠ 0) (a b : Nat) (x : Int) : rdV n d s (N * 2 ^ a) (D * 2 ^ b) x = rdV n d s N D (x + ((a : Int) - b)) ∧ rdF n d s (N * 2 ^ a) (D * 2 ^ b) x = rdF n d s N D (x + ((a : Int) - b)) := by
  by_cases hN : N = 0
  · subst hN
    rw [Nat.zero_mul]
    unfold rdV rdF
    rw [if_pos rfl, if_pos rfl, if_pos rfl, if_pos rfl]
    exact ⟨rfl, rfl⟩
  have hN' : N * 2 ^ a ≠ 0 := Nat.mul_ne_zero hN (Nat.pos_iff_ne_zero.1 (Nat.two_pow_pos _))
  have eX := rX_shift (n := n) hN hD a b x
  have eL := ld_shift hN hD a b
  have eQ : rQ n (N * 2 ^ a) (D * 2 ^ b) x = rQ n N D (x + ((a : Int) - b)) := by
    unfold rQ; rw [eX, eL]; congr 1; omega
  have hk := nr_shift d s N D a b (rX n (N * 2 ^ a) (D * 2 ^ b) x - rQ n (N * 2 ^ a) (D * 2 ^ b) x)
  rw [show rX n (N * 2 ^ a) (D * 2 ^ b) x - rQ n (N * 2 ^ a) (D * 2 ^ b) x + ((a : Int) - b) = rX n N D (x + ((a : Int) - b)) - rQ n N D (x + ((a : Int) - b)) by rw [eX, eQ]; omega] at hk
  have eC : rC n d s (N * 2 ^ a) (D * 2 ^ b) x = rC n d s N D (x + ((a : Int) - b)) := hk.1
  have eC' : rC' n d s (N * 2 ^ a) (D * 2 ^ b) x = rC' n d s N D (x + ((a : Int) - b)) := by unfold rC'; rw [eC]
  have eQ' : rQ' n d s (N * 2 ^ a) (D * 2 ^ b) x = rQ' n d s N D (x + ((a : Int) - b)) := by unfold rQ'; rw [eC, eQ]
  have eS : ld (N * 2 ^ a) (D * 2 ^ b) + rX n (N * 2 ^ a) (D * 2 ^ b) x = ld N D + rX n N D (x + ((a : Int) - b)) := by rw [eX, eL]; omega
  unfold rdV rdF
  rw [if_neg hN, if_neg hN, if_neg hN', if_neg hN', eC', eQ', eS]
  refine ⟨rfl, ?_⟩
  simp only [hk.2]
section
theorem A4_self (B : Nat) (w : World) : Sem.run Tryd.prog (Op.equalIn 10000 24 (A4 B) (A4 B)) w = .ok true w := by
  have := eq24 (W4 B 0) (W4 B 1) (W4 B 2) (W4 B 3) (W4 B 0) (W4 B 1) (W4 B 2) (W4 B 3) w
  rw [decide_eq_true ⟨rfl, rfl, rfl, rfl⟩] at this
  exact this
theorem DV_self (c : Int) (s g : Bool) (x : Int) (k : Nat) (w : World) : Sem.run Tryd.prog (Op.equalIn 10000 30 (DV c s g x k) (DV c s g x k)) w = .ok true w := by
  have := eq27 c c s s g g x x (W4 k 0) (W4 k 1) (W4 k 2) (W4 k 3) (W4 k 0) (W4 k 1) (W4 k 2) (W4 k 3) w
  rw [decide_eq_true ⟨rfl, rfl, rfl, rfl, rfl, rfl, rfl, rfl⟩] at this
  exact this
attribute [local irreducible] W4 Nt
end
section
theorem rdir12 (d : Int) (w : World) : Calls Tryd.prog 11 #[.int .i64 d] w fun e w' => e = .returned (.bool (decide (knB d))) ∧ w = w' := by
  by_cases h0 : 0 ≤ d
  · by_cases h4 : d ≤ 4
    · have e : decide (knB d) = true := by unfold knB; simp [h0, h4]
      rw [e]
      go_enter Tryd.func11, Tryd.ntmps11
      go_wp2
      go_ret
      exact ⟨by simp [h0, h4], rfl⟩
    · have e : decide (knB d) = false := by unfold knB; simp [h0, h4]
      rw [e]
      go_enter Tryd.func11, Tryd.ntmps11
      go_wp2
      go_ret
      exact ⟨by simp [h0, h4], rfl⟩
  · have e : decide (knB d) = false := by unfold knB; simp [h0]
    rw [e]
    go_enter Tryd.func11, Tryd.ntmps11
    go_wp2
    go_ret
    exact ⟨by simp [h0], rfl⟩
set_option maxHeartbeats 1000000 in
theorem rholds_v (f g : Int) (w : World) :
    Calls Tryd.prog 10 #[.int .i64 f, .int .i64 g] w fun e w' => e = .returned (.bool (decide (holdsP f g))) ∧ Below w.heap.size w w' := by
  have c1 := fun w => rofv_any f w
  have c2 := fun w => rofv_any g w
  have f1 := fields_bounds f
  have f2 := fields_bounds g
  refine holds_ways f g (fun b => Calls Tryd.prog 10 #[.int .i64 f, .int .i64 g] w fun e w' => e = .returned (.bool b) ∧ Below w.heap.size w w') ?_ ?_ ?_ ?_ ?_ ?_ ?_
  all_goals
    generalize baseN f = bf, baseN g = bg, precN f = pf, precN g = pg, leastN f = lf, leastN g = lg, mostN f = mf, mostN g = mg, infoE f = ef, infoE g = eg, numN f = nf, numN g = ng, nameN f = sf, nameN g = sg, widthN f = wf, widthN g = wg, expN f = xf, expN g = xg, payN f = yf, payN g = yg, denseN f = df, denseN g = dg at *
    intros
    try subst ef
    try subst eg
    go_enter Tryd.func10, Tryd.ntmps10
    go_wp2_with (first
      | (go_at_call 19; have hgo := hB.size; refine (c2 _).mono ?_; rintro e w2 ⟨rfl, hb2⟩; have hlt := lt_allocI hb2; obtain ⟨q2, q4, q6, q7⟩ := four_cells hb2)
      | (go_at_call 19; refine (c1 _).mono ?_; rintro e w1 ⟨rfl, hb⟩; have hB := hb.alloc hb.size (.cells #[.int .i64 nf, .string sf, .int .i64 bf, .int .i64 wf, .int .i64 pf, .int .i64 xf, .int .i64 lf, .int .i64 mf, .int .i64 yf, .bool df] 45)))
    go_ret
    refine ⟨?_, (hB.trans (hb2.mono hB.size)).alloc (Nat.le_trans hB.size hb2.size) _⟩
    first
      | rfl
      | (show Ending.returned (.bool (decide (mf + pf ≤ mg + pg))) = _; rw [decide_eq_false (by omega)])
      | (show Ending.returned (.bool (decide (mf + pf ≤ mg + pg))) = _; rw [decide_eq_true (by omega)])
end
end Go.Proofs.YtiojbgdfmabjdaaDoor
