/-
  Texts that the proof leans on, joined: Tb, Te, Wm, Xm, Sa, Wa.
-/
import Derived.Test.YtoobncgmcnmgjaaGreatDoorL20
import Derived.Test.YtoobncgmcnmgjaaGreatDoorL1
import Derived.Test.YtoobncgmcnmgjaaGreatDoorL8
import Derived.Test.YtoobncgmcnmgjaaGreatDoorL3
import Derived.Test.YtoobncgmcnmgjaaGreatDoorL4
set_option linter.unusedVariables false
set_option linter.unusedSectionVars false
set_option linter.unusedSimpArgs false
set_option maxRecDepth 20000
namespace Go.Proofs.YtoobncgmcnmgjaaGreatDoor
open Go.RowKit

/-! the other sign -/
def othD (d : Int) : Int := if d = 3 ∨ d = 4 then 7 - d else d
theorem in_turn (d : Int) : inB (othD d) true = inB d false := by
  unfold othD inB
  by_cases h3 : d = 3
  · subst h3; rfl
  · by_cases h4 : d = 4
    · subst h4; rfl
    · simp only [h3, h4, or_self, if_false]
theorem fa_turn (d : Int) (o : Bool) (R D : Nat) : faB (othD d) true o R D = faB d false o R D := by
  unfold faB
  rw [in_turn]
  unfold othD
  by_cases h3 : d = 3
  · subst h3; rfl
  · by_cases h4 : d = 4
    · subst h4; rfl
    · simp only [h3, h4, or_self, if_false]
theorem nrF_turn (d : Int) (N D : Nat) (k : Int) : nrF (othD d) true N D k = nrF d false N D k := fa_turn d _ _ _
theorem rC_turn (n d : Int) (N D : Nat) (x : Int) : rC n (othD d) true N D x = rC n d false N D x := by unfold rC nrC; rw [nrF_turn]
theorem rP_turn (n d : Int) (N D : Nat) (x : Int) : rP n (othD d) true N D x = rP n d false N D x := by unfold rP; rw [rC_turn]
theorem rd_turn {n : Int} (d : Int) (N : Nat) {D : Nat} (x : Int) (hb : binN n) (hD : D ≠ 0) : rdV n (othD d) true N D x = rdV n d false N D x + 2 ^ (fN n + eN n) ∧ rdF n (othD d) true N D x = rdF n d false N D x ∧ rdV n d false N D x < 2 ^ (fN n + eN n) := by
  by_cases hN : N = 0
  · subst hN
    rw [(r_zero (othD d) true D x hb).1, (r_zero (othD d) true D x hb).2, (r_zero d false D x hb).1, (r_zero d false D x hb).2]
    have := Nat.two_pow_pos (fN n + eN n)
    unfold sgN
    simp only [if_true, Bool.false_eq_true, if_false]
    exact ⟨by omega, trivial, by omega⟩
  · rw [r_pat (othD d) true x hb hN hD, r_pat d false x hb hN hD, r_flag (othD d) true x hb hN hD, r_flag d false x hb hN hD, rP_turn, in_turn]
    unfold sgN
    simp only [if_true, Bool.false_eq_true, if_false, Nat.add_zero]
    exact ⟨trivial, trivial, Nat.lt_of_le_of_lt (cap_le _ _ _) (tp_lt hb)⟩
/-! a number of the format -/
theorem ld_mul {k b : Nat} (hk : k ≠ 0) (hb : b ≠ 0) : ld (k * b) b = (bl k : Int) - 1 := by
  obtain ⟨k1, k2, k3⟩ := bl_bd hk
  have hkb : k * b ≠ 0 := Nat.mul_ne_zero hk hb
  obtain ⟨K, hK⟩ : ∃ K : Nat, K = bl b + 2 + bl (k * b) := ⟨_, rfl⟩
  obtain ⟨h1, h2⟩ := ld_bd hkb hb K (by omega)
  have hl : (bl (k * b) : Int) - bl b - 1 ≤ ld (k * b) b ∧ ld (k * b) b ≤ (bl (k * b) : Int) - bl b := by
    unfold ld; dsimp only; split <;> omega
  have hbp : 0 < b := Nat.pos_of_ne_zero hb
  rw [Nat.mul_right_comm, Nat.mul_comm (k * 2 ^ K) b] at h1 h2
  have h1' := Nat.le_of_mul_le_mul_left h1 hbp
  have h2' := Nat.lt_of_mul_lt_mul_left h2
  have a1 : 2 ^ ((K : Int) + ld (k * b) b).toNat < 2 ^ (bl k + K) := by
    rw [Nat.pow_add]
    exact Nat.lt_of_le_of_lt h1' (Nat.mul_lt_mul_of_pos_right k2 (Nat.two_pow_pos _))
  have a2 : 2 ^ (bl k - 1 + K) < 2 ^ ((K : Int) + ld (k * b) b + 1).toNat := by
    rw [Nat.pow_add]
    exact Nat.lt_of_le_of_lt (Nat.mul_le_mul_right _ k1) h2'
  have b1 := (Nat.pow_lt_pow_iff_right (by decide : 1 < 2)).1 a1
  have b2 := (Nat.pow_lt_pow_iff_right (by decide : 1 < 2)).1 a2
  omega
theorem keep_eq {n : Int} (d : Int) {s : Bool} {q : Int} {k b : Nat} (hbn : binN n) (h : isD (fN n) (leastN n) (mostN n) ⟨1, s, false, q, k⟩) (hb : b ≠ 0) : rdV n d s (k * b) b q = pkV n ⟨1, s, false, q, k⟩ ∧ rdF n d s (k * b) b q = 0 := by
  rw [pk_fin hbn h]
  have hF := bin_fm hbn
  have hp := pow_e hF.e2 hF.e15
  have hm := hF.m
  rcases h with ⟨_, _, hk1, hx1, hx2, hx3⟩ | ⟨hc, _⟩ | ⟨hc, _⟩
  · dsimp only at hk1 hx1 hx2 hx3
    by_cases hk : k = 0
    · subst hk
      rw [Nat.zero_mul, (r_zero d s b q hbn).1, (r_zero d s b q hbn).2]
      have : q = leastN n := by
        rcases hx3 with h | h
        · have := Nat.two_pow_pos (fN n); omega
        · exact h
      rw [this]; simp
    · have hkb : k * b ≠ 0 := Nat.mul_ne_zero hk hb
      have hL := ld_mul hk hb
      obtain ⟨k1, k2, k3⟩ := bl_bd hk
      have hbl : bl k ≤ fN n + 1 := bl_le.2 hk1
      have hX : rX n (k * b) b q = q := by
        unfold rX wiZ; rw [hL]; omega
      have hQ : rQ n (k * b) b q = q := by
        unfold rQ; rw [hX, hL]
        rcases hx3 with h | h
        · have : fN n < bl k := bl_ge.2 h
          omega
        · omega
      have hq0 : nrQ (k * b) b (q - q) = k ∧ nrR (k * b) b (q - q) = 0 := by
        unfold nrQ nrR
        rw [Int.sub_self]
        simp
        exact Nat.mul_div_cancel _ (Nat.pos_of_ne_zero hb)
      have hFF : nrF d s (k * b) b (q - q) = false := by
        unfold nrF faB; rw [hq0.2]; rfl
      have hPP : rP n d s (k * b) b q = (q - leastN n).toNat * 2 ^ fN n + k := by
        rw [rP_eq]; unfold rB; rw [hX, hQ, hFF, hq0.1]; simp
      have hno : ¬ tpN n ≤ rP n d s (k * b) b q := by
        rw [hPP]
        unfold tpN
        have hpc : ((2 : Int) ^ eN n) = ((2 ^ eN n : Nat) : Int) := by simp
        rw [hpc] at hp hm
        rw [Nat.pow_succ] at hk1
        have h3 : ((q - leastN n).toNat + 2) * 2 ^ fN n ≤ (2 ^ eN n - 1) * 2 ^ fN n := Nat.mul_le_mul_right _ (by omega)
        rw [Nat.add_mul] at h3
        omega
      rw [r_pat d s q hbn hkb hb, r_flag d s q hbn hkb hb]
      unfold capV
      rw [if_neg hno, if_neg hno, hPP, hX, hQ, hq0.2]
      exact ⟨rfl, rfl⟩
  · exact absurd (show (1 : Int) = 2 from hc) (by decide)
  · exact absurd (show (1 : Int) = 3 from hc) (by decide)
end Go.Proofs.YtoobncgmcnmgjaaGreatDoor

namespace Go.Proofs.YtoobncgmcnmgjaaGreatDoor
open Go.RowKit

theorem fa_mono {d : Int} {s o : Bool} {R1 R2 D : Nat} (h : R1 ≤ R2) (hf : faB d s o R1 D = true) : faB d s o R2 D = true := by
  unfold faB at hf ⊢
  by_cases h1 : R1 = 0
  · rw [if_pos h1] at hf; cases hf
  · rw [if_neg h1] at hf
    rw [if_neg (by omega)]
    by_cases h0 : d = 0
    · rw [if_pos h0] at hf ⊢
      simp only [Bool.or_eq_true, Bool.and_eq_true, decide_eq_true_eq] at hf ⊢
      rcases hf with hf | ⟨hf, ho⟩
      · left; omega
      · by_cases e : R2 + R2 = D
        · exact Or.inr ⟨e, ho⟩
        · left; omega
    · rw [if_neg h0] at hf ⊢
      by_cases h2 : d = 1
      · rw [if_pos h2] at hf ⊢
        simp only [decide_eq_true_eq] at hf ⊢
        omega
      · rw [if_neg h2] at hf ⊢; exact hf
theorem nrC_mono {d : Int} {s : Bool} {N1 N2 D : Nat} {k : Int} (h : N1 ≤ N2) (hD : D ≠ 0) : nrC d s N1 D k ≤ nrC d s N2 D k := by
  have hB : 0 < D * 2 ^ (-k).toNat := Nat.mul_pos (Nat.pos_of_ne_zero hD) (Nat.two_pow_pos _)
  have hA : N1 * 2 ^ k.toNat ≤ N2 * 2 ^ k.toNat := Nat.mul_le_mul_right _ h
  unfold nrC nrF nrQ nrR
  generalize N1 * 2 ^ k.toNat = A1 at *
  generalize N2 * 2 ^ k.toNat = A2 at *
  generalize D * 2 ^ (-k).toNat = M at *
  have hq : A1 / M ≤ A2 / M := Nat.div_le_div_right hA
  rcases Nat.lt_or_ge (A1 / M) (A2 / M) with h1 | h1
  · split <;> split <;> omega
  · have e : A1 / M = A2 / M := by omega
    have d1 := Nat.div_add_mod A1 M
    have d2 := Nat.div_add_mod A2 M
    rw [e] at d1 ⊢
    have hr : A1 % M ≤ A2 % M := by omega
    by_cases hf : faB d s (decide (A2 / M % 2 = 1)) (A1 % M) M = true
    · rw [if_pos hf, if_pos (fa_mono hr hf)]; exact Nat.le_refl _
    · rw [if_neg hf]; split <;> omega
theorem ld_mono {N1 N2 D : Nat} (h : N1 ≤ N2) (h1 : N1 ≠ 0) (hD : D ≠ 0) : ld N1 D ≤ ld N2 D := by
  have h2 : N2 ≠ 0 := by omega
  obtain ⟨K, hK⟩ : ∃ K : Nat, K = bl D + 2 + bl N1 + bl N2 := ⟨_, rfl⟩
  have b1 := (ld_bd h1 hD K (by omega)).1
  have b2 := (ld_bd h2 hD K (by omega)).2
  have hc : N1 * 2 ^ K ≤ N2 * 2 ^ K := Nat.mul_le_mul_right _ h
  have hlt : D * 2 ^ ((K : Int) + ld N1 D).toNat < D * 2 ^ ((K : Int) + ld N2 D + 1).toNat := by omega
  have := (Nat.pow_lt_pow_iff_right (by decide : 1 < 2)).1 (Nat.lt_of_mul_lt_mul_left hlt)
  have hl1 : (bl N1 : Int) - bl D - 1 ≤ ld N1 D := by unfold ld; dsimp only; split <;> omega
  have hl2 : (bl N2 : Int) - bl D - 1 ≤ ld N2 D := by unfold ld; dsimp only; split <;> omega
  omega
/-- what lies below a quarter -/
def tnB (d : Int) (s : Bool) : Bool := if d = 0 ∨ d = 1 then false else inB d s
theorem nr_tiny {d : Int} {s : Bool} {N D : Nat} {k : Int} (hN : N ≠ 0) (hD : D ≠ 0) (h : ld N D + k ≤ -2) : nrQ N D k = 0 ∧ nrF d s N D k = tnB d s ∧ nrR N D k ≠ 0 := by
  have key : N * 2 * 2 ^ k.toNat < D * 2 ^ (-k).toNat := by
    obtain ⟨K, hK⟩ : ∃ K : Nat, K = bl D + 1 + k.natAbs := ⟨_, rfl⟩
    obtain ⟨K1, hK1⟩ : ∃ K1 : Nat, (K1 : Int) = (K : Int) + k := ⟨((K : Int) + k).toNat, by omega⟩
    have key := cmp_sc (N * 2) D k K (by omega)
    rw [show ((K : Int) + k).toNat = K1 by omega] at key
    have hb := (ld_bd hN hD K1 (by omega)).2
    have hl1 : -(bl D : Int) ≤ ld N D := by
      have := (bl_bd hN).2.2
      unfold ld; dsimp only; split <;> omega
    refine key.2 ?_
    have h2 : D * 2 ^ (((K1 : Int) + ld N D + 1).toNat + 1) ≤ D * 2 ^ K := Nat.mul_le_mul_left _ (Nat.pow_le_pow_right (by decide) (by omega))
    rw [Nat.pow_succ, ← Nat.mul_assoc] at h2
    rw [Nat.mul_right_comm]
    omega
  have hA : N * 2 ^ k.toNat ≠ 0 := Nat.mul_ne_zero hN (Nat.pos_iff_ne_zero.1 (Nat.two_pow_pos _))
  rw [Nat.mul_right_comm] at key
  unfold nrF nrQ nrR
  generalize N * 2 ^ k.toNat = A at *
  generalize D * 2 ^ (-k).toNat = M at *
  have e1 : A / M = 0 := Nat.div_eq_of_lt (by omega)
  have e2 : A % M = A := Nat.mod_eq_of_lt (by omega)
  rw [e1, e2]
  refine ⟨rfl, ?_, hA⟩
  unfold faB tnB
  rw [if_neg hA]
  by_cases h0 : d = 0
  · rw [if_pos h0, if_pos (Or.inl h0), decide_eq_false (by omega), decide_eq_false (by omega)]; rfl
  · rw [if_neg h0]
    by_cases h1 : d = 1
    · rw [if_pos h1, if_pos (Or.inr h1), decide_eq_false (by omega)]
    · rw [if_neg h1, if_neg (by omega)]
theorem cap_top (T : Nat) (i : Bool) (p q : Nat) (h : T ≤ q) : capV T i p ≤ capV T i q := by
  unfold capV
  rw [if_pos h]
  split
  · exact Nat.le_refl _
  · split <;> omega
theorem cap_mono (T : Nat) (i : Bool) {p q : Nat} (h : p ≤ q) : capV T i p ≤ capV T i q := by
  by_cases hq : T ≤ q
  · exact cap_top T i p q hq
  · unfold capV; rw [if_neg hq, if_neg (by omega)]; exact h
theorem rd_mono {n : Int} (d : Int) (N1 N2 : Nat) {D : Nat} (x : Int) (hb : binN n) (hD : D ≠ 0) (h : N1 ≤ N2) : rdV n d false N1 D x ≤ rdV n d false N2 D x := by
  by_cases h1 : N1 = 0
  · subst h1
    rw [(r_zero d false D x hb).1]
    unfold sgN; simp
  · have h2 : N2 ≠ 0 := by omega
    rw [r_pat d false x hb h1 hD, r_pat d false x hb h2 hD]
    refine Nat.add_le_add_right ?_ _
    have hL := ld_mono h h1 hD
    obtain ⟨a1, a2, a3, _⟩ := r_coef d false x hb h1 hD
    obtain ⟨b1, b2, b3, _⟩ := r_coef d false x hb h2 hD
    have hF := bin_fm hb
    have hp := pow_e hF.e2 hF.e15
    have hm := hF.m
    have hpc : ((2 : Int) ^ eN n) = ((2 ^ eN n : Nat) : Int) := by simp
    rw [hpc] at hp hm
    have hq : rQ n N1 D x ≤ rQ n N2 D x := by unfold rQ rX wiZ; omega
    have hFp : 0 < 2 ^ fN n := Nat.two_pow_pos _
    rw [show 2 ^ (fN n + 1) = 2 ^ fN n + 2 ^ fN n by rw [Nat.pow_succ]; omega] at a2 b2
    by_cases htop : mostN n < rQ n N2 D x
    · refine cap_top _ _ _ _ ?_
      have hC := b3 (by omega)
      unfold tpN rP
      have : (2 ^ eN n - 1) * 2 ^ fN n ≤ ((rQ n N2 D x - leastN n).toNat + 1) * 2 ^ fN n := Nat.mul_le_mul_right _ (by omega)
      rw [Nat.add_mul] at this
      omega
    · refine cap_mono _ _ ?_
      unfold rP
      rcases Int.lt_or_le (rQ n N1 D x) (rQ n N2 D x) with hlt | hge
      · have hC := b3 (by omega)
        have : ((rQ n N1 D x - leastN n).toNat + 1) * 2 ^ fN n ≤ (rQ n N2 D x - leastN n).toNat * 2 ^ fN n := Nat.mul_le_mul_right _ (by omega)
        rw [Nat.add_mul] at this
        omega
      · have he : rQ n N1 D x = rQ n N2 D x := by omega
        rw [he]
        refine Nat.add_le_add_left ?_ _
        by_cases hX : rX n N1 D x = rX n N2 D x
        · unfold rC; rw [he, hX]; exact nrC_mono h hD
        · -- the first one lies below a quarter of the unit
          have hlow : ld N1 D + rX n N1 D x = leastN n - 2 := by
            unfold rX wiZ at hX ⊢
            unfold rQ rX wiZ at htop
            omega
          have hQ1 : rQ n N1 D x = leastN n := by unfold rQ; omega
          have t1 := nr_tiny (d := d) (s := false) h1 hD (k := rX n N1 D x - rQ n N1 D x) (by omega)
          have e1 : rC n d false N1 D x = if tnB d false then 1 else 0 := by
            unfold rC nrC; rw [t1.1, t1.2.1]
          rw [e1]
          by_cases ht : tnB d false = true
          · rw [if_pos ht]
            have hin : inB d false = true ∧ d ≠ 0 ∧ d ≠ 1 := by
              unfold tnB at ht
              split at ht
              · cases ht
              · rename_i hh; exact ⟨ht, by omega, by omega⟩
            unfold rC nrC
            by_cases hz : nrQ N2 D (rX n N2 D x - rQ n N2 D x) = 0
            · have hr : nrR N2 D (rX n N2 D x - rQ n N2 D x) ≠ 0 := by
                intro hr
                have := Nat.div_add_mod (N2 * 2 ^ (rX n N2 D x - rQ n N2 D x).toNat) (D * 2 ^ (-(rX n N2 D x - rQ n N2 D x)).toNat)
                unfold nrQ at hz
                unfold nrR at hr
                rw [hz, hr] at this
                have h3 : N2 * 2 ^ (rX n N2 D x - rQ n N2 D x).toNat ≠ 0 := Nat.mul_ne_zero h2 (Nat.pos_iff_ne_zero.1 (Nat.two_pow_pos _))
                simp at this
                omega
              have : nrF d false N2 D (rX n N2 D x - rQ n N2 D x) = true := by
                unfold nrF faB
                rw [if_neg hr, if_neg hin.2.1, if_neg hin.2.2, hin.1]
              rw [if_pos this]; omega
            · split <;> omega
          · rw [if_neg ht]; omega
end Go.Proofs.YtoobncgmcnmgjaaGreatDoor

namespace Go.Proofs.YtoobncgmcnmgjaaGreatDoor
open Go.RowKit

def whC (d : Int) (s : Bool) (A B : Nat) : Nat := if faB d s (decide (A / B % 2 = 1)) (A % B) B then A / B + 1 else A / B
theorem sc_frac (N D a b : Nat) {n : Int} (h : (a : Int) - b = n) : ∃ κ, N * 2 ^ a = N * 2 ^ n.toNat * 2 ^ κ ∧ D * 2 ^ b = D * 2 ^ (-n).toNat * 2 ^ κ := by
  refine ⟨a - n.toNat, ?_, ?_⟩
  · rw [Nat.mul_assoc, ← Nat.pow_add]; congr 2; omega
  · rw [Nat.mul_assoc, ← Nat.pow_add]; congr 2; omega
theorem fa_sc (d : Int) (s o : Bool) (R D k : Nat) (hk : 0 < k) : faB d s o (R * k) (D * k) = faB d s o R D := by
  have e1 : R * k = 0 ↔ R = 0 := by rw [Nat.mul_eq_zero]; omega
  have e2 : D * k < R * k + R * k ↔ D < R + R := by rw [← Nat.add_mul]; exact Nat.mul_lt_mul_right hk
  have e3 : R * k + R * k = D * k ↔ R + R = D := by rw [← Nat.add_mul]; exact Nat.mul_right_cancel_iff hk
  have e4 : D * k ≤ R * k + R * k ↔ D ≤ R + R := by rw [← Nat.add_mul]; exact Nat.mul_le_mul_right_iff hk
  unfold faB
  simp only [e1, e2, e3, e4]
theorem wh_sc (d : Int) (s : Bool) (N D a b : Nat) {n : Int} (h : (a : Int) - b = n) : whC d s (N * 2 ^ a) (D * 2 ^ b) = nrC d s N D n ∧ (N * 2 ^ a % (D * 2 ^ b) = 0 ↔ nrR N D n = 0) := by
  obtain ⟨κ, e1, e2⟩ := sc_frac N D a b h
  have hk := Nat.two_pow_pos κ
  rw [e1, e2]
  unfold whC nrC nrF nrQ nrR
  rw [Nat.mul_div_mul_right _ _ hk, Nat.mul_mod_mul_right, fa_sc d s _ _ _ _ hk]
  refine ⟨rfl, ?_⟩
  rw [Nat.mul_eq_zero]; omega
theorem bl_shift {V : Nat} (h : V ≠ 0) (a : Nat) : bl (V * 2 ^ a) = bl V + a := by
  obtain ⟨h1, h2, h3⟩ := bl_bd h
  refine bl_eq ?_ ?_
  · rw [show bl V + a - 1 = (bl V - 1) + a by omega, Nat.pow_add]
    exact Nat.mul_le_mul_right _ h1
  · rw [Nat.pow_add]
    exact Nat.mul_lt_mul_of_pos_right h2 (Nat.two_pow_pos _)
theorem ld_shift {N D : Nat} (hN : N ≠ 0) (hD : D ≠ 0) (a b : Nat) : ld (N * 2 ^ a) (D * 2 ^ b) = ld N D + ((a : Int) - b) := by
  unfold ld
  dsimp only
  rw [bl_shift hN, bl_shift hD]
  obtain ⟨p, hp⟩ : ∃ p : Int, (bl N : Int) - bl D = p := ⟨_, rfl⟩
  obtain ⟨p', hp'⟩ : ∃ p' : Int, ((bl N + a : Nat) : Int) - ((bl D + b : Nat) : Int) = p' := ⟨_, rfl⟩
  rw [hp, hp']
  have hpp : p' = p + ((a : Int) - b) := by omega
  obtain ⟨κ, e1, e2⟩ := sc_frac N D (a + (-p').toNat) (b + p'.toNat) (n := -p) (by omega)
  rw [Nat.pow_add, ← Nat.mul_assoc] at e1 e2
  rw [Int.neg_neg] at e2
  rw [e1, e2]
  have hk := Nat.two_pow_pos κ
  by_cases h : N * 2 ^ (-p).toNat < D * 2 ^ p.toNat
  · rw [if_pos h, if_pos (Nat.mul_lt_mul_of_pos_right h hk)]; omega
  · rw [if_neg h, if_neg (fun hh => h (Nat.lt_of_mul_lt_mul_right hh))]; omega
theorem fld_bd {n : Int} (hb : binN n) : -17000 ≤ leastN n ∧ leastN n ≤ mostN n ∧ mostN n ≤ 17000 ∧ fN n ≤ 240 ∧ 1 ≤ fN n := by
  rcases bin_cases hb with rfl | rfl | rfl | rfl | rfl | rfl <;> simp [leastN, mostN, fN, precN]
end Go.Proofs.YtoobncgmcnmgjaaGreatDoor

namespace Go.Proofs.YtoobncgmcnmgjaaGreatDoor
open Go.RowKit

theorem nr_shift (d : Int) (s : Bool) (N D a b : Nat) (k : Int) : nrC d s (N * 2 ^ a) (D * 2 ^ b) k = nrC d s N D (k + ((a : Int) - b)) ∧ (nrR (N * 2 ^ a) (D * 2 ^ b) k = 0 ↔ nrR N D (k + ((a : Int) - b)) = 0) := by
  have h := wh_sc d s N D (a + k.toNat) (b + (-k).toNat) (n := k + ((a : Int) - b)) (by omega)
  rw [Nat.pow_add, Nat.pow_add, ← Nat.mul_assoc, ← Nat.mul_assoc] at h
  exact h
theorem rX_shift {n : Int} {N D : Nat} (hN : N ≠ 0) (hD : D ≠ 0) (a b : Nat) (x : Int) : rX n (N * 2 ^ a) (D * 2 ^ b) x = rX n N D (x + ((a : Int) - b)) - ((a : Int) - b) := by
  unfold rX wiZ
  rw [ld_shift hN hD]
  omega
theorem rd_shift (n d : Int) (s : Bool) (N : Nat) {D : Nat} (hD : D ≠ 0) (a b : Nat) (x : Int) : rdV n d s (N * 2 ^ a) (D * 2 ^ b) x = rdV n d s N D (x + ((a : Int) - b)) ∧ rdF n d s (N * 2 ^ a) (D * 2 ^ b) x = rdF n d s N D (x + ((a : Int) - b)) := by
  by_cases hN : N = 0
  · subst hN
    rw [Nat.zero_mul]
    unfold rdV rdF
    rw [if_pos rfl, if_pos rfl, if_pos rfl, if_pos rfl]
    exact ⟨rfl, rfl⟩
  have hN' : N * 2 ^ a ≠ 0 := Nat.mul_ne_zero hN (Nat.pos_iff_ne_zero.1 (Nat.two_pow_pos _))
  have eX := rX_shift (n := n) hN hD a b x
  have eL := ld_shift hN hD a b
  have eQ : rQ n (N * 2 ^ a) (D * 2 ^ b) x = rQ n N D (x + ((a : Int) - b)) := by
    unfold rQ; rw [eX, eL]; congr 1; omega
  have hk := nr_shift d s N D a b (rX n (N * 2 ^ a) (D * 2 ^ b) x - rQ n (N * 2 ^ a) (D * 2 ^ b) x)
  rw [show rX n (N * 2 ^ a) (D * 2 ^ b) x - rQ n (N * 2 ^ a) (D * 2 ^ b) x + ((a : Int) - b) = rX n N D (x + ((a : Int) - b)) - rQ n N D (x + ((a : Int) - b)) by rw [eX, eQ]; omega] at hk
  have eC : rC n d s (N * 2 ^ a) (D * 2 ^ b) x = rC n d s N D (x + ((a : Int) - b)) := hk.1
  have eC' : rC' n d s (N * 2 ^ a) (D * 2 ^ b) x = rC' n d s N D (x + ((a : Int) - b)) := by unfold rC'; rw [eC]
  have eQ' : rQ' n d s (N * 2 ^ a) (D * 2 ^ b) x = rQ' n d s N D (x + ((a : Int) - b)) := by unfold rQ'; rw [eC, eQ]
  have eS : ld (N * 2 ^ a) (D * 2 ^ b) + rX n (N * 2 ^ a) (D * 2 ^ b) x = ld N D + rX n N D (x + ((a : Int) - b)) := by rw [eX, eL]; omega
  unfold rdV rdF
  rw [if_neg hN, if_neg hN, if_neg hN', if_neg hN', eC', eQ', eS]
  refine ⟨rfl, ?_⟩
  simp only [hk.2]
theorem ld_ge {N D : Nat} (hN : N ≠ 0) (hD : D ≠ 0) {k : Nat} (h : D * 2 ^ k ≤ N) : (k : Int) ≤ ld N D := by
  have hb := (ld_bd hN hD (bl D + 1 + k) (by omega)).2
  have h1 : D * 2 ^ (k + (bl D + 1 + k)) ≤ N * 2 ^ (bl D + 1 + k) := by
    rw [Nat.pow_add, ← Nat.mul_assoc]; exact Nat.mul_le_mul_right _ h
  have h2 := Nat.lt_of_le_of_lt h1 hb
  have h3 := Nat.lt_of_mul_lt_mul_left h2
  have h4 := (Nat.pow_lt_pow_iff_right (by decide : 1 < 2)).1 h3
  omega
/-- the fraction of a number and a power of ten, its twos apart -/
def tN (A : Nat) (e : Int) : Nat := A * 5 ^ e.toNat
def tD (e : Int) : Nat := 5 ^ (-e).toNat
theorem tD_ne (e : Int) : tD e ≠ 0 := Nat.pos_iff_ne_zero.1 (Nat.pow_pos (by decide))
theorem p10_split (k : Nat) : 10 ^ k = 5 ^ k * 2 ^ k := by rw [← Nat.mul_pow]
/-- as the document has it: all in the fraction -/
theorem ten_shift (n d : Int) (s : Bool) (A : Nat) (e : Int) : rdV n d s (A * 10 ^ e.toNat) (10 ^ (-e).toNat) 0 = rdV n d s (tN A e) (tD e) e ∧ rdF n d s (A * 10 ^ e.toNat) (10 ^ (-e).toNat) 0 = rdF n d s (tN A e) (tD e) e := by
  have h := rd_shift n d s (tN A e) (tD_ne e) e.toNat (-e).toNat 0
  unfold tN tD at h ⊢
  rw [Nat.mul_assoc, ← p10_split, ← p10_split, show (0 : Int) + ((e.toNat : Int) - ((-e).toNat : Int)) = e by omega] at h
  exact h
/-- the exponent as the program takes it, and as the document does -/
def pwE (L : Nat) (e : Int) : Int := min (max e (-6000 - L)) (6000 - L)
end Go.Proofs.YtoobncgmcnmgjaaGreatDoor

namespace Go.Proofs.YtoobncgmcnmgjaaGreatDoor
open Go.RowKit

/-- a lies below b, or at it, if the ends count -/
def wiN (c : Bool) (a b : Nat) : Bool := decide (a < b) || (decide (a = b) && c)
theorem wiN_mul {c : Bool} {a b k : Nat} (hk : 0 < k) : wiN c (k * a) (k * b) = wiN c a b := by
  unfold wiN
  have h1 : (k * a < k * b) ↔ a < b := Nat.mul_lt_mul_left hk
  have h2 : (k * a = k * b) ↔ a = b := ⟨fun h => Nat.eq_of_mul_eq_mul_left hk h, fun h => by rw [h]⟩
  simp only [h1, h2]
theorem wiN_cross {c : Bool} {a b a' b' Z Z' : Nat} (hZ : 0 < Z) (hZ' : 0 < Z') (h1 : a * Z' = a' * Z) (h2 : b * Z' = b' * Z) : wiN c a b = wiN c a' b' := by
  rw [← wiN_mul (a := a) (b := b) hZ', ← wiN_mul (a := a') (b := b') hZ, Nat.mul_comm Z' a, Nat.mul_comm Z' b, h1, h2, Nat.mul_comm a', Nat.mul_comm b']
/-- what is left ahead of digit k, over Z -/
def rsN (R Z : Nat) : Nat → Nat
  | 0 => R
  | k + 1 => 10 * (rsN R Z k % Z)
def dgK (R Z k : Nat) : Nat := rsN R Z k / Z
def unK (c : Bool) (R d Z k : Nat) : Bool := wiN c (rsN R Z k % Z) (10 ^ k * d)
def ovK (c : Bool) (R u Z k : Nat) : Bool := wiN c (Z - rsN R Z k % Z) (10 ^ k * u)
def stK (c : Bool) (R d u Z k : Nat) : Bool := unK c R d Z k || ovK c R u Z k
/-- is the upper one of the two numbers about what is left the nearer one -/
def sdK (R Z k : Nat) : Bool := decide (Z < 2 * (rsN R Z k % Z)) || (decide (2 * (rsN R Z k % Z) = Z) && decide (dgK R Z k % 2 = 1))
def upK (c : Bool) (R d u Z k : Nat) : Bool := if unK c R d Z k && ovK c R u Z k then sdK R Z k else ovK c R u Z k
/-- the last digit -/
def laK (c : Bool) (R d u Z k : Nat) : Nat := if upK c R d u Z k then dgK R Z k + 1 else dgK R Z k
def dsN (R Z : Nat) : Nat → List UInt8
  | 0 => []
  | k + 1 => dsN R Z k ++ [UInt8.ofNat (48 + dgK R Z k)]
theorem dsN_len (R Z : Nat) : ∀ k, (dsN R Z k).length = k
  | 0 => rfl
  | k + 1 => by simp [dsN, dsN_len R Z k]
def shT (c : Bool) (R d u Z K : Nat) : List UInt8 := if laK c R d u Z K = 10 then [49] else dsN R Z K ++ [UInt8.ofNat (48 + laK c R d u Z K)]
def shC (c : Bool) (R d u Z K : Nat) : Nat := if laK c R d u Z K = 10 then 1 else 0
theorem dgK_le {R Z : Nat} (hZ : 0 < Z) (hR : R < 10 * Z) (k : Nat) : dgK R Z k ≤ 9 := by
  unfold dgK
  have : rsN R Z k < 10 * Z := by
    cases k with
    | zero => exact hR
    | succ k =>
      show 10 * (rsN R Z k % Z) < 10 * Z
      have := Nat.mod_lt (rsN R Z k) hZ
      omega
  have := (Nat.div_lt_iff_lt_mul hZ).2 this
  omega
theorem laK_le {c : Bool} {R d u Z : Nat} (hZ : 0 < Z) (hR : R < 10 * Z) (k : Nat) : laK c R d u Z k ≤ 10 := by
  have := dgK_le hZ hR k
  unfold laK; split <;> omega
theorem rsN_split (R Z k : Nat) : Z * dgK R Z k + rsN R Z k % Z = rsN R Z k := Nat.div_add_mod _ _
theorem up_ov {c : Bool} {R d u Z k : Nat} (h : upK c R d u Z k = true) : ovK c R u Z k = true := by
  unfold upK at h
  split at h
  · rename_i h1; exact (Bool.and_eq_true_iff.1 h1).2
  · exact h
theorem nup_un {c : Bool} {R d u Z k : Nat} (hs : stK c R d u Z k = true) (h : upK c R d u Z k = false) : unK c R d Z k = true := by
  unfold upK at h
  split at h
  · rename_i h1; exact (Bool.and_eq_true_iff.1 h1).1
  · unfold stK at hs; rw [h] at hs; simpa using hs
section
variable {c : Bool} {R d u Z : Nat} (hZ : 0 < Z)
include hZ
/-- behind a first digit none comes to ten -/
theorem la_lt {K : Nat} (hK : 0 < K) (hR : R < 10 * Z) (hm : ∀ k, k < K → stK c R d u Z k = false) : laK c R d u Z K ≤ 9 := by
  obtain ⟨k, rfl⟩ : ∃ k, K = k + 1 := ⟨K - 1, by omega⟩
  have h9 := dgK_le hZ hR (k + 1)
  unfold laK
  split
  · rename_i hu
    rcases Nat.lt_or_ge (dgK R Z (k + 1)) 9 with h | h
    · omega
    · exfalso
      have e9 : dgK R Z (k + 1) = 9 := by omega
      have ho := up_ov hu
      have hs := rsN_split R Z (k + 1)
      rw [e9] at hs
      have hr : rsN R Z (k + 1) = 10 * (rsN R Z k % Z) := rfl
      have hlt := Nat.mod_lt (rsN R Z k) hZ
      have e : Z - rsN R Z (k + 1) % Z = 10 * (Z - rsN R Z k % Z) := by omega
      have hk := hm k (by omega)
      unfold stK at hk
      have : ovK c R u Z k = true := by
        unfold ovK at ho ⊢
        rw [e, Nat.pow_succ, Nat.mul_comm (10 ^ k) 10, Nat.mul_assoc, wiN_mul (by decide)] at ho
        exact ho
      rw [this] at hk
      simp at hk
  · exact h9
/-- the last digit isn't 0 -/
theorem la_pos {K : Nat} (hR : Z ≤ R) (hs : stK c R d u Z K = true) (hm : ∀ k, k < K → stK c R d u Z k = false) : 1 ≤ laK c R d u Z K := by
  unfold laK
  split
  · omega
  · rename_i hu
    cases K with
    | zero =>
      show 1 ≤ R / Z
      exact (Nat.le_div_iff_mul_le hZ).2 (by omega)
    | succ k =>
      rcases Nat.eq_zero_or_pos (dgK R Z (k + 1)) with h | h
      · exfalso
        have ho := nup_un hs (by simpa using hu)
        have hs := rsN_split R Z (k + 1)
        rw [h] at hs
        have hr : rsN R Z (k + 1) = 10 * (rsN R Z k % Z) := rfl
        have e : rsN R Z (k + 1) % Z = 10 * (rsN R Z k % Z) := by omega
        have hk := hm k (by omega)
        unfold stK at hk
        have : unK c R d Z k = true := by
          unfold unK at ho ⊢
          rw [e, Nat.pow_succ, Nat.mul_comm (10 ^ k) 10, Nat.mul_assoc, wiN_mul (by decide)] at ho
          exact ho
        rw [this] at hk
        simp at hk
      · exact h
theorem un_big {k : Nat} (h : Z ≤ 10 ^ k * d) : stK c R d u Z k = true := by
  unfold stK unK wiN
  have := Nat.mod_lt (rsN R Z k) hZ
  have : rsN R Z k % Z < 10 ^ k * d := by omega
  simp [this]
theorem st_ex (hd : 0 < d) : ∃ K, stK c R d u Z K = true ∧ ∀ k, k < K → stK c R d u Z k = false := by
  have h1 : ∃ K, stK c R d u Z K = true := ⟨Z, un_big hZ (by
    have h1 : Z < 10 ^ Z := Nat.lt_pow_self (by decide)
    have h2 : 10 ^ Z * 1 ≤ 10 ^ Z * d := Nat.mul_le_mul_left _ hd
    omega)⟩
  obtain ⟨K, hK⟩ := h1
  induction K using Nat.strongRecOn with
  | ind K ih =>
    by_cases h : ∃ k, k < K ∧ stK c R d u Z k = true
    · obtain ⟨k, h1, h2⟩ := h
      exact ih k h1 h2
    · refine ⟨K, hK, fun k hk => ?_⟩
      cases hh : stK c R d u Z k
      · rfl
      · exact absurd ⟨k, hk, hh⟩ h
theorem st_un {k : Nat} (h : stK c R d u Z k = false) : 10 ^ k * d ≤ Z ∧ 10 ^ k * u ≤ Z := by
  unfold stK unK ovK wiN at h
  simp at h
  have := Nat.mod_lt (rsN R Z k) hZ
  omega
theorem st_le {K M : Nat} (hM : Z ≤ M * d) (hd : 0 < d) (hm : ∀ k, k < K → stK c R d u Z k = false) (n : Nat) (hn : M < 10 ^ n) : K ≤ n := by
  rcases Nat.lt_or_ge n K with h | h
  · exfalso
    have h1 := (st_un hZ (hm n h)).1
    have h2 : M * d < 10 ^ n * d := Nat.mul_lt_mul_of_pos_right hn hd
    omega
  · exact h
/-- all that is reckoned with is small -/
theorem st_big {K k : Nat} (hm : ∀ k, k < K → stK c R d u Z k = false) (hk : k ≤ K) (hd : d ≤ 10 * Z) (hu : u ≤ 10 * Z) : 10 ^ k * d ≤ 10 * Z ∧ 10 ^ k * u ≤ 10 * Z := by
  cases k with
  | zero => simp; exact ⟨hd, hu⟩
  | succ k =>
    have h := st_un hZ (hm k (by omega))
    rw [Nat.pow_succ, Nat.mul_comm (10 ^ k) 10, Nat.mul_assoc, Nat.mul_assoc]
    omega
end
theorem rsN_lt {R Z : Nat} (hZ : 0 < Z) (hR : R < 10 * Z) (k : Nat) : rsN R Z k < 10 * Z := by
  cases k with
  | zero => exact hR
  | succ k =>
    show 10 * (rsN R Z k % Z) < 10 * Z
    have := Nat.mod_lt (rsN R Z k) hZ
    omega
/-- the same fraction -/
theorem cross_div {R Z R' Z' : Nat} (hZ : 0 < Z) (hZ' : 0 < Z') (h : R * Z' = R' * Z) : R / Z = R' / Z' ∧ (R % Z) * Z' = (R' % Z') * Z := by
  constructor
  · rw [← Nat.mul_div_mul_right R Z hZ', h, Nat.mul_comm Z Z', Nat.mul_div_mul_right _ _ hZ]
  · rw [← Nat.mul_mod_mul_right, h, Nat.mul_comm Z Z', Nat.mul_mod_mul_right]
theorem rsN_cross {R Z R' Z' : Nat} (hZ : 0 < Z) (hZ' : 0 < Z') (h : R * Z' = R' * Z) : ∀ k, rsN R Z k * Z' = rsN R' Z' k * Z
  | 0 => h
  | k + 1 => by
    show 10 * (rsN R Z k % Z) * Z' = 10 * (rsN R' Z' k % Z') * Z
    rw [Nat.mul_assoc, Nat.mul_assoc, (cross_div hZ hZ' (rsN_cross hZ hZ' h k)).2]
theorem cross_all {R Z R' Z' d d' u u' : Nat} (c : Bool) (hZ : 0 < Z) (hZ' : 0 < Z') (h : R * Z' = R' * Z) (hd : d * Z' = d' * Z) (hu : u * Z' = u' * Z) (k : Nat) :
    dgK R Z k = dgK R' Z' k ∧ unK c R d Z k = unK c R' d' Z' k ∧ ovK c R u Z k = ovK c R' u' Z' k ∧ sdK R Z k = sdK R' Z' k := by
  have hr := rsN_cross hZ hZ' h k
  obtain ⟨e1, e2⟩ := cross_div hZ hZ' hr
  have e3 : dgK R Z k = dgK R' Z' k := e1
  have ez : Z * Z' = Z' * Z := Nat.mul_comm _ _
  refine ⟨e3, ?_, ?_, ?_⟩
  · exact wiN_cross hZ hZ' e2 (by rw [Nat.mul_assoc, Nat.mul_assoc, hd])
  · refine wiN_cross hZ hZ' ?_ (by rw [Nat.mul_assoc, Nat.mul_assoc, hu])
    rw [Nat.sub_mul, Nat.sub_mul, e2, ez]
  · unfold sdK
    rw [e3]
    have a1 : Z < 2 * (rsN R Z k % Z) ↔ Z' < 2 * (rsN R' Z' k % Z') := by
      refine (Nat.mul_lt_mul_right hZ').symm.trans ?_
      rw [Nat.mul_assoc, e2, ez, ← Nat.mul_assoc]
      exact Nat.mul_lt_mul_right hZ
    have a2 : 2 * (rsN R Z k % Z) = Z ↔ 2 * (rsN R' Z' k % Z') = Z' := by
      constructor
      · intro h
        refine Nat.eq_of_mul_eq_mul_right hZ ?_
        rw [Nat.mul_assoc, ← e2, ← Nat.mul_assoc, h, ez]
      · intro h
        refine Nat.eq_of_mul_eq_mul_right hZ' ?_
        rw [Nat.mul_assoc, e2, ← Nat.mul_assoc, h, ez]
    simp only [a1, a2]
theorem dsN_cross {R Z R' Z' : Nat} (hd : ∀ k, dgK R Z k = dgK R' Z' k) : ∀ k, dsN R Z k = dsN R' Z' k
  | 0 => rfl
  | k + 1 => by simp only [dsN, dsN_cross hd k, hd k]
/-- digits don't hang on how the fraction is written -/
theorem sh_cross {R Z R' Z' d d' u u' : Nat} (c : Bool) (hZ : 0 < Z) (hZ' : 0 < Z') (h : R * Z' = R' * Z) (hd : d * Z' = d' * Z) (hu : u * Z' = u' * Z) (k : Nat) :
    stK c R d u Z k = stK c R' d' u' Z' k ∧ shT c R d u Z k = shT c R' d' u' Z' k ∧ shC c R d u Z k = shC c R' d' u' Z' k := by
  have ha := fun k => cross_all c hZ hZ' h hd hu k
  obtain ⟨e1, e2, e3, e4⟩ := ha k
  have eu : upK c R d u Z k = upK c R' d' u' Z' k := by unfold upK; rw [e2, e3, e4]
  have el : laK c R d u Z k = laK c R' d' u' Z' k := by unfold laK; rw [eu, e1]
  refine ⟨by unfold stK; rw [e2, e3], ?_, by unfold shC; rw [el]⟩
  unfold shT
  rw [el, dsN_cross (fun k => (ha k).1)]
/-- a power of ten isn't above a fraction c times 2^x -/
def zE (x e : Int) : Nat := 4 * 2 ^ (-x).toNat * 10 ^ e.toNat
def oE (x e : Int) : Nat := 2 ^ x.toNat * 10 ^ (-e).toNat
theorem zE_pos (x e : Int) : 0 < zE x e := Nat.mul_pos (Nat.mul_pos (by decide) (Nat.two_pow_pos _)) (Nat.pow_pos (by decide))
theorem oE_pos (x e : Int) : 0 < oE x e := Nat.mul_pos (Nat.two_pow_pos _) (Nat.pow_pos (by decide))
def tnP (c : Nat) (x e : Int) : Prop := zE x e ≤ 4 * c * oE x e
theorem oz_next (x e : Int) : 10 * zE x e * oE x (e + 1) = zE x (e + 1) * oE x e := by
  unfold zE oE
  by_cases h : 0 ≤ e
  · have e1 : (e + 1).toNat = e.toNat + 1 := by omega
    have e2 : (-e).toNat = 0 := by omega
    have e3 : (-(e + 1)).toNat = 0 := by omega
    rw [e1, e2, e3, Nat.pow_succ]; simp only [Nat.pow_zero, Nat.mul_one]
    generalize 2 ^ (-x).toNat = A; generalize 2 ^ x.toNat = C; generalize 10 ^ e.toNat = D
    grind
  · have e1 : (e + 1).toNat = 0 := by omega
    have e2 : e.toNat = 0 := by omega
    have e3 : (-e).toNat = (-(e + 1)).toNat + 1 := by omega
    rw [e1, e2, e3, Nat.pow_succ]; simp only [Nat.pow_zero, Nat.mul_one]
    generalize 2 ^ (-x).toNat = A; generalize 2 ^ x.toNat = C; generalize 10 ^ (-(e + 1)).toNat = D
    grind
theorem tn_next {c : Nat} {x e : Int} : tnP c x (e + 1) ↔ 10 * zE x e ≤ 4 * c * oE x e := by
  unfold tnP
  have h := oz_next x e
  have p1 := oE_pos x e
  have p2 := oE_pos x (e + 1)
  constructor
  · intro hh
    refine Nat.le_of_mul_le_mul_right ?_ p2
    rw [h]
    have := Nat.mul_le_mul_right (oE x e) hh
    rw [Nat.mul_assoc (4 * c), Nat.mul_comm (oE x e) (oE x (e + 1)), ← Nat.mul_assoc (4 * c)]
    exact this
  · intro hh
    refine Nat.le_of_mul_le_mul_right ?_ p1
    rw [← h]
    have := Nat.mul_le_mul_right (oE x (e + 1)) hh
    rw [Nat.mul_assoc (4 * c), Nat.mul_comm (oE x e) (oE x (e + 1)), ← Nat.mul_assoc (4 * c)] at this
    exact this
theorem tn_down {c : Nat} {x e : Int} (h : tnP c x (e + 1)) : tnP c x e := by
  have := tn_next.1 h
  unfold tnP
  omega
theorem tn_mono {c : Nat} {x : Int} : ∀ (k : Nat) (e : Int), tnP c x (e + k) → tnP c x e
  | 0, e, h => by simpa using h
  | k + 1, e, h => tn_mono k e (tn_down (by rw [show e + (k : Int) + 1 = e + ((k + 1 : Nat) : Int) by omega]; exact h))
theorem tn_le {c : Nat} {x e e' : Int} (h : tnP c x e) (h' : e' ≤ e) : tnP c x e' :=
  tn_mono (e - e').toNat e' (by rw [show e' + ((e - e').toNat : Int) = e by omega]; exact h)
/-- there is one such power alone -/
theorem tn_uniq {c : Nat} {x e e' : Int} (h1 : tnP c x e) (h2 : ¬ tnP c x (e + 1)) (h3 : tnP c x e') (h4 : ¬ tnP c x (e' + 1)) : e = e' := by
  rcases Int.lt_trichotomy e e' with h | h | h
  · exact absurd (tn_le h3 (by omega)) h2
  · exact h
  · exact absurd (tn_le h1 (by omega)) h4
theorem ten_le_two {t p : Nat} (h : 196 * t ≤ 59 * p) : 10 ^ t ≤ 2 ^ p := by
  rcases Nat.lt_or_ge (2 ^ p) (10 ^ t) with h1 | h1
  · exfalso
    have h2 : (2 ^ p) ^ 59 < (10 ^ t) ^ 59 := Nat.pow_lt_pow_left h1 (by decide)
    have h3 : (10 ^ 59) ^ t ≤ (2 ^ 196) ^ t := Nat.pow_le_pow_left (by decide) t
    have h4 : 2 ^ (196 * t) ≤ 2 ^ (59 * p) := Nat.pow_le_pow_right (by decide) h
    have e1 : ((2 : Nat) ^ p) ^ 59 = 2 ^ (59 * p) := by rw [← Nat.pow_mul, Nat.mul_comm]
    have e2 : ((10 : Nat) ^ t) ^ 59 = (10 ^ 59) ^ t := by rw [← Nat.pow_mul, ← Nat.pow_mul, Nat.mul_comm]
    have e3 : ((2 : Nat) ^ 196) ^ t = 2 ^ (196 * t) := by rw [← Nat.pow_mul]
    rw [e1, e2] at h2
    rw [e3] at h3
    omega
  · exact h1
theorem big_ten : (2 : Nat) ^ 100000 ≤ 10 ^ 30103 := by decide +kernel
theorem two_le_ten_n {n m t q : Nat} (hn : n ≠ 0) (hb : (2 : Nat) ^ n ≤ 10 ^ m) (h : m * q ≤ n * t) : 2 ^ q ≤ 10 ^ t := by
  rcases Nat.lt_or_ge (10 ^ t) (2 ^ q) with h1 | h1
  · exfalso
    have h2 : (10 ^ t) ^ n < (2 ^ q) ^ n := Nat.pow_lt_pow_left h1 hn
    have h3 : (2 ^ n) ^ q ≤ (10 ^ m) ^ q := Nat.pow_le_pow_left hb q
    have h4 : 10 ^ (m * q) ≤ 10 ^ (n * t) := Nat.pow_le_pow_right (by decide) h
    have e1 : ((10 : Nat) ^ t) ^ n = 10 ^ (n * t) := by rw [← Nat.pow_mul, Nat.mul_comm]
    have e2 : ((2 : Nat) ^ q) ^ n = (2 ^ n) ^ q := by rw [← Nat.pow_mul, ← Nat.pow_mul, Nat.mul_comm]
    have e3 : ((10 : Nat) ^ m) ^ q = 10 ^ (m * q) := by rw [← Nat.pow_mul]
    rw [e1, e2] at h2
    rw [e3] at h3
    omega
  · exact h1
theorem two_le_ten {t q : Nat} (h : 30103 * q ≤ 100000 * t) : 2 ^ q ≤ 10 ^ t := two_le_ten_n (by decide) big_ten h
/-- the guess is never too high -/
theorem guess_ok {c L : Nat} {x : Int} (hL : 2 ^ L ≤ c) (hb : -20000 ≤ (L : Int) + x ∧ (L : Int) + x ≤ 20000) : tnP c x ((((L : Int) + x) * 30103).tdiv 100000 - 1) := by
  have hq : (((L : Int) + x) * 30103).tdiv 100000 = if 0 ≤ (L : Int) + x then (((L : Int) + x) * 30103) / 100000 else -((-((L : Int) + x) * 30103) / 100000) := by
    split
    · rw [Int.tdiv_eq_ediv_of_nonneg (by omega)]
    · rw [show ((L : Int) + x) * 30103 = -(-((L : Int) + x) * 30103) by omega, Int.neg_tdiv, Int.tdiv_eq_ediv_of_nonneg (by omega)]
  generalize hg : (((L : Int) + x) * 30103).tdiv 100000 - 1 = g at *
  unfold tnP zE oE
  rw [Nat.mul_assoc 4, Nat.mul_assoc 4]
  refine Nat.mul_le_mul_left 4 ?_
  by_cases hg0 : 0 ≤ g
  · have hp : 0 ≤ (L : Int) + x := by
      rcases Int.lt_or_le ((L : Int) + x) 0 with h | h
      · rw [if_neg (by omega)] at hq; omega
      · exact h
    rw [if_pos hp] at hq
    have h1 : 10 ^ g.toNat ≤ 2 ^ ((L : Int) + x).toNat := ten_le_two (by omega)
    rw [show (-g).toNat = 0 by omega, Nat.pow_zero, Nat.mul_one]
    by_cases hx : 0 ≤ x
    · rw [show (-x).toNat = 0 by omega, Nat.pow_zero, Nat.one_mul]
      rw [show ((L : Int) + x).toNat = L + x.toNat by omega, Nat.pow_add] at h1
      exact Nat.le_trans h1 (Nat.mul_le_mul_right _ hL)
    · rw [show x.toNat = 0 by omega, Nat.pow_zero, Nat.mul_one]
      have h2 := Nat.mul_le_mul_left (2 ^ (-x).toNat) h1
      rw [← Nat.pow_add, show (-x).toNat + ((L : Int) + x).toNat = L by omega] at h2
      exact Nat.le_trans h2 hL
  · rw [show g.toNat = 0 by omega, Nat.pow_zero, Nat.mul_one]
    by_cases hp : 0 ≤ (L : Int) + x
    · have h1 : 2 ^ (-x).toNat ≤ c * 2 ^ x.toNat := by
        by_cases hx : 0 ≤ x
        · rw [show (-x).toNat = 0 by omega, Nat.pow_zero]
          have := Nat.two_pow_pos L
          exact Nat.mul_pos (by omega) (Nat.two_pow_pos _)
        · rw [show x.toNat = 0 by omega, Nat.pow_zero, Nat.mul_one]
          exact Nat.le_trans (Nat.pow_le_pow_right (by decide) (by omega)) hL
      rw [← Nat.mul_assoc]
      exact Nat.le_trans h1 (Nat.le_mul_of_pos_right _ (Nat.pow_pos (by decide)))
    · rw [if_neg hp] at hq
      have h1 : 2 ^ (-((L : Int) + x)).toNat ≤ 10 ^ (-g).toNat := two_le_ten (by omega)
      rw [show x.toNat = 0 by omega, Nat.pow_zero, Nat.one_mul]
      rw [show (-x).toNat = L + (-((L : Int) + x)).toNat by omega, Nat.pow_add]
      exact Nat.mul_le_mul hL h1
/-- 2^(x - 2) over 10^p, the twos of both taken together -/
theorem frac_eq (x p : Int) : 5 ^ (-p).toNat * 2 ^ (x - 2 - p).toNat * zE x p = 5 ^ p.toNat * 2 ^ (-(x - 2 - p)).toNat * oE x p := by
  unfold zE oE
  rw [show (10 : Nat) = 5 * 2 from rfl, Nat.mul_pow, Nat.mul_pow, show (4 : Nat) = 2 ^ 2 from rfl]
  have e : (x - 2 - p).toNat + 2 + (-x).toNat + p.toNat = (-(x - 2 - p)).toNat + x.toNat + (-p).toNat := by omega
  have e2 : (2 : Nat) ^ (x - 2 - p).toNat * 2 ^ 2 * 2 ^ (-x).toNat * 2 ^ p.toNat = 2 ^ (-(x - 2 - p)).toNat * 2 ^ x.toNat * 2 ^ (-p).toNat := by
    rw [← Nat.pow_add, ← Nat.pow_add, ← Nat.pow_add, ← Nat.pow_add, ← Nat.pow_add, e]
  generalize (5 : Nat) ^ (-p).toNat = A at *
  generalize (5 : Nat) ^ p.toNat = B at *
  generalize (2 : Nat) ^ (x - 2 - p).toNat = C at *
  generalize (2 : Nat) ^ (-(x - 2 - p)).toNat = D at *
  generalize (2 : Nat) ^ (-x).toNat = E at *
  generalize (2 : Nat) ^ x.toNat = F at *
  generalize (2 : Nat) ^ p.toNat = G at *
  generalize (2 : Nat) ^ (-p).toNat = H at *
  generalize (2 : Nat) ^ 2 = I at *
  calc A * C * (I * E * (B * G)) = A * B * (C * I * E * G) := by grind
    _ = A * B * (D * F * H) := by rw [e2]
    _ = B * D * (F * (A * H)) := by grind
/-- one place further -/
theorem frac_next {q W : Nat} {x p : Int} (h : q * zE x p = W * oE x p) : q * zE x (p + 1) = 10 * W * oE x (p + 1) := by
  have hn := oz_next x p
  have p1 := oE_pos x p
  refine Nat.eq_of_mul_eq_mul_right p1 ?_
  calc q * zE x (p + 1) * oE x p = q * (zE x (p + 1) * oE x p) := by rw [Nat.mul_assoc]
    _ = q * (10 * zE x p * oE x (p + 1)) := by rw [hn]
    _ = 10 * (q * zE x p) * oE x (p + 1) := by grind
    _ = 10 * (W * oE x p) * oE x (p + 1) := by rw [h]
    _ = 10 * W * oE x (p + 1) * oE x p := by grind
/-- the number's first digit stands there -/
theorem frac_tn {q W c : Nat} {x p : Int} (hq : 0 < q) (h : q * zE x p = W * oE x p) (k : Nat) : k * W ≤ 4 * c * q ↔ k * zE x p ≤ 4 * c * oE x p := by
  have p1 := oE_pos x p
  have e1 : k * W * oE x p = k * zE x p * q := by rw [Nat.mul_assoc, ← h]; grind
  have e2 : 4 * c * q * oE x p = 4 * c * oE x p * q := by grind
  constructor
  · intro hh
    refine Nat.le_of_mul_le_mul_right ?_ hq
    rw [← e1, ← e2]
    exact Nat.mul_le_mul_right _ hh
  · intro hh
    refine Nat.le_of_mul_le_mul_right ?_ p1
    rw [e1, e2]
    exact Nat.mul_le_mul_right _ hh
end Go.Proofs.YtoobncgmcnmgjaaGreatDoor

namespace Go.Proofs.YtoobncgmcnmgjaaGreatDoor
open Go.RowKit


theorem NT.more {K K' V : Nat} {v : Value} {w : World} (h : NT K V v w) (hk : K ≤ K') : NT K' V v w := by
  obtain ⟨g, k, cap, z, h1, h2, h3, h4, h5⟩ := h
  exact ⟨g, k, cap, z, h1, by omega, h3, h4, h5⟩
end Go.Proofs.YtoobncgmcnmgjaaGreatDoor
