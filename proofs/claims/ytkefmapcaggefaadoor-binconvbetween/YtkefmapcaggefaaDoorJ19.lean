/-
  Texts that the proof leans on, joined: Te, Wm, Xm, Ca, Rl, Lr, Rr, Cb, Rec.
-/
import Derived.Test.YtkefmapcaggefaaDoorJ18
import Derived.Test.YtkefmapcaggefaaDoorJ11
import Derived.Test.YtkefmapcaggefaaDoorJ14
import Derived.Deep.RegionWith
import Derived.Test.YtkefmapcaggefaaDoorJ1
import Derived.StillTail
import Derived.Below
import Derived.WalkKit
import Derived.Deep.Cut
import Derived.Deep.CutRange
set_option linter.unusedVariables false
set_option linter.unusedSectionVars false
set_option linter.unusedSimpArgs false
set_option maxRecDepth 20000
namespace Go.Proofs.YtkefmapcaggefaaDoor
open Go.RowKit

theorem fa_mono {d : Int} {s o : Bool} {R1 R2 D : Nat} (h : R1 ≤ R2) (hf : faB d s o R1 D = true) : faB d s o R2 D = true := by
  unfold faB at hf ⊢
  by_cases h1 : R1 = 0
  · rw [if_pos h1] at hf; cases hf
  · rw [if_neg h1] at hf
    rw [if_neg (by omega)]
    by_cases h0 : d = 0
    · rw [if_pos h0] at hf ⊢
      simp only [Bool.or_eq_true, Bool.and_eq_true, decide_eq_true_eq] at hf ⊢
      rcases hf with hf | ⟨hf, ho⟩
      · left; omega
      · by_cases e : R2 + R2 = D
        · exact Or.inr ⟨e, ho⟩
        · left; omega
    · rw [if_neg h0] at hf ⊢
      by_cases h2 : d = 1
      · rw [if_pos h2] at hf ⊢
        simp only [decide_eq_true_eq] at hf ⊢
        omega
      · rw [if_neg h2] at hf ⊢; exact hf
theorem nrC_mono {d : Int} {s : Bool} {N1 N2 D : Nat} {k : Int} (h : N1 ≤ N2) (hD : D ≠ 0) : nrC d s N1 D k ≤ nrC d s N2 D k := by
  have hB : 0 < D * 2 ^ (-k).toNat := Nat.mul_pos (Nat.pos_of_ne_zero hD) (Nat.two_pow_pos _)
  have hA : N1 * 2 ^ k.toNat ≤ N2 * 2 ^ k.toNat := Nat.mul_le_mul_right _ h
  unfold nrC nrF nrQ nrR
  generalize N1 * 2 ^ k.toNat = A1 at *
  generalize N2 * 2 ^ k.toNat = A2 at *
  generalize D * 2 ^ (-k).toNat = M at *
  have hq : A1 / M ≤ A2 / M := Nat.div_le_div_right hA
  rcases Nat.lt_or_ge (A1 / M) (A2 / M) with h1 | h1
  · split <;> split <;> omega
  · have e : A1 / M = A2 / M := by omega
    have d1 := Nat.div_add_mod A1 M
    have d2 := Nat.div_add_mod A2 M
    rw [e] at d1 ⊢
    have hr : A1 % M ≤ A2 % M := by omega
    by_cases hf : faB d s (decide (A2 / M % 2 = 1)) (A1 % M) M = true
    · rw [if_pos hf, if_pos (fa_mono hr hf)]; exact Nat.le_refl _
    · rw [if_neg hf]; split <;> omega
theorem ld_mono {N1 N2 D : Nat} (h : N1 ≤ N2) (h1 : N1 ≠ 0) (hD : D ≠ 0) : ld N1 D ≤ ld N2 D := by
  have h2 : N2 ≠ 0 := by omega
  obtain ⟨K, hK⟩ : ∃ K : Nat, K = bl D + 2 + bl N1 + bl N2 := ⟨_, rfl⟩
  have b1 := (ld_bd h1 hD K (by omega)).1
  have b2 := (ld_bd h2 hD K (by omega)).2
  have hc : N1 * 2 ^ K ≤ N2 * 2 ^ K := Nat.mul_le_mul_right _ h
  have hlt : D * 2 ^ ((K : Int) + ld N1 D).toNat < D * 2 ^ ((K : Int) + ld N2 D + 1).toNat := by omega
  have := (Nat.pow_lt_pow_iff_right (by decide : 1 < 2)).1 (Nat.lt_of_mul_lt_mul_left hlt)
  have hl1 : (bl N1 : Int) - bl D - 1 ≤ ld N1 D := by unfold ld; dsimp only; split <;> omega
  have hl2 : (bl N2 : Int) - bl D - 1 ≤ ld N2 D := by unfold ld; dsimp only; split <;> omega
  omega
/-- what lies below a quarter -/
def tnB (d : Int) (s : Bool) : Bool := if d = 0 ∨ d = 1 then false else inB d s
theorem nr_tiny {d : Int} {s : Bool} {N D : Nat} {k : Int} (hN : N ≠ 0) (hD : D ≠ 0) (h : ld N D + k ≤ -2) : nrQ N D k = 0 ∧ nrF d s N D k = tnB d s ∧ nrR N D k ≠ 0 := by
  have key : N * 2 * 2 ^ k.toNat < D * 2 ^ (-k).toNat := by
    obtain ⟨K, hK⟩ : ∃ K : Nat, K = bl D + 1 + k.natAbs := ⟨_, rfl⟩
    obtain ⟨K1, hK1⟩ : ∃ K1 : Nat, (K1 : Int) = (K : Int) + k := ⟨((K : Int) + k).toNat, by omega⟩
    have key := cmp_sc (N * 2) D k K (by omega)
    rw [show ((K : Int) + k).toNat = K1 by omega] at key
    have hb := (ld_bd hN hD K1 (by omega)).2
    have hl1 : -(bl D : Int) ≤ ld N D := by
      have := (bl_bd hN).2.2
      unfold ld; dsimp only; split <;> omega
    refine key.2 ?_
    have h2 : D * 2 ^ (((K1 : Int) + ld N D + 1).toNat + 1) ≤ D * 2 ^ K := Nat.mul_le_mul_left _ (Nat.pow_le_pow_right (by decide) (by omega))
    rw [Nat.pow_succ, ← Nat.mul_assoc] at h2
    rw [Nat.mul_right_comm]
    omega
  have hA : N * 2 ^ k.toNat ≠ 0 := Nat.mul_ne_zero hN (Nat.pos_iff_ne_zero.1 (Nat.two_pow_pos _))
  rw [Nat.mul_right_comm] at key
  unfold nrF nrQ nrR
  generalize N * 2 ^ k.toNat = A at *
  generalize D * 2 ^ (-k).toNat = M at *
  have e1 : A / M = 0 := Nat.div_eq_of_lt (by omega)
  have e2 : A % M = A := Nat.mod_eq_of_lt (by omega)
  rw [e1, e2]
  refine ⟨rfl, ?_, hA⟩
  unfold faB tnB
  rw [if_neg hA]
  by_cases h0 : d = 0
  · rw [if_pos h0, if_pos (Or.inl h0), decide_eq_false (by omega), decide_eq_false (by omega)]; rfl
  · rw [if_neg h0]
    by_cases h1 : d = 1
    · rw [if_pos h1, if_pos (Or.inr h1), decide_eq_false (by omega)]
    · rw [if_neg h1, if_neg (by omega)]
theorem cap_top (T : Nat) (i : Bool) (p q : Nat) (h : T ≤ q) : capV T i p ≤ capV T i q := by
  unfold capV
  rw [if_pos h]
  split
  · exact Nat.le_refl _
  · split <;> omega
theorem cap_mono (T : Nat) (i : Bool) {p q : Nat} (h : p ≤ q) : capV T i p ≤ capV T i q := by
  by_cases hq : T ≤ q
  · exact cap_top T i p q hq
  · unfold capV; rw [if_neg hq, if_neg (by omega)]; exact h
theorem rd_mono {n : Int} (d : Int) (N1 N2 : Nat) {D : Nat} (x : Int) (hb : binN n) (hD : D ≠ 0) (h : N1 ≤ N2) : rdV n d false N1 D x ≤ rdV n d false N2 D x := by
  by_cases h1 : N1 = 0
  · subst h1
    rw [(r_zero d false D x hb).1]
    unfold sgN; simp
  · have h2 : N2 ≠ 0 := by omega
    rw [r_pat d false x hb h1 hD, r_pat d false x hb h2 hD]
    refine Nat.add_le_add_right ?_ _
    have hL := ld_mono h h1 hD
    obtain ⟨a1, a2, a3, _⟩ := r_coef d false x hb h1 hD
    obtain ⟨b1, b2, b3, _⟩ := r_coef d false x hb h2 hD
    have hF := bin_fm hb
    have hp := pow_e hF.e2 hF.e15
    have hm := hF.m
    have hpc : ((2 : Int) ^ eN n) = ((2 ^ eN n : Nat) : Int) := by simp
    rw [hpc] at hp hm
    have hq : rQ n N1 D x ≤ rQ n N2 D x := by unfold rQ rX wiZ; omega
    have hFp : 0 < 2 ^ fN n := Nat.two_pow_pos _
    rw [show 2 ^ (fN n + 1) = 2 ^ fN n + 2 ^ fN n by rw [Nat.pow_succ]; omega] at a2 b2
    by_cases htop : mostN n < rQ n N2 D x
    · refine cap_top _ _ _ _ ?_
      have hC := b3 (by omega)
      unfold tpN rP
      have : (2 ^ eN n - 1) * 2 ^ fN n ≤ ((rQ n N2 D x - leastN n).toNat + 1) * 2 ^ fN n := Nat.mul_le_mul_right _ (by omega)
      rw [Nat.add_mul] at this
      omega
    · refine cap_mono _ _ ?_
      unfold rP
      rcases Int.lt_or_le (rQ n N1 D x) (rQ n N2 D x) with hlt | hge
      · have hC := b3 (by omega)
        have : ((rQ n N1 D x - leastN n).toNat + 1) * 2 ^ fN n ≤ (rQ n N2 D x - leastN n).toNat * 2 ^ fN n := Nat.mul_le_mul_right _ (by omega)
        rw [Nat.add_mul] at this
        omega
      · have he : rQ n N1 D x = rQ n N2 D x := by omega
        rw [he]
        refine Nat.add_le_add_left ?_ _
        by_cases hX : rX n N1 D x = rX n N2 D x
        · unfold rC; rw [he, hX]; exact nrC_mono h hD
        · -- the first one lies below a quarter of the unit
          have hlow : ld N1 D + rX n N1 D x = leastN n - 2 := by
            unfold rX wiZ at hX ⊢
            unfold rQ rX wiZ at htop
            omega
          have hQ1 : rQ n N1 D x = leastN n := by unfold rQ; omega
          have t1 := nr_tiny (d := d) (s := false) h1 hD (k := rX n N1 D x - rQ n N1 D x) (by omega)
          have e1 : rC n d false N1 D x = if tnB d false then 1 else 0 := by
            unfold rC nrC; rw [t1.1, t1.2.1]
          rw [e1]
          by_cases ht : tnB d false = true
          · rw [if_pos ht]
            have hin : inB d false = true ∧ d ≠ 0 ∧ d ≠ 1 := by
              unfold tnB at ht
              split at ht
              · cases ht
              · rename_i hh; exact ⟨ht, by omega, by omega⟩
            unfold rC nrC
            by_cases hz : nrQ N2 D (rX n N2 D x - rQ n N2 D x) = 0
            · have hr : nrR N2 D (rX n N2 D x - rQ n N2 D x) ≠ 0 := by
                intro hr
                have := Nat.div_add_mod (N2 * 2 ^ (rX n N2 D x - rQ n N2 D x).toNat) (D * 2 ^ (-(rX n N2 D x - rQ n N2 D x)).toNat)
                unfold nrQ at hz
                unfold nrR at hr
                rw [hz, hr] at this
                have h3 : N2 * 2 ^ (rX n N2 D x - rQ n N2 D x).toNat ≠ 0 := Nat.mul_ne_zero h2 (Nat.pos_iff_ne_zero.1 (Nat.two_pow_pos _))
                simp at this
                omega
              have : nrF d false N2 D (rX n N2 D x - rQ n N2 D x) = true := by
                unfold nrF faB
                rw [if_neg hr, if_neg hin.2.1, if_neg hin.2.2, hin.1]
              rw [if_pos this]; omega
            · split <;> omega
          · rw [if_neg ht]; omega
end Go.Proofs.YtkefmapcaggefaaDoor

namespace Go.Proofs.YtkefmapcaggefaaDoor
open Go.RowKit

def whC (d : Int) (s : Bool) (A B : Nat) : Nat := if faB d s (decide (A / B % 2 = 1)) (A % B) B then A / B + 1 else A / B
theorem sc_frac (N D a b : Nat) {n : Int} (h : (a : Int) - b = n) : ∃ κ, N * 2 ^ a = N * 2 ^ n.toNat * 2 ^ κ ∧ D * 2 ^ b = D * 2 ^ (-n).toNat * 2 ^ κ := by
  refine ⟨a - n.toNat, ?_, ?_⟩
  · rw [Nat.mul_assoc, ← Nat.pow_add]; congr 2; omega
  · rw [Nat.mul_assoc, ← Nat.pow_add]; congr 2; omega
theorem fa_sc (d : Int) (s o : Bool) (R D k : Nat) (hk : 0 < k) : faB d s o (R * k) (D * k) = faB d s o R D := by
  have e1 : R * k = 0 ↔ R = 0 := by rw [Nat.mul_eq_zero]; omega
  have e2 : D * k < R * k + R * k ↔ D < R + R := by rw [← Nat.add_mul]; exact Nat.mul_lt_mul_right hk
  have e3 : R * k + R * k = D * k ↔ R + R = D := by rw [← Nat.add_mul]; exact Nat.mul_right_cancel_iff hk
  have e4 : D * k ≤ R * k + R * k ↔ D ≤ R + R := by rw [← Nat.add_mul]; exact Nat.mul_le_mul_right_iff hk
  unfold faB
  simp only [e1, e2, e3, e4]
theorem wh_sc (d : Int) (s : Bool) (N D a b : Nat) {n : Int} (h : (a : Int) - b = n) : whC d s (N * 2 ^ a) (D * 2 ^ b) = nrC d s N D n ∧ (N * 2 ^ a % (D * 2 ^ b) = 0 ↔ nrR N D n = 0) := by
  obtain ⟨κ, e1, e2⟩ := sc_frac N D a b h
  have hk := Nat.two_pow_pos κ
  rw [e1, e2]
  unfold whC nrC nrF nrQ nrR
  rw [Nat.mul_div_mul_right _ _ hk, Nat.mul_mod_mul_right, fa_sc d s _ _ _ _ hk]
  refine ⟨rfl, ?_⟩
  rw [Nat.mul_eq_zero]; omega
theorem bl_shift {V : Nat} (h : V ≠ 0) (a : Nat) : bl (V * 2 ^ a) = bl V + a := by
  obtain ⟨h1, h2, h3⟩ := bl_bd h
  refine bl_eq ?_ ?_
  · rw [show bl V + a - 1 = (bl V - 1) + a by omega, Nat.pow_add]
    exact Nat.mul_le_mul_right _ h1
  · rw [Nat.pow_add]
    exact Nat.mul_lt_mul_of_pos_right h2 (Nat.two_pow_pos _)
theorem ld_shift {N D : Nat} (hN : N ≠ 0) (hD : D ≠ 0) (a b : Nat) : ld (N * 2 ^ a) (D * 2 ^ b) = ld N D + ((a : Int) - b) := by
  unfold ld
  dsimp only
  rw [bl_shift hN, bl_shift hD]
  obtain ⟨p, hp⟩ : ∃ p : Int, (bl N : Int) - bl D = p := ⟨_, rfl⟩
  obtain ⟨p', hp'⟩ : ∃ p' : Int, ((bl N + a : Nat) : Int) - ((bl D + b : Nat) : Int) = p' := ⟨_, rfl⟩
  rw [hp, hp']
  have hpp : p' = p + ((a : Int) - b) := by omega
  obtain ⟨κ, e1, e2⟩ := sc_frac N D (a + (-p').toNat) (b + p'.toNat) (n := -p) (by omega)
  rw [Nat.pow_add, ← Nat.mul_assoc] at e1 e2
  rw [Int.neg_neg] at e2
  rw [e1, e2]
  have hk := Nat.two_pow_pos κ
  by_cases h : N * 2 ^ (-p).toNat < D * 2 ^ p.toNat
  · rw [if_pos h, if_pos (Nat.mul_lt_mul_of_pos_right h hk)]; omega
  · rw [if_neg h, if_neg (fun hh => h (Nat.lt_of_mul_lt_mul_right hh))]; omega
end Go.Proofs.YtkefmapcaggefaaDoor

namespace Go.Proofs.YtkefmapcaggefaaDoor
open Go.RowKit

theorem nr_shift (d : Int) (s : Bool) (N D a b : Nat) (k : Int) : nrC d s (N * 2 ^ a) (D * 2 ^ b) k = nrC d s N D (k + ((a : Int) - b)) ∧ (nrR (N * 2 ^ a) (D * 2 ^ b) k = 0 ↔ nrR N D (k + ((a : Int) - b)) = 0) := by
  have h := wh_sc d s N D (a + k.toNat) (b + (-k).toNat) (n := k + ((a : Int) - b)) (by omega)
  rw [Nat.pow_add, Nat.pow_add, ← Nat.mul_assoc, ← Nat.mul_assoc] at h
  exact h
theorem rX_shift {n : Int} {N D : Nat} (hN : N ≠ 0) (hD : D ≠ 0) (a b : Nat) (x : Int) : rX n (N * 2 ^ a) (D * 2 ^ b) x = rX n N D (x + ((a : Int) - b)) - ((a : Int) - b) := by
  unfold rX wiZ
  rw [ld_shift hN hD]
  omega
theorem rd_shift (n d : Int) (s : Bool) (N : Nat) {D : Nat} (hD : D ≠ 0) (a b : Nat) (x : Int) : rdV n d s (N * 2 ^ a) (D * 2 ^ b) x = rdV n d s N D (x + ((a : Int) - b)) ∧ rdF n d s (N * 2 ^ a) (D * 2 ^ b) x = rdF n d s N D (x + ((a : Int) - b)) := by
  by_cases hN : N = 0
  · subst hN
    rw [Nat.zero_mul]
    unfold rdV rdF
    rw [if_pos rfl, if_pos rfl, if_pos rfl, if_pos rfl]
    exact ⟨rfl, rfl⟩
  have hN' : N * 2 ^ a ≠ 0 := Nat.mul_ne_zero hN (Nat.pos_iff_ne_zero.1 (Nat.two_pow_pos _))
  have eX := rX_shift (n := n) hN hD a b x
  have eL := ld_shift hN hD a b
  have eQ : rQ n (N * 2 ^ a) (D * 2 ^ b) x = rQ n N D (x + ((a : Int) - b)) := by
    unfold rQ; rw [eX, eL]; congr 1; omega
  have hk := nr_shift d s N D a b (rX n (N * 2 ^ a) (D * 2 ^ b) x - rQ n (N * 2 ^ a) (D * 2 ^ b) x)
  rw [show rX n (N * 2 ^ a) (D * 2 ^ b) x - rQ n (N * 2 ^ a) (D * 2 ^ b) x + ((a : Int) - b) = rX n N D (x + ((a : Int) - b)) - rQ n N D (x + ((a : Int) - b)) by rw [eX, eQ]; omega] at hk
  have eC : rC n d s (N * 2 ^ a) (D * 2 ^ b) x = rC n d s N D (x + ((a : Int) - b)) := hk.1
  have eC' : rC' n d s (N * 2 ^ a) (D * 2 ^ b) x = rC' n d s N D (x + ((a : Int) - b)) := by unfold rC'; rw [eC]
  have eQ' : rQ' n d s (N * 2 ^ a) (D * 2 ^ b) x = rQ' n d s N D (x + ((a : Int) - b)) := by unfold rQ'; rw [eC, eQ]
  have eS : ld (N * 2 ^ a) (D * 2 ^ b) + rX n (N * 2 ^ a) (D * 2 ^ b) x = ld N D + rX n N D (x + ((a : Int) - b)) := by rw [eX, eL]; omega
  unfold rdV rdF
  rw [if_neg hN, if_neg hN, if_neg hN', if_neg hN', eC', eQ', eS]
  refine ⟨rfl, ?_⟩
  simp only [hk.2]
end Go.Proofs.YtkefmapcaggefaaDoor

namespace Go.Proofs.YtkefmapcaggefaaDoor
open Go.RowKit

/-- the pattern and the flags of a datum that is converted -/
def cvV (n d : Int) (D : Dat) : Nat := if D.c = 2 then pkV n ⟨2, D.s, false, 0, 0⟩ else if D.c = 3 then pkV n ⟨3, D.s, false, 0, if D.k < 2 ^ (fN n - 1) then D.k else 0⟩ else rdV n d D.s D.k 1 D.x
def cvF (n d : Int) (D : Dat) : Int := if D.c = 2 then 0 else if D.c = 3 then (if D.g then 1 else 0) else rdF n d D.s D.k 1 D.x
theorem fN_prec {n : Int} (hb : binN n) : (fN n : Int) + 1 = precN n := by
  rcases bin_cases hb with rfl | rfl | rfl | rfl | rfl | rfl <;> decide
theorem hold_bin {m n : Int} (hm : binN m) (h : holdsP m n) : binN n := by
  obtain ⟨h1, h2, h3, _⟩ := h
  apply Classical.byContradiction
  intro hb
  rcases not_bin hb with ⟨_, h10⟩ | hok
  · rw [h10] at h3
    rcases bin_cases hm with rfl | rfl | rfl | rfl | rfl | rfl <;> exact absurd h3 (by decide)
  · exact hok h2
theorem hold_ord {m n : Int} (hm : binN m) (h : holdsP m n) : fN m ≤ fN n ∧ leastN n ≤ leastN m ∧ mostN m + (fN m : Int) ≤ mostN n + (fN n : Int) ∧ leastN n ≤ mostN n := by
  have hn := hold_bin hm h
  have e1 := fN_prec hm
  have e2 := fN_prec hn
  obtain ⟨_, _, _, h4, h5, h6⟩ := h
  refine ⟨by omega, h5, by omega, ?_⟩
  rcases bin_cases hn with rfl | rfl | rfl | rfl | rfl | rfl <;> decide
/-- a finite number of a format is one of each that holds it -/
theorem hold_fin {m n : Int} (hm : binN m) (h : holdsP m n) {s : Bool} {x : Int} {k : Nat} (hD : isD (fN m) (leastN m) (mostN m) ⟨1, s, false, x, k⟩) :
    ∃ q c, isD (fN n) (leastN n) (mostN n) ⟨1, s, false, q, c⟩ ∧ ((k = 0 ∧ c = 0) ∨ (k ≠ 0 ∧ ∃ j : Nat, c = k * 2 ^ j ∧ q = x - j)) := by
  obtain ⟨o1, o2, o3, o4⟩ := hold_ord hm h
  rcases hD with ⟨_, _, h3, h4, h5, h6⟩ | ⟨h1, _⟩ | ⟨h1, _⟩
  · dsimp only at h3 h4 h5 h6
    by_cases h0 : k = 0
    · refine ⟨leastN n, 0, Or.inl ⟨rfl, rfl, Nat.two_pow_pos _, Int.le_refl _, o4, Or.inr rfl⟩, Or.inl ⟨h0, rfl⟩⟩
    · have hbk : bl k ≤ fN m + 1 := bl_le.2 h3
      have hb0 : bl k ≠ 0 := fun e => h0 (bl_zero.1 e)
      have hlo : 2 ^ (bl k - 1) ≤ k := bl_ge.1 (by omega)
      have hhi : k < 2 ^ bl k := bl_le.1 (Nat.le_refl _)
      obtain ⟨j, hj⟩ : ∃ j : Nat, j = min (fN n + 1 - bl k) (x - leastN n).toNat := ⟨_, rfl⟩
      have hj1 : j ≤ fN n + 1 - bl k := by omega
      have hj2 : (j : Int) ≤ x - leastN n := by omega
      have hlt : k * 2 ^ j < 2 ^ (fN n + 1) := by
        have e1 : k * 2 ^ j < 2 ^ bl k * 2 ^ j := Nat.mul_lt_mul_of_pos_right hhi (Nat.two_pow_pos _)
        rw [← Nat.pow_add] at e1
        exact Nat.lt_of_lt_of_le e1 (Nat.pow_le_pow_right (by decide) (by omega))
      refine ⟨x - j, k * 2 ^ j, Or.inl ⟨rfl, rfl, hlt, by show leastN n ≤ x - j; omega, ?_, ?_⟩, Or.inr ⟨h0, j, rfl, rfl⟩⟩
      · show x - (j : Int) ≤ mostN n
        by_cases e : j = fN n + 1 - bl k
        · omega
        · have : (j : Int) = x - leastN n := by omega
          omega
      · show 2 ^ fN n ≤ k * 2 ^ j ∨ x - (j : Int) = leastN n
        by_cases e : j = fN n + 1 - bl k
        · left
          have e1 : 2 ^ (bl k - 1) * 2 ^ j ≤ k * 2 ^ j := Nat.mul_le_mul_right _ hlo
          rw [← Nat.pow_add] at e1
          exact Nat.le_trans (Nat.pow_le_pow_right (by decide) (by omega)) e1
        · right
          omega
  · exact absurd h1 (show ¬ (1 : Int) = 2 by decide)
  · exact absurd h1 (show ¬ (1 : Int) = 3 by decide)
/-- two spellings of one number are rounded alike -/
theorem cv_alike (t d : Int) (s : Bool) {x q : Int} {k c : Nat} (h : (k = 0 ∧ c = 0) ∨ (k ≠ 0 ∧ ∃ j : Nat, c = k * 2 ^ j ∧ q = x - j)) : rdV t d s c 1 q = rdV t d s k 1 x ∧ rdF t d s c 1 q = rdF t d s k 1 x := by
  rcases h with ⟨rfl, rfl⟩ | ⟨_, j, rfl, rfl⟩
  · unfold rdV rdF
    rw [if_pos rfl, if_pos rfl, if_pos rfl, if_pos rfl]
    exact ⟨rfl, rfl⟩
  · obtain ⟨s1, s2⟩ := rd_shift t d s k (D := 1) (by decide) j 0 (x - j)
    rw [Nat.pow_zero, Nat.mul_one, show x - (j : Int) + ((j : Int) - ((0 : Nat) : Int)) = x by omega] at s1 s2
    exact ⟨s1, s2⟩
/-- what is a number of the format stays, without flags -/
theorem cv_keep {n : Int} (d : Int) (hb : binN n) {s : Bool} {q : Int} {c : Nat} (h : isD (fN n) (leastN n) (mostN n) ⟨1, s, false, q, c⟩) : rdV n d s c 1 q = pkV n ⟨1, s, false, q, c⟩ ∧ rdF n d s c 1 q = 0 := by
  have := keep_eq d hb h (b := 1) (by decide)
  rw [Nat.mul_one] at this
  exact this
end Go.Proofs.YtkefmapcaggefaaDoor

namespace Go.Proofs.YtkefmapcaggefaaDoor
open Go.RowKit

set_option maxHeartbeats 400000 in
theorem rbinary_any (n : Int) (w : World) : Calls Tryd.prog 15 #[.int .i64 n] w fun e w' => e = .returned (.bool (decide (binN n))) ∧ w' = w := by
  by_cases h1 : 1 ≤ n
  · by_cases h2 : n ≤ 6
    · rw [decide_eq_true (show binN n from ⟨h1, h2⟩)]
      go_enter Tryd.func15, Tryd.ntmps15
      go_wp2
      go_ret
      exact ⟨rfl, rfl⟩
    · rw [decide_eq_false (show ¬ binN n from fun h => h2 h.2)]
      go_enter Tryd.func15, Tryd.ntmps15
      go_wp2
      go_ret
      exact ⟨rfl, rfl⟩
  · rw [decide_eq_false (show ¬ binN n from fun h => h1 h.1)]
    go_enter Tryd.func15, Tryd.ntmps15
    go_wp2
    go_ret
    exact ⟨rfl, rfl⟩
theorem rfits4 (n : Int) (B : Nat) (hB : B < 2 ^ 256) (w : World) :
    Calls Tryd.prog 18 #[.int .i64 n, A4 B] w fun x w' => x = .returned (.bool (decide (okN n ∧ B < 2 ^ (widthN n).toNat))) ∧ Below w.heap.size w w' := by
  refine (rfits_any n (W4 B) (W4_words B) _ (A4_get B) rfl w).mono ?_
  rintro x w' ⟨rfl, hb⟩
  refine ⟨?_, hb⟩
  have hwd := (fields_bounds n).2.1
  have e : (fitsP n (W4 B)) ↔ (okN n ∧ B < 2 ^ (widthN n).toNat) := by
    unfold fitsP
    rw [lenL_low]
    have := len4_le (k := (widthN n).toNat) hB
    rw [show (((widthN n).toNat : Nat) : Int) = widthN n by omega] at this
    rw [this]
  rw [decide_eq_decide.2 e]
set_option maxHeartbeats 400000 in
theorem rgood_any (n : Int) (B : Nat) (hB : B < 2 ^ 256) (w : World) :
    Calls Tryd.prog 9 #[.int .i64 n, A4 B] w fun x w' => x = .returned (.bool (decide (goodN n B))) ∧ Below w.heap.size w w' := by
  have c35 := fun w => rbinary_any n w
  have c50 := fun w => rfits4 n B hB w
  by_cases hb : binN n
  · have hF := bin_fields hb
    rw [decide_eq_true hb] at c35
    have e : (okN n ∧ B < 2 ^ (widthN n).toNat) ↔ goodN n B := by
      rw [hF.2.2.2.2.1, Int.toNat_natCast]
      exact ⟨fun h => ⟨hb, h.2⟩, fun h => ⟨hF.1, h.2⟩⟩
    rw [decide_eq_decide.2 e] at c50
    generalize decide (goodN n B) = D at *
    clear hF e hb hB
    go_enter Tryd.func9, Tryd.ntmps9
    go_wp2_with (first
      | (go_at_call 15; refine (c35 _).mono ?_; rintro e w1 ⟨rfl, rfl⟩)
      | (go_at_call 18; refine (c50 _).mono ?_; rintro e w2 ⟨rfl, hb2⟩))
    go_ret
    exact ⟨rfl, bnext bgo hb2⟩
  · rw [decide_eq_false hb] at c35
    rw [decide_eq_false (show ¬ goodN n B from fun h => hb h.1)]
    clear hb hB c50
    go_enter Tryd.func9, Tryd.ntmps9
    go_wp2_with (go_at_call 15; refine (c35 _).mono ?_; rintro e w1 ⟨rfl, rfl⟩)
    go_ret
    exact ⟨rfl, bgo⟩
end Go.Proofs.YtkefmapcaggefaaDoor

namespace Go.Proofs.YtkefmapcaggefaaDoor
open Go.RowKit

/-- a block holds four words of a number, from a place on -/
structure Four (w : World) (g o k : Nat) : Prop where
  cell : ∀ i, i < 4 → w.cell? ⟨g, o + i, none⟩ = some (.int .u64 (W4 k i))
theorem Four.of {w : World} {g o k : Nat} (h0 : w.cell? ⟨g, o + 0, none⟩ = some (.int .u64 (W4 k 0))) (h1 : w.cell? ⟨g, o + 1, none⟩ = some (.int .u64 (W4 k 1))) (h2 : w.cell? ⟨g, o + 2, none⟩ = some (.int .u64 (W4 k 2))) (h3 : w.cell? ⟨g, o + 3, none⟩ = some (.int .u64 (W4 k 3))) : Four w g o k :=
  ⟨fun i hi => by
    have : i = 0 ∨ i = 1 ∨ i = 2 ∨ i = 3 := by omega
    rcases this with rfl | rfl | rfl | rfl <;> assumption⟩
theorem Four.next {w w' : World} {g o k : Nat} (h : Four w g o k) (hg : g < w.heap.size) (hb : Below w.heap.size w w') : Four w' g o k :=
  ⟨fun i hi => by rw [hb.cell (p := ⟨g, o + i, none⟩) hg]; exact h.cell i hi⟩
/-- a block holds a datum -/
structure Dc (w : World) (g : Nat) (c : Int) (s b : Bool) (x : Int) (k : Nat) : Prop where
  c0 : w.cell? ⟨g, 0, none⟩ = some (.int .i64 c)
  c1 : w.cell? ⟨g, 1, none⟩ = some (.bool s)
  c2 : w.cell? ⟨g, 2, none⟩ = some (.bool b)
  c3 : w.cell? ⟨g, 3, none⟩ = some (.int .i64 x)
  c4 : w.cell? ⟨g, 4, none⟩ = some (.int .u64 (W4 k 0))
  c5 : w.cell? ⟨g, 5, none⟩ = some (.int .u64 (W4 k 1))
  c6 : w.cell? ⟨g, 6, none⟩ = some (.int .u64 (W4 k 2))
  c7 : w.cell? ⟨g, 7, none⟩ = some (.int .u64 (W4 k 3))
theorem Dc.next {w w' : World} {g : Nat} {c : Int} {s b : Bool} {x : Int} {k : Nat} (h : Dc w g c s b x k) (hg : g < w.heap.size) (hb : Below w.heap.size w w') : Dc w' g c s b x k :=
  ⟨by rw [hb.cell (p := ⟨g, 0, none⟩) hg, h.c0], by rw [hb.cell (p := ⟨g, 1, none⟩) hg, h.c1], by rw [hb.cell (p := ⟨g, 2, none⟩) hg, h.c2], by rw [hb.cell (p := ⟨g, 3, none⟩) hg, h.c3],
   by rw [hb.cell (p := ⟨g, 4, none⟩) hg, h.c4], by rw [hb.cell (p := ⟨g, 5, none⟩) hg, h.c5], by rw [hb.cell (p := ⟨g, 6, none⟩) hg, h.c6], by rw [hb.cell (p := ⟨g, 7, none⟩) hg, h.c7]⟩
/-- what stands in the words below i -/
def mo (A B i : Nat) : Bool := decide (val (W4 B) i < val (W4 A) i)
theorem mo_zero (A B : Nat) : mo A B 0 = false := by unfold mo; rfl
theorem mo_same {A B i : Nat} (h : W4 A i = W4 B i) : mo A B (i + 1) = mo A B i := by
  unfold mo
  simp only [val, h]
  congr 1
  simp
theorem mo_other {A B i : Nat} (h : W4 A i ≠ W4 B i) : mo A B (i + 1) = decide (W4 B i < W4 A i) := by
  unfold mo
  have a1 := val_bd (W4_words A) i
  have b1 := val_bd (W4_words B) i
  apply decide_eq_decide.2
  simp only [val]
  generalize (18446744073709551616 : Int) ^ i = P at *
  by_cases h1 : W4 B i < W4 A i
  · have : (W4 B i + 1) * P ≤ W4 A i * P := Int.mul_le_mul_of_nonneg_right (by omega) (by omega)
    rw [Int.add_mul] at this
    exact ⟨fun _ => h1, fun _ => by omega⟩
  · have : (W4 A i + 1) * P ≤ W4 B i * P := Int.mul_le_mul_of_nonneg_right (by omega) (by omega)
    rw [Int.add_mul] at this
    exact ⟨fun hh => by omega, fun hh => absurd hh h1⟩
theorem mo_four {A B : Nat} (hA : A < 2 ^ 256) (hB : B < 2 ^ 256) : mo A B 4 = decide (B < A) := by
  unfold mo
  rw [W4_val4 hA, W4_val4 hB]
  simp
attribute [local irreducible] W4 mo
end Go.Proofs.YtkefmapcaggefaaDoor

namespace Go.Proofs.YtkefmapcaggefaaDoor
open Go.RowKit
attribute [local irreducible] W4 NT NV

/-- a datum that does not signal -/
def hush (d : Dat) : Dat := ⟨d.c, d.s, false, d.x, d.k⟩
def quV (n : Int) (B : Nat) : Nat := if goodN n B then pkV n (hush (unD n B)) else 0
def quE (n : Int) (B : Nat) : Int := if goodN n B then pkE n (hush (unD n B)) else 1
end Go.Proofs.YtkefmapcaggefaaDoor

namespace Go.Proofs.YtkefmapcaggefaaDoor
open Go.RowKit

theorem und_is {m : Int} {B : Nat} (h : goodN m B) : isD (fN m) (leastN m) (mostN m) (unD m B) := by
  obtain ⟨S, E, F, hS, hE, hFr, hBe⟩ := fields_in h.2
  have hu : unD m B = mean (fN m) (eN m) (leastN m) S E F := by
    unfold unD; rw [if_pos h, hBe, unp_mean _ hS hE hFr]
  rw [hu]
  exact (mean_isD (bin_fm h.1) hS hE hFr).1
theorem fN_two {n : Int} (hb : binN n) : 2 ≤ fN n := by
  rcases bin_cases hb with rfl | rfl | rfl | rfl | rfl | rfl <;> decide
/-- a pattern that comes out is one of the format -/
theorem pk_good {n : Int} {D : Dat} (hb : binN n) (h : isD (fN n) (leastN n) (mostN n) D) : goodN n (pkV n D) ∧ unD n (pkV n D) = D :=
  back_pk (by unfold pkE; rw [if_pos hb, if_pos h])
theorem hush_is {f : Nat} {l m : Int} {D : Dat} (h : isD f l m D) : isD f l m (hush D) := by
  rcases h with ⟨h1, h2, h3, h4, h5, h6⟩ | ⟨h1, h2, h3, h4⟩ | ⟨h1, h2, h3, h4⟩
  · exact Or.inl ⟨h1, rfl, h3, h4, h5, h6⟩
  · exact Or.inr (Or.inl ⟨h1, rfl, h3, h4⟩)
  · exact Or.inr (Or.inr ⟨h1, h2, h3, Or.inr rfl⟩)
/-- into a format that holds the first one: a datum of it, that any format takes as the first one -/
theorem cv_widen {m n : Int} (hm : binN m) (h : holdsP m n) {D : Dat} (hD : isD (fN m) (leastN m) (mostN m) D) (d : Int) :
    ∃ D', isD (fN n) (leastN n) (mostN n) D' ∧ cvV n d D = pkV n D' ∧ cvF n d D = (if D.g then 1 else 0) ∧ ∀ t e, cvV t e D' = cvV t e D ∧ cvF t e D' = (if D.g then 0 else cvF t e D) := by
  have hn := hold_bin hm h
  obtain ⟨c, s, g, x, k⟩ := D
  have hD0 := hD
  rcases hD with ⟨h1, h2, h3, h4, h5, h6⟩ | ⟨h1, h2, h3, h4⟩ | ⟨h1, h2, h3, h4⟩
  · dsimp only at h1 h2
    subst h1 h2
    obtain ⟨q, c', hq, ha⟩ := hold_fin hm h hD0
    obtain ⟨k1, k2⟩ := cv_keep d hn hq
    refine ⟨⟨1, s, false, q, c'⟩, hq, ?_, ?_, fun t e => ?_⟩
    · show rdV n d s k 1 x = _
      rw [← (cv_alike n d s ha).1, k1]
    · show rdF n d s k 1 x = 0
      rw [← (cv_alike n d s ha).2, k2]
    · exact cv_alike t e s ha
  · dsimp only at h1 h2 h3 h4
    subst h1 h2 h3 h4
    exact ⟨⟨2, s, false, 0, 0⟩, Or.inr (Or.inl ⟨rfl, rfl, rfl, rfl⟩), rfl, rfl, fun t e => ⟨rfl, rfl⟩⟩
  · dsimp only at h1 h2 h3 h4
    subst h1 h2
    have hf := (hold_ord hm h).1
    have hk : k < 2 ^ (fN n - 1) := Nat.lt_of_lt_of_le h3 (Nat.pow_le_pow_right (by decide) (by omega))
    refine ⟨⟨3, s, false, 0, k⟩, Or.inr (Or.inr ⟨rfl, rfl, hk, Or.inr rfl⟩), ?_, rfl, fun t e => ⟨rfl, ?_⟩⟩
    · show pkV n ⟨3, s, false, 0, if k < 2 ^ (fN n - 1) then k else 0⟩ = _
      rw [if_pos hk]
    · cases g <;> rfl
/-- into its own format -/
theorem cv_self {m : Int} (hm : binN m) {D : Dat} (hD : isD (fN m) (leastN m) (mostN m) D) (d : Int) : cvV m d D = pkV m (hush D) ∧ cvF m d D = (if D.g then 1 else 0) := by
  obtain ⟨c, s, g, x, k⟩ := D
  have hD0 := hD
  rcases hD with ⟨h1, h2, h3, h4, h5, h6⟩ | ⟨h1, h2, h3, h4⟩ | ⟨h1, h2, h3, h4⟩
  · dsimp only at h1 h2
    subst h1 h2
    exact cv_keep d hm hD0
  · dsimp only at h1 h2 h3 h4
    subst h1 h2 h3 h4
    exact ⟨rfl, rfl⟩
  · dsimp only at h1 h2 h3 h4
    subst h1 h2
    refine ⟨?_, rfl⟩
    show pkV m ⟨3, s, false, 0, if k < 2 ^ (fN m - 1) then k else 0⟩ = _
    rw [if_pos h3]
    rfl
theorem qu_self {m : Int} {B : Nat} (h : goodN m B) : quV m B = pkV m (hush (unD m B)) ∧ quE m B = 0 ∧ ((unD m B).g = false → quV m B = B) := by
  have e1 : quV m B = pkV m (hush (unD m B)) := if_pos h
  refine ⟨e1, ?_, fun hg => ?_⟩
  · have : quE m B = pkE m (hush (unD m B)) := if_pos h
    rw [this]
    unfold pkE
    rw [if_pos h.1, if_pos (hush_is (und_is h))]
  · rw [e1, show hush (unD m B) = unD m B by unfold hush; rw [← hg]]
    exact (back_un h).2
/-! the sign -/
theorem nbit12 {f e K : Nat} (hf : 1 ≤ f) (hK : K < 2 ^ (f - 1)) : (2 ^ e - 1) * 2 ^ f + (K + 2 ^ (f - 1)) < 2 ^ (f + e) := by
  have h1 : 2 ^ (f - 1) + 2 ^ (f - 1) = 2 ^ f := by
    rw [← Nat.two_mul, ← Nat.pow_succ', show (f - 1).succ = f by omega]
  have h2 : (2 ^ e - 1) * 2 ^ f + 2 ^ f = 2 ^ e * 2 ^ f := by
    rw [Nat.sub_mul, Nat.one_mul]
    have : 2 ^ f ≤ 2 ^ e * 2 ^ f := Nat.le_mul_of_pos_left _ (Nat.two_pow_pos _)
    omega
  have h3 : 2 ^ (f + e) = 2 ^ e * 2 ^ f := by rw [Nat.pow_add, Nat.mul_comm]
  omega
theorem pk_nan12 {n : Int} {k : Nat} (hb : binN n) (hk : k < 2 ^ (fN n - 1)) : pkV n ⟨3, true, false, 0, k⟩ = pkV n ⟨3, false, false, 0, k⟩ + 2 ^ (fN n + eN n) ∧ pkV n ⟨3, false, false, 0, k⟩ < 2 ^ (fN n + eN n) := by
  have hf2 := fN_two hb
  have h : ∀ s, isD (fN n) (leastN n) (mostN n) ⟨3, s, false, 0, k⟩ := fun s => Or.inr (Or.inr ⟨rfl, rfl, hk, Or.inr rfl⟩)
  unfold pkV
  rw [if_pos ⟨hb, h true⟩, if_pos ⟨hb, h false⟩]
  unfold pk
  simp only [show ¬ ((3 : Int) = 1) by decide, show ¬ ((3 : Int) = 2) by decide, if_false, if_true, Bool.false_eq_true, Nat.add_zero]
  exact ⟨trivial, nbit12 (by omega) hk⟩
theorem cv_turn {t : Int} (d : Int) (hb : binN t) (c : Int) (g : Bool) (x : Int) (k : Nat) : cvV t (othD d) ⟨c, true, g, x, k⟩ = cvV t d ⟨c, false, g, x, k⟩ + 2 ^ (fN t + eN t) ∧ cvF t (othD d) ⟨c, true, g, x, k⟩ = cvF t d ⟨c, false, g, x, k⟩ ∧ cvV t d ⟨c, false, g, x, k⟩ < 2 ^ (fN t + eN t) := by
  unfold cvV cvF
  dsimp only
  by_cases h2 : c = 2
  · simp only [h2, if_true]
    rw [pk_inf hb, pk_inf hb]
    unfold sgN
    simp only [if_true, Bool.false_eq_true, if_false, Nat.add_zero]
    exact ⟨trivial, trivial, tp_lt hb⟩
  · simp only [h2, if_false]
    by_cases h3 : c = 3
    · simp only [h3, if_true]
      have hk : (if k < 2 ^ (fN t - 1) then k else 0) < 2 ^ (fN t - 1) := by
        by_cases h : k < 2 ^ (fN t - 1)
        · rw [if_pos h]; exact h
        · rw [if_neg h]; exact Nat.two_pow_pos _
      obtain ⟨a, b⟩ := pk_nan12 hb hk
      exact ⟨a, trivial, b⟩
    · simp only [h3, if_false]
      exact rd_turn d _ _ hb (by decide)
/-! the order -/
theorem cv_top {t : Int} (d : Int) (hb : binN t) (c : Int) (hc : c = 1 ∨ c = 2) (x : Int) (k : Nat) : cvV t d ⟨c, false, false, x, k⟩ ≤ tpN t := by
  unfold cvV
  dsimp only
  rcases hc with rfl | rfl
  · rw [if_neg (by decide), if_neg (by decide)]
    by_cases h0 : k = 0
    · subst h0
      rw [(r_zero d false 1 x hb).1]
      exact Nat.zero_le _
    · rw [r_pat d false x hb h0 (by decide)]
      exact cap_le _ _ _
  · rw [if_pos rfl, pk_inf hb]
    exact Nat.le_refl _
/-- of two data of one format the one with the greater pattern is the greater number -/
theorem cv_rise {m t : Int} (d : Int) (hm : binN m) (hb : binN t) {c1 c2 x1 x2 : Int} {g1 g2 : Bool} {k1 k2 : Nat}
    (h1 : isD (fN m) (leastN m) (mostN m) ⟨c1, false, g1, x1, k1⟩) (h2 : isD (fN m) (leastN m) (mostN m) ⟨c2, false, g2, x2, k2⟩) (n1 : c1 ≠ 3) (n2 : c2 ≠ 3)
    (hlt : pkV m ⟨c1, false, g1, x1, k1⟩ ≤ pkV m ⟨c2, false, g2, x2, k2⟩) : cvV t d ⟨c1, false, g1, x1, k1⟩ ≤ cvV t d ⟨c2, false, g2, x2, k2⟩ := by
  have H1 := h1
  have H2 := h2
  rcases h2 with ⟨e1, e2, e3, e4, e5, e6⟩ | ⟨e1, e2, e3, e4⟩ | ⟨e1, _⟩
  · dsimp only at e1 e2 e3 e4 e5 e6
    subst e1 e2
    rcases h1 with ⟨f1, f2, f3, f4, f5, f6⟩ | ⟨f1, f2, f3, f4⟩ | ⟨f1, _⟩
    · dsimp only at f1 f2 f3 f4 f5 f6
      subst f1 f2
      rw [pk_fin hm H1, pk_fin hm H2] at hlt
      have hlt' : (x1 - leastN m).toNat * 2 ^ fN m + k1 ≤ (x2 - leastN m).toNat * 2 ^ fN m + k2 := hlt
      obtain ⟨a1, ha1⟩ : ∃ a1, (x1 - leastN m).toNat = a1 := ⟨_, rfl⟩
      obtain ⟨a2, ha2⟩ : ∃ a2, (x2 - leastN m).toNat = a2 := ⟨_, rfl⟩
      rw [ha1, ha2] at hlt'
      have hx1 : x1 = leastN m + a1 := by omega
      have hx2 : x2 = leastN m + a2 := by omega
      have hv : k1 * 2 ^ a1 ≤ k2 * 2 ^ a2 := by
        rcases Nat.lt_trichotomy a1 a2 with h | h | h
        · have hk2 : 2 ^ fN m ≤ k2 := by rcases e6 with h' | h' <;> omega
          have e : 2 ^ a2 = 2 ^ a1 * 2 ^ (a2 - a1) := by rw [← Nat.pow_add]; congr 1; omega
          have h8 : 2 ^ fN m * 2 ≤ k2 * 2 ^ (a2 - a1) := Nat.mul_le_mul hk2 (by
            have : 2 ^ 1 ≤ 2 ^ (a2 - a1) := Nat.pow_le_pow_right (by decide) (by omega)
            simpa using this)
          have h9 : k1 ≤ k2 * 2 ^ (a2 - a1) := by
            rw [Nat.pow_succ] at f3
            omega
          rw [e, Nat.mul_comm (2 ^ a1), ← Nat.mul_assoc]
          exact Nat.mul_le_mul_right _ h9
        · subst h
          exact Nat.mul_le_mul_right _ (by omega)
        · exfalso
          have hk1 : 2 ^ fN m ≤ k1 := by rcases f6 with h' | h' <;> omega
          have h8 : (a2 + 1) * 2 ^ fN m ≤ a1 * 2 ^ fN m := Nat.mul_le_mul_right _ h
          rw [Nat.add_mul, Nat.one_mul] at h8
          rw [Nat.pow_succ] at e3
          omega
      show rdV t d false k1 1 x1 ≤ rdV t d false k2 1 x2
      obtain ⟨s1, _⟩ := rd_shift t d false k1 (D := 1) (by decide) a1 0 (leastN m)
      obtain ⟨s2, _⟩ := rd_shift t d false k2 (D := 1) (by decide) a2 0 (leastN m)
      rw [Nat.pow_zero, Nat.mul_one, show leastN m + ((a1 : Int) - ((0 : Nat) : Int)) = x1 by omega] at s1
      rw [Nat.pow_zero, Nat.mul_one, show leastN m + ((a2 : Int) - ((0 : Nat) : Int)) = x2 by omega] at s2
      rw [← s1, ← s2]
      exact rd_mono d _ _ _ hb (by decide) hv
    · exfalso
      dsimp only at f1 f2 f3 f4
      subst f1 f2 f3 f4
      rw [pk_inf hm, pk_fin hm H2] at hlt
      have hk := (cv_keep d hm H2).1
      have ht := cv_top d hm 1 (Or.inl rfl) x2 k2
      have e : cvV m d ⟨1, false, false, x2, k2⟩ = rdV m d false k2 1 x2 := rfl
      rw [e, hk, pk_fin hm H2] at ht
      -- a finite pattern is below the infinite one
      obtain ⟨b1, b2⟩ := pk_good hm H2
      obtain ⟨b3, b4⟩ := pk_good (D := ⟨2, false, false, 0, 0⟩) hm (Or.inr (Or.inl ⟨rfl, rfl, rfl, rfl⟩))
      have : pkV m ⟨1, false, false, x2, k2⟩ = pkV m ⟨2, false, false, 0, 0⟩ := by
        rw [pk_inf hm, pk_fin hm H2]
        omega
      rw [this, b4] at b2
      exact absurd (show (2 : Int) = 1 from congrArg Dat.c b2) (by decide)
    · exact absurd f1 n1
  · dsimp only at e1 e2 e3 e4
    subst e1 e2 e3 e4
    have hc1 : (c1 = 1 ∨ c1 = 2) ∧ g1 = false := by
      rcases h1 with ⟨f1, f2, _⟩ | ⟨f1, f2, _⟩ | ⟨f1, _⟩
      · exact ⟨Or.inl f1, f2⟩
      · exact ⟨Or.inr f1, f2⟩
      · exact absurd f1 n1
    obtain ⟨hc1, rfl⟩ := hc1
    have e : cvV t d ⟨2, false, false, 0, 0⟩ = tpN t := by
      show pkV t ⟨2, false, false, 0, 0⟩ = _
      rw [pk_inf hb]; rfl
    rw [e]
    exact cv_top d hb c1 hc1 x1 k1
  · exact absurd e1 n2
/-! what Convert answers -/
def cnG (m t d : Int) (B : Nat) : Prop := goodN m B ∧ binN t ∧ knB d
instance (m t d : Int) (B : Nat) : Decidable (cnG m t d B) := by unfold cnG; infer_instance
def cnV (m t d : Int) (B : Nat) : Nat := if cnG m t d B then cvV t d (unD m B) else 0
def cnF (m t d : Int) (B : Nat) : Int := if cnG m t d B then cvF t d (unD m B) else 0
def cnE (m t d : Int) (B : Nat) : Int := if cnG m t d B then 0 else 1
/-- what comes out is a pattern of the format -/
theorem cv_good {t : Int} (d : Int) (hb : binN t) (D : Dat) : goodN t (cvV t d D) := by
  obtain ⟨c, s, g, x, k⟩ := D
  have key : ∀ d', cvV t d' ⟨c, false, g, x, k⟩ < 2 ^ (fN t + eN t) := fun d' => (cv_turn d' hb c g x k).2.2
  refine ⟨hb, ?_⟩
  have e : 2 ^ (fN t + eN t + 1) = 2 ^ (fN t + eN t) + 2 ^ (fN t + eN t) := by rw [Nat.pow_succ]; omega
  cases s
  · have := key d
    omega
  · have h1 := (cv_turn (othD d) hb c g x k).1
    have h2 : othD (othD d) = d := by
      unfold othD
      by_cases h : d = 3 ∨ d = 4
      · rw [if_pos h, if_pos (by omega)]; omega
      · rw [if_neg h, if_neg h]
    rw [h2] at h1
    rw [h1]
    have := key (othD d)
    omega
end Go.Proofs.YtkefmapcaggefaaDoor

namespace Go.Proofs.YtkefmapcaggefaaDoor
open Go.RowKit

attribute [local irreducible] W4 Nt
set_option maxHeartbeats 1000000 in
theorem scaled_good (n d x : Int) (s : Bool) (B : Nat) (w : World) (hT : Tab w) (hb : binN n) (hk : knB d) (hB : B < 2 ^ 256) :
    Calls Tryd.prog 29 #[.int .i64 n, .int .i64 d, .bool s, A4 B, .int .i64 x] w fun r w' => r = .returned (.tuple #[A4 (rdV n d s B 1 x), .int .i64 (rdF n d s B 1 x), .int .i64 0]) ∧ Below w.heap.size w w' := by
  have c11 := fun W (vn vd : Value) (hT : Tab W) (h1 : Nt 2001 B vn W) (h2 : Nt 2001 1 vd W) => rnd_good n d x s hT h1 h2 hb hk (by decide) (bl_256 hB) (by decide)
  have hbx := fun W hW => (nv_nt (box_nv (w0 := w) (w := W) (B := B) (t := 24) hB hW)).more (show 4 ≤ 2001 by decide)
  generalize rdV n d s B 1 x = R at *
  generalize rdF n d s B 1 x = F at *
  have hsm := cell_set_map
  go_enter Tryd.func29, Tryd.ntmps29
  go_wp2_with (go_at_call 44; refine (c11 _ _ _ (hT.go bgo) (hbx _ bgo) ((nt_one (by simp) rfl (by decide)).more (by decide))).mono ?_; rintro r w1 ⟨rfl, hb1⟩; obtain ⟨hc1, hf1⟩ := bcell hb1; have hz1_0 : w.heap.size < w1.heap.size := lt_below hb1 ltg; have hl1_0 := Nat.le_of_lt hz1_0; have hz1_1 : w.heap.size + 1 < w1.heap.size := lt_below hb1 ltg; have hl1_1 := Nat.le_of_lt hz1_1; have hA1 := bnext (w0 := w) bgo hb1; have hs1 := hA1.size; clear hb1)
  exact bodyPost_ret (v := .tuple #[A4 R, .int .i64 F, .int .i64 0]) (by simp only [results, Tryd.results29]; go_simp) rfl ⟨rfl, bgo⟩
end Go.Proofs.YtkefmapcaggefaaDoor
