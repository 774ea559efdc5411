/-
  Texts that the proof leans on.
-/
import Derived.Test.YtpemdcnneabbfaaDoorJ32
import Derived.Test.YtpemdcnneabbfaaDoorJ26
import Derived.Test.YtpemdcnneabbfaaDoorJ28
import Derived.Test.YtpemdcnneabbfaaDoorJ12
import Derived.Test.YtpemdcnneabbfaaDoorJ20
import Derived.Test.YtpemdcnneabbfaaDoorJ15
import Derived.Test.YtpemdcnneabbfaaDoorJ7
import Derived.Test.YtpemdcnneabbfaaDoorJ11
import Derived.Test.YtpemdcnneabbfaaDoorJ21
import Derived.Test.YtpemdcnneabbfaaDoorJ24
import Derived.Test.YtpemdcnneabbfaaDoorJ9
import Derived.Deep.Cut
import Derived.Deep.CutRange
import Derived.Test.YtpemdcnneabbfaaDoorJ18
import Derived.Test.YtpemdcnneabbfaaDoorJ14
import Derived.Test.YtpemdcnneabbfaaDoorJ8
import Derived.Deep.RegionWith
import Derived.Test.YtpemdcnneabbfaaDoorJ27
import Ieee.Arith
import GoSem.Core.Float
import Derived.Test.YtpemdcnneabbfaaDoorJ31
import Derived.Test.YtpemdcnneabbfaaDoorJ29
import Derived.StillTail
import Derived.Below
import Derived.WalkKit
import Derived.Test.YtpemdcnneabbfaaDoorJ10
import Derived.Test.YtpemdcnneabbfaaDoorJ6
set_option linter.unusedVariables false
set_option linter.unusedSectionVars false
set_option linter.unusedSimpArgs false
set_option maxRecDepth 20000
namespace Go.Proofs.YtpemdcnneabbfaaDoor
open Go.RowKit
def tpN (n : Int) : Nat := (2 ^ eN n - 1) * 2 ^ fN n
def sgN (n : Int) (s : Bool) : Nat := if s then 2 ^ (fN n + eN n) else 0
/-- rounded down, and rounded -/
def rB (n : Int) (N D : Nat) (x : Int) : Nat := (rQ n N D x - leastN n).toNat * 2 ^ fN n + nrQ N D (rX n N D x - rQ n N D x)
def rP (n d : Int) (s : Bool) (N D : Nat) (x : Int) : Nat := (rQ n N D x - leastN n).toNat * 2 ^ fN n + rC n d s N D x
def capV (T : Nat) (i : Bool) (p : Nat) : Nat := if T ≤ p then (if i then T else T - 1) else p
theorem rP_eq (n d : Int) (s : Bool) (N D : Nat) (x : Int) : rP n d s N D x = rB n N D x + if nrF d s N D (rX n N D x - rQ n N D x) then 1 else 0 := by
  unfold rP rB rC nrC
  cases nrF d s N D (rX n N D x - rQ n N D x)
  · rfl
  · simp only [if_true]; omega
/-- what the coefficient is -/
theorem r_coef {n : Int} (d : Int) (s : Bool) {N D : Nat} (x : Int) (hb : binN n) (hN : N ≠ 0) (hD : D ≠ 0) :
    leastN n ≤ rQ n N D x ∧ rC n d s N D x ≤ 2 ^ (fN n + 1) ∧ (rQ n N D x ≠ leastN n → 2 ^ fN n ≤ rC n d s N D x) ∧ ((fN n : Int) + 1 < (bl (rC n d s N D x) : Int) ↔ 2 ^ (fN n + 1) ≤ rC n d s N D x) := by
  have hq : leastN n ≤ rQ n N D x := Int.le_max_left _ _
  have hq2 : ld N D + (rX n N D x - rQ n N D x) ≤ (fN n : Int) := by unfold rQ; omega
  have hlt := nrQ_lt hN hD hq2
  have hge : rQ n N D x ≠ leastN n → 2 ^ fN n ≤ nrQ N D (rX n N D x - rQ n N D x) := fun h => nrQ_ge hN hD (by unfold rQ at h ⊢; omega)
  have hC : rC n d s N D x = nrQ N D (rX n N D x - rQ n N D x) ∨ rC n d s N D x = nrQ N D (rX n N D x - rQ n N D x) + 1 := by
    unfold rC nrC
    cases nrF d s N D (rX n N D x - rQ n N D x)
    · exact Or.inl rfl
    · exact Or.inr rfl
  refine ⟨hq, by omega, fun h => by have := hge h; omega, ?_⟩
  rw [← bl_ge]; omega
theorem r_over {n : Int} (d : Int) (s : Bool) {N D : Nat} (x : Int) (hb : binN n) (hN : N ≠ 0) (hD : D ≠ 0) : (mostN n < rQ' n d s N D x ↔ tpN n ≤ rP n d s N D x) ∧ (¬ mostN n < rQ' n d s N D x → (rQ' n d s N D x - leastN n).toNat * 2 ^ fN n + rC' n d s N D x = rP n d s N D x) := by
  obtain ⟨h1, h2, h3, h4⟩ := r_coef d s x hb hN hD
  have hF := bin_fm hb
  have hp := pow_e hF.e2 hF.e15
  have hm := hF.m
  have hpc : ((2 : Int) ^ eN n) = ((2 ^ eN n : Nat) : Int) := by simp
  rw [hpc] at hp hm
  unfold tpN rP rQ' rC'
  obtain ⟨a, ha⟩ : ∃ a : Nat, rQ n N D x = leastN n + a := ⟨(rQ n N D x - leastN n).toNat, by omega⟩
  rw [ha] at h1 h3 ⊢
  rw [show (leastN n + (a : Int) - leastN n).toNat = a by omega]
  rw [show 2 ^ (fN n + 1) = 2 ^ fN n + 2 ^ fN n by rw [Nat.pow_succ]; omega] at h2 h4
  have hFp : 0 < 2 ^ fN n := Nat.two_pow_pos _
  generalize rC n d s N D x = C at *
  generalize 2 ^ fN n = F at *
  generalize 2 ^ eN n = E at *
  generalize leastN n = l at *
  generalize mostN n = m at *
  obtain ⟨E', hE'⟩ : ∃ E' : Nat, E = E' + 3 := ⟨E - 3, by omega⟩
  subst hE'
  rw [show E' + 3 - 1 = E' + 2 by omega]
  by_cases hu : (fN n : Int) + 1 < (bl C : Int)
  · rw [if_pos hu, if_pos hu]
    have hC : C = F + F := by have := h4.1 hu; omega
    have e1 : a * F + C = (a + 2) * F := by rw [hC, Nat.add_mul]; omega
    rw [e1]
    refine ⟨⟨fun h => Nat.mul_le_mul_right _ (by omega), fun h => ?_⟩, fun h => ?_⟩
    · have := Nat.le_of_mul_le_mul_right h hFp
      omega
    · rw [show (l + (a : Int) + 1 - l).toNat = a + 1 by omega, hC, show (F + F) / 2 = F by omega]
      rw [Nat.add_mul, Nat.add_mul]; omega
  · rw [if_neg hu, if_neg hu]
    have hC : C < F + F := by
      have := mt h4.2 hu; omega
    refine ⟨⟨fun h => ?_, fun h => ?_⟩, fun h => ?_⟩
    · have hCF := h3 (by omega)
      have : (E' + 2) * F ≤ (a + 1) * F := Nat.mul_le_mul_right _ (by omega)
      rw [Nat.add_mul a] at this
      omega
    · rcases Nat.lt_or_ge a (E' + 1) with h5 | h5
      · have : (a + 2) * F ≤ (E' + 2) * F := Nat.mul_le_mul_right _ (by omega)
        rw [Nat.add_mul a] at this
        omega
      · omega
    · rw [show (l + (a : Int) - l).toNat = a by omega]
theorem pk_fin {n : Int} {s : Bool} {q : Int} {c : Nat} (hb : binN n) (h : isD (fN n) (leastN n) (mostN n) ⟨1, s, false, q, c⟩) : pkV n ⟨1, s, false, q, c⟩ = (q - leastN n).toNat * 2 ^ fN n + c + sgN n s := by
  unfold pkV sgN
  rw [if_pos ⟨hb, h⟩]
  unfold pk
  simp
theorem pk_inf {n : Int} {s : Bool} (hb : binN n) : pkV n ⟨2, s, false, 0, 0⟩ = tpN n + sgN n s := by
  unfold pkV sgN tpN
  rw [if_pos ⟨hb, Or.inr (Or.inl ⟨rfl, rfl, rfl, rfl⟩)⟩]
  unfold pk
  simp
theorem lg_top {n : Int} {s : Bool} (hb : binN n) : lgV n s = tpN n - 1 + sgN n s ∧ 1 ≤ tpN n := by
  unfold lgV sgN tpN
  rw [if_pos hb]
  have hF := bin_fm hb
  have hp := pow_e hF.e2 hF.e15
  have hpc : ((2 : Int) ^ eN n) = ((2 ^ eN n : Nat) : Int) := by simp
  rw [hpc] at hp
  have hFp : 0 < 2 ^ fN n := Nat.two_pow_pos _
  generalize 2 ^ fN n = F at *
  generalize 2 ^ eN n = E at *
  obtain ⟨E', rfl⟩ : ∃ E' : Nat, E = E' + 2 := ⟨E - 2, by omega⟩
  rw [show E' + 2 - 2 = E' by omega, show E' + 2 - 1 = E' + 1 by omega, Nat.add_mul]
  omega
theorem r_pat {n : Int} (d : Int) (s : Bool) {N D : Nat} (x : Int) (hb : binN n) (hN : N ≠ 0) (hD : D ≠ 0) : rdV n d s N D x = capV (tpN n) (inB d s) (rP n d s N D x) + sgN n s := by
  obtain ⟨h1, h2⟩ := r_over d s x hb hN hD
  unfold rdV capV
  rw [if_neg hN]
  by_cases ho : mostN n < rQ' n d s N D x
  · rw [if_pos ho, if_pos (h1.1 ho)]
    cases inB d s
    · simp only [Bool.false_eq_true, if_false]; exact (lg_top hb).1
    · simp only [if_true]; exact pk_inf hb
  · rw [if_neg ho, if_neg (mt h1.2 ho), pk_fin hb (r_isD hb hN hD ho), h2 ho]
theorem r_zero {n : Int} (d : Int) (s : Bool) (D : Nat) (x : Int) (hb : binN n) : rdV n d s 0 D x = sgN n s ∧ rdF n d s 0 D x = 0 := by
  have hF := bin_fm hb
  have hp := pow_e hF.e2 hF.e15
  have hm := hF.m
  have hz : isD (fN n) (leastN n) (mostN n) ⟨1, s, false, leastN n, 0⟩ := Or.inl ⟨rfl, rfl, Nat.two_pow_pos _, Int.le_refl _, by show leastN n ≤ mostN n; omega, Or.inr rfl⟩
  unfold rdV rdF
  rw [if_pos rfl, if_pos rfl, pk_fin hb hz]
  simp
theorem r_flag {n : Int} (d : Int) (s : Bool) {N D : Nat} (x : Int) (hb : binN n) (hN : N ≠ 0) (hD : D ≠ 0) : rdF n d s N D x = if tpN n ≤ rP n d s N D x then 10 else if nrR N D (rX n N D x - rQ n N D x) = 0 then 0 else if ld N D + rX n N D x < (fN n : Int) + leastN n then 12 else 8 := by
  obtain ⟨h1, h2⟩ := r_over d s x hb hN hD
  unfold rdF
  rw [if_neg hN]
  by_cases ho : mostN n < rQ' n d s N D x
  · rw [if_pos ho, if_pos (h1.1 ho)]
  · rw [if_neg ho, if_neg (mt h1.2 ho)]
    simp only [decide_eq_true_eq]
theorem tp_lt {n : Int} (hb : binN n) : tpN n < 2 ^ (fN n + eN n) := by
  unfold tpN
  rw [Nat.pow_add, Nat.mul_comm]
  have hE : 0 < 2 ^ eN n := Nat.two_pow_pos _
  exact Nat.mul_lt_mul_of_pos_left (by omega) (Nat.two_pow_pos _)
theorem cap_le (T : Nat) (i : Bool) (p : Nat) : capV T i p ≤ T := by
  unfold capV; split
  · split <;> omega
  · omega
/-! the other sign -/
def othD (d : Int) : Int := if d = 3 ∨ d = 4 then 7 - d else d
theorem in_turn (d : Int) : inB (othD d) true = inB d false := by
  unfold othD inB
  by_cases h3 : d = 3
  · subst h3; rfl
  · by_cases h4 : d = 4
    · subst h4; rfl
    · simp only [h3, h4, or_self, if_false]
theorem fa_turn (d : Int) (o : Bool) (R D : Nat) : faB (othD d) true o R D = faB d false o R D := by
  unfold faB
  rw [in_turn]
  unfold othD
  by_cases h3 : d = 3
  · subst h3; rfl
  · by_cases h4 : d = 4
    · subst h4; rfl
    · simp only [h3, h4, or_self, if_false]
theorem nrF_turn (d : Int) (N D : Nat) (k : Int) : nrF (othD d) true N D k = nrF d false N D k := fa_turn d _ _ _
theorem rC_turn (n d : Int) (N D : Nat) (x : Int) : rC n (othD d) true N D x = rC n d false N D x := by unfold rC nrC; rw [nrF_turn]
theorem rP_turn (n d : Int) (N D : Nat) (x : Int) : rP n (othD d) true N D x = rP n d false N D x := by unfold rP; rw [rC_turn]
theorem rd_turn {n : Int} (d : Int) (N : Nat) {D : Nat} (x : Int) (hb : binN n) (hD : D ≠ 0) : rdV n (othD d) true N D x = rdV n d false N D x + 2 ^ (fN n + eN n) ∧ rdF n (othD d) true N D x = rdF n d false N D x ∧ rdV n d false N D x < 2 ^ (fN n + eN n) := by
  by_cases hN : N = 0
  · subst hN
    rw [(r_zero (othD d) true D x hb).1, (r_zero (othD d) true D x hb).2, (r_zero d false D x hb).1, (r_zero d false D x hb).2]
    have := Nat.two_pow_pos (fN n + eN n)
    unfold sgN
    simp only [if_true, Bool.false_eq_true, if_false]
    exact ⟨by omega, trivial, by omega⟩
  · rw [r_pat (othD d) true x hb hN hD, r_pat d false x hb hN hD, r_flag (othD d) true x hb hN hD, r_flag d false x hb hN hD, rP_turn, in_turn]
    unfold sgN
    simp only [if_true, Bool.false_eq_true, if_false, Nat.add_zero]
    exact ⟨trivial, trivial, Nat.lt_of_le_of_lt (cap_le _ _ _) (tp_lt hb)⟩
/-! a number of the format -/
theorem ld_mul {k b : Nat} (hk : k ≠ 0) (hb : b ≠ 0) : ld (k * b) b = (bl k : Int) - 1 := by
  obtain ⟨k1, k2, k3⟩ := bl_bd hk
  have hkb : k * b ≠ 0 := Nat.mul_ne_zero hk hb
  obtain ⟨K, hK⟩ : ∃ K : Nat, K = bl b + 2 + bl (k * b) := ⟨_, rfl⟩
  obtain ⟨h1, h2⟩ := ld_bd hkb hb K (by omega)
  have hl : (bl (k * b) : Int) - bl b - 1 ≤ ld (k * b) b ∧ ld (k * b) b ≤ (bl (k * b) : Int) - bl b := by
    unfold ld; dsimp only; split <;> omega
  have hbp : 0 < b := Nat.pos_of_ne_zero hb
  rw [Nat.mul_right_comm, Nat.mul_comm (k * 2 ^ K) b] at h1 h2
  have h1' := Nat.le_of_mul_le_mul_left h1 hbp
  have h2' := Nat.lt_of_mul_lt_mul_left h2
  have a1 : 2 ^ ((K : Int) + ld (k * b) b).toNat < 2 ^ (bl k + K) := by
    rw [Nat.pow_add]
    exact Nat.lt_of_le_of_lt h1' (Nat.mul_lt_mul_of_pos_right k2 (Nat.two_pow_pos _))
  have a2 : 2 ^ (bl k - 1 + K) < 2 ^ ((K : Int) + ld (k * b) b + 1).toNat := by
    rw [Nat.pow_add]
    exact Nat.lt_of_le_of_lt (Nat.mul_le_mul_right _ k1) h2'
  have b1 := (Nat.pow_lt_pow_iff_right (by decide : 1 < 2)).1 a1
  have b2 := (Nat.pow_lt_pow_iff_right (by decide : 1 < 2)).1 a2
  omega
theorem keep_eq {n : Int} (d : Int) {s : Bool} {q : Int} {k b : Nat} (hbn : binN n) (h : isD (fN n) (leastN n) (mostN n) ⟨1, s, false, q, k⟩) (hb : b ≠ 0) : rdV n d s (k * b) b q = pkV n ⟨1, s, false, q, k⟩ ∧ rdF n d s (k * b) b q = 0 := by
  rw [pk_fin hbn h]
  have hF := bin_fm hbn
  have hp := pow_e hF.e2 hF.e15
  have hm := hF.m
  rcases h with ⟨_, _, hk1, hx1, hx2, hx3⟩ | ⟨hc, _⟩ | ⟨hc, _⟩
  · dsimp only at hk1 hx1 hx2 hx3
    by_cases hk : k = 0
    · subst hk
      rw [Nat.zero_mul, (r_zero d s b q hbn).1, (r_zero d s b q hbn).2]
      have : q = leastN n := by
        rcases hx3 with h | h
        · have := Nat.two_pow_pos (fN n); omega
        · exact h
      rw [this]; simp
    · have hkb : k * b ≠ 0 := Nat.mul_ne_zero hk hb
      have hL := ld_mul hk hb
      obtain ⟨k1, k2, k3⟩ := bl_bd hk
      have hbl : bl k ≤ fN n + 1 := bl_le.2 hk1
      have hX : rX n (k * b) b q = q := by
        unfold rX wiZ; rw [hL]; omega
      have hQ : rQ n (k * b) b q = q := by
        unfold rQ; rw [hX, hL]
        rcases hx3 with h | h
        · have : fN n < bl k := bl_ge.2 h
          omega
        · omega
      have hq0 : nrQ (k * b) b (q - q) = k ∧ nrR (k * b) b (q - q) = 0 := by
        unfold nrQ nrR
        rw [Int.sub_self]
        simp
        exact Nat.mul_div_cancel _ (Nat.pos_of_ne_zero hb)
      have hFF : nrF d s (k * b) b (q - q) = false := by
        unfold nrF faB; rw [hq0.2]; rfl
      have hPP : rP n d s (k * b) b q = (q - leastN n).toNat * 2 ^ fN n + k := by
        rw [rP_eq]; unfold rB; rw [hX, hQ, hFF, hq0.1]; simp
      have hno : ¬ tpN n ≤ rP n d s (k * b) b q := by
        rw [hPP]
        unfold tpN
        have hpc : ((2 : Int) ^ eN n) = ((2 ^ eN n : Nat) : Int) := by simp
        rw [hpc] at hp hm
        rw [Nat.pow_succ] at hk1
        have h3 : ((q - leastN n).toNat + 2) * 2 ^ fN n ≤ (2 ^ eN n - 1) * 2 ^ fN n := Nat.mul_le_mul_right _ (by omega)
        rw [Nat.add_mul] at h3
        omega
      rw [r_pat d s q hbn hkb hb, r_flag d s q hbn hkb hb]
      unfold capV
      rw [if_neg hno, if_neg hno, hPP, hX, hQ, hq0.2]
      exact ⟨rfl, rfl⟩
  · exact absurd (show (1 : Int) = 2 from hc) (by decide)
  · exact absurd (show (1 : Int) = 3 from hc) (by decide)
def whC (d : Int) (s : Bool) (A B : Nat) : Nat := if faB d s (decide (A / B % 2 = 1)) (A % B) B then A / B + 1 else A / B
theorem sc_frac (N D a b : Nat) {n : Int} (h : (a : Int) - b = n) : ∃ κ, N * 2 ^ a = N * 2 ^ n.toNat * 2 ^ κ ∧ D * 2 ^ b = D * 2 ^ (-n).toNat * 2 ^ κ := by
  refine ⟨a - n.toNat, ?_, ?_⟩
  · rw [Nat.mul_assoc, ← Nat.pow_add]; congr 2; omega
  · rw [Nat.mul_assoc, ← Nat.pow_add]; congr 2; omega
theorem fa_sc (d : Int) (s o : Bool) (R D k : Nat) (hk : 0 < k) : faB d s o (R * k) (D * k) = faB d s o R D := by
  have e1 : R * k = 0 ↔ R = 0 := by rw [Nat.mul_eq_zero]; omega
  have e2 : D * k < R * k + R * k ↔ D < R + R := by rw [← Nat.add_mul]; exact Nat.mul_lt_mul_right hk
  have e3 : R * k + R * k = D * k ↔ R + R = D := by rw [← Nat.add_mul]; exact Nat.mul_right_cancel_iff hk
  have e4 : D * k ≤ R * k + R * k ↔ D ≤ R + R := by rw [← Nat.add_mul]; exact Nat.mul_le_mul_right_iff hk
  unfold faB
  simp only [e1, e2, e3, e4]
theorem wh_sc (d : Int) (s : Bool) (N D a b : Nat) {n : Int} (h : (a : Int) - b = n) : whC d s (N * 2 ^ a) (D * 2 ^ b) = nrC d s N D n ∧ (N * 2 ^ a % (D * 2 ^ b) = 0 ↔ nrR N D n = 0) := by
  obtain ⟨κ, e1, e2⟩ := sc_frac N D a b h
  have hk := Nat.two_pow_pos κ
  rw [e1, e2]
  unfold whC nrC nrF nrQ nrR
  rw [Nat.mul_div_mul_right _ _ hk, Nat.mul_mod_mul_right, fa_sc d s _ _ _ _ hk]
  refine ⟨rfl, ?_⟩
  rw [Nat.mul_eq_zero]; omega
theorem bl_shift {V : Nat} (h : V ≠ 0) (a : Nat) : bl (V * 2 ^ a) = bl V + a := by
  obtain ⟨h1, h2, h3⟩ := bl_bd h
  refine bl_eq ?_ ?_
  · rw [show bl V + a - 1 = (bl V - 1) + a by omega, Nat.pow_add]
    exact Nat.mul_le_mul_right _ h1
  · rw [Nat.pow_add]
    exact Nat.mul_lt_mul_of_pos_right h2 (Nat.two_pow_pos _)
theorem ld_shift {N D : Nat} (hN : N ≠ 0) (hD : D ≠ 0) (a b : Nat) : ld (N * 2 ^ a) (D * 2 ^ b) = ld N D + ((a : Int) - b) := by
  unfold ld
  dsimp only
  rw [bl_shift hN, bl_shift hD]
  obtain ⟨p, hp⟩ : ∃ p : Int, (bl N : Int) - bl D = p := ⟨_, rfl⟩
  obtain ⟨p', hp'⟩ : ∃ p' : Int, ((bl N + a : Nat) : Int) - ((bl D + b : Nat) : Int) = p' := ⟨_, rfl⟩
  rw [hp, hp']
  have hpp : p' = p + ((a : Int) - b) := by omega
  obtain ⟨κ, e1, e2⟩ := sc_frac N D (a + (-p').toNat) (b + p'.toNat) (n := -p) (by omega)
  rw [Nat.pow_add, ← Nat.mul_assoc] at e1 e2
  rw [Int.neg_neg] at e2
  rw [e1, e2]
  have hk := Nat.two_pow_pos κ
  by_cases h : N * 2 ^ (-p).toNat < D * 2 ^ p.toNat
  · rw [if_pos h, if_pos (Nat.mul_lt_mul_of_pos_right h hk)]; omega
  · rw [if_neg h, if_neg (fun hh => h (Nat.lt_of_mul_lt_mul_right hh))]; omega
theorem nr_shift (d : Int) (s : Bool) (N D a b : Nat) (k : Int) : nrC d s (N * 2 ^ a) (D * 2 ^ b) k = nrC d s N D (k + ((a : Int) - b)) ∧ (nrR (N * 2 ^ a) (D * 2 ^ b) k = 0 ↔ nrR N D (k + ((a : Int) - b)) = 0) := by
  have h := wh_sc d s N D (a + k.toNat) (b + (-k).toNat) (n := k + ((a : Int) - b)) (by omega)
  rw [Nat.pow_add, Nat.pow_add, ← Nat.mul_assoc, ← Nat.mul_assoc] at h
  exact h
theorem rX_shift {n : Int} {N D : Nat} (hN : N ≠ 0) (hD : D ≠ 0) (a b : Nat) (x : Int) : rX n (N * 2 ^ a) (D * 2 ^ b) x = rX n N D (x + ((a : Int) - b)) - ((a : Int) - b) := by
  unfold rX wiZ
  rw [ld_shift hN hD]
  omega
theorem rd_shift (n d : Int) (s : Bool) (N : Nat) {D : Nat} (hD : D ≠ 0) (a b : Nat) (x : Int) : rdV n d s (N * 2 ^ a) (D * 2 ^ b) x = rdV n d s N D (x + ((a : Int) - b)) ∧ rdF n d s (N * 2 ^ a) (D * 2 ^ b) x = rdF n d s N D (x + ((a : Int) - b)) := by
  by_cases hN : N = 0
  · subst hN
    rw [Nat.zero_mul]
    unfold rdV rdF
    rw [if_pos rfl, if_pos rfl, if_pos rfl, if_pos rfl]
    exact ⟨rfl, rfl⟩
  have hN' : N * 2 ^ a ≠ 0 := Nat.mul_ne_zero hN (Nat.pos_iff_ne_zero.1 (Nat.two_pow_pos _))
  have eX := rX_shift (n := n) hN hD a b x
  have eL := ld_shift hN hD a b
  have eQ : rQ n (N * 2 ^ a) (D * 2 ^ b) x = rQ n N D (x + ((a : Int) - b)) := by
    unfold rQ; rw [eX, eL]; congr 1; omega
  have hk := nr_shift d s N D a b (rX n (N * 2 ^ a) (D * 2 ^ b) x - rQ n (N * 2 ^ a) (D * 2 ^ b) x)
  rw [show rX n (N * 2 ^ a) (D * 2 ^ b) x - rQ n (N * 2 ^ a) (D * 2 ^ b) x + ((a : Int) - b) = rX n N D (x + ((a : Int) - b)) - rQ n N D (x + ((a : Int) - b)) by rw [eX, eQ]; omega] at hk
  have eC : rC n d s (N * 2 ^ a) (D * 2 ^ b) x = rC n d s N D (x + ((a : Int) - b)) := hk.1
  have eC' : rC' n d s (N * 2 ^ a) (D * 2 ^ b) x = rC' n d s N D (x + ((a : Int) - b)) := by unfold rC'; rw [eC]
  have eQ' : rQ' n d s (N * 2 ^ a) (D * 2 ^ b) x = rQ' n d s N D (x + ((a : Int) - b)) := by unfold rQ'; rw [eC, eQ]
  have eS : ld (N * 2 ^ a) (D * 2 ^ b) + rX n (N * 2 ^ a) (D * 2 ^ b) x = ld N D + rX n N D (x + ((a : Int) - b)) := by rw [eX, eL]; omega
  unfold rdV rdF
  rw [if_neg hN, if_neg hN, if_neg hN', if_neg hN', eC', eQ', eS]
  refine ⟨rfl, ?_⟩
  simp only [hk.2]
/-- the pattern and the flags of a datum that is converted -/
def cvV (n d : Int) (D : Dat) : Nat := if D.c = 2 then pkV n ⟨2, D.s, false, 0, 0⟩ else if D.c = 3 then pkV n ⟨3, D.s, false, 0, if D.k < 2 ^ (fN n - 1) then D.k else 0⟩ else rdV n d D.s D.k 1 D.x
def cvF (n d : Int) (D : Dat) : Int := if D.c = 2 then 0 else if D.c = 3 then (if D.g then 1 else 0) else rdF n d D.s D.k 1 D.x
theorem fN_prec {n : Int} (hb : binN n) : (fN n : Int) + 1 = precN n := by
  rcases bin_cases hb with rfl | rfl | rfl | rfl | rfl | rfl <;> decide
theorem hold_bin {m n : Int} (hm : binN m) (h : holdsP m n) : binN n := by
  obtain ⟨h1, h2, h3, _⟩ := h
  apply Classical.byContradiction
  intro hb
  rcases not_bin hb with ⟨_, h10⟩ | hok
  · rw [h10] at h3
    rcases bin_cases hm with rfl | rfl | rfl | rfl | rfl | rfl <;> exact absurd h3 (by decide)
  · exact hok h2
theorem hold_ord {m n : Int} (hm : binN m) (h : holdsP m n) : fN m ≤ fN n ∧ leastN n ≤ leastN m ∧ mostN m + (fN m : Int) ≤ mostN n + (fN n : Int) ∧ leastN n ≤ mostN n := by
  have hn := hold_bin hm h
  have e1 := fN_prec hm
  have e2 := fN_prec hn
  obtain ⟨_, _, _, h4, h5, h6⟩ := h
  refine ⟨by omega, h5, by omega, ?_⟩
  rcases bin_cases hn with rfl | rfl | rfl | rfl | rfl | rfl <;> decide
/-- a finite number of a format is one of each that holds it -/
theorem hold_fin {m n : Int} (hm : binN m) (h : holdsP m n) {s : Bool} {x : Int} {k : Nat} (hD : isD (fN m) (leastN m) (mostN m) ⟨1, s, false, x, k⟩) :
    ∃ q c, isD (fN n) (leastN n) (mostN n) ⟨1, s, false, q, c⟩ ∧ ((k = 0 ∧ c = 0) ∨ (k ≠ 0 ∧ ∃ j : Nat, c = k * 2 ^ j ∧ q = x - j)) := by
  obtain ⟨o1, o2, o3, o4⟩ := hold_ord hm h
  rcases hD with ⟨_, _, h3, h4, h5, h6⟩ | ⟨h1, _⟩ | ⟨h1, _⟩
  · dsimp only at h3 h4 h5 h6
    by_cases h0 : k = 0
    · refine ⟨leastN n, 0, Or.inl ⟨rfl, rfl, Nat.two_pow_pos _, Int.le_refl _, o4, Or.inr rfl⟩, Or.inl ⟨h0, rfl⟩⟩
    · have hbk : bl k ≤ fN m + 1 := bl_le.2 h3
      have hb0 : bl k ≠ 0 := fun e => h0 (bl_zero.1 e)
      have hlo : 2 ^ (bl k - 1) ≤ k := bl_ge.1 (by omega)
      have hhi : k < 2 ^ bl k := bl_le.1 (Nat.le_refl _)
      obtain ⟨j, hj⟩ : ∃ j : Nat, j = min (fN n + 1 - bl k) (x - leastN n).toNat := ⟨_, rfl⟩
      have hj1 : j ≤ fN n + 1 - bl k := by omega
      have hj2 : (j : Int) ≤ x - leastN n := by omega
      have hlt : k * 2 ^ j < 2 ^ (fN n + 1) := by
        have e1 : k * 2 ^ j < 2 ^ bl k * 2 ^ j := Nat.mul_lt_mul_of_pos_right hhi (Nat.two_pow_pos _)
        rw [← Nat.pow_add] at e1
        exact Nat.lt_of_lt_of_le e1 (Nat.pow_le_pow_right (by decide) (by omega))
      refine ⟨x - j, k * 2 ^ j, Or.inl ⟨rfl, rfl, hlt, by show leastN n ≤ x - j; omega, ?_, ?_⟩, Or.inr ⟨h0, j, rfl, rfl⟩⟩
      · show x - (j : Int) ≤ mostN n
        by_cases e : j = fN n + 1 - bl k
        · omega
        · have : (j : Int) = x - leastN n := by omega
          omega
      · show 2 ^ fN n ≤ k * 2 ^ j ∨ x - (j : Int) = leastN n
        by_cases e : j = fN n + 1 - bl k
        · left
          have e1 : 2 ^ (bl k - 1) * 2 ^ j ≤ k * 2 ^ j := Nat.mul_le_mul_right _ hlo
          rw [← Nat.pow_add] at e1
          exact Nat.le_trans (Nat.pow_le_pow_right (by decide) (by omega)) e1
        · right
          omega
  · exact absurd h1 (show ¬ (1 : Int) = 2 by decide)
  · exact absurd h1 (show ¬ (1 : Int) = 3 by decide)
/-- two spellings of one number are rounded alike -/
theorem cv_alike (t d : Int) (s : Bool) {x q : Int} {k c : Nat} (h : (k = 0 ∧ c = 0) ∨ (k ≠ 0 ∧ ∃ j : Nat, c = k * 2 ^ j ∧ q = x - j)) : rdV t d s c 1 q = rdV t d s k 1 x ∧ rdF t d s c 1 q = rdF t d s k 1 x := by
  rcases h with ⟨rfl, rfl⟩ | ⟨_, j, rfl, rfl⟩
  · unfold rdV rdF
    rw [if_pos rfl, if_pos rfl, if_pos rfl, if_pos rfl]
    exact ⟨rfl, rfl⟩
  · obtain ⟨s1, s2⟩ := rd_shift t d s k (D := 1) (by decide) j 0 (x - j)
    rw [Nat.pow_zero, Nat.mul_one, show x - (j : Int) + ((j : Int) - ((0 : Nat) : Int)) = x by omega] at s1 s2
    exact ⟨s1, s2⟩
/-- what is a number of the format stays, without flags -/
theorem cv_keep {n : Int} (d : Int) (hb : binN n) {s : Bool} {q : Int} {c : Nat} (h : isD (fN n) (leastN n) (mostN n) ⟨1, s, false, q, c⟩) : rdV n d s c 1 q = pkV n ⟨1, s, false, q, c⟩ ∧ rdF n d s c 1 q = 0 := by
  have := keep_eq d hb h (b := 1) (by decide)
  rw [Nat.mul_one] at this
  exact this
theorem und_is {m : Int} {B : Nat} (h : goodN m B) : isD (fN m) (leastN m) (mostN m) (unD m B) := by
  obtain ⟨S, E, F, hS, hE, hFr, hBe⟩ := fields_in h.2
  have hu : unD m B = mean (fN m) (eN m) (leastN m) S E F := by
    unfold unD; rw [if_pos h, hBe, unp_mean _ hS hE hFr]
  rw [hu]
  exact (mean_isD (bin_fm h.1) hS hE hFr).1
theorem fN_two {n : Int} (hb : binN n) : 2 ≤ fN n := by
  rcases bin_cases hb with rfl | rfl | rfl | rfl | rfl | rfl <;> decide
/-- a pattern that comes out is one of the format -/
theorem pk_good {n : Int} {D : Dat} (hb : binN n) (h : isD (fN n) (leastN n) (mostN n) D) : goodN n (pkV n D) ∧ unD n (pkV n D) = D :=
  back_pk (by unfold pkE; rw [if_pos hb, if_pos h])
/-- into a format that holds the first one: a datum of it, that any format takes as the first one -/
theorem cv_widen {m n : Int} (hm : binN m) (h : holdsP m n) {D : Dat} (hD : isD (fN m) (leastN m) (mostN m) D) (d : Int) :
    ∃ D', isD (fN n) (leastN n) (mostN n) D' ∧ cvV n d D = pkV n D' ∧ cvF n d D = (if D.g then 1 else 0) ∧ ∀ t e, cvV t e D' = cvV t e D ∧ cvF t e D' = (if D.g then 0 else cvF t e D) := by
  have hn := hold_bin hm h
  obtain ⟨c, s, g, x, k⟩ := D
  have hD0 := hD
  rcases hD with ⟨h1, h2, h3, h4, h5, h6⟩ | ⟨h1, h2, h3, h4⟩ | ⟨h1, h2, h3, h4⟩
  · dsimp only at h1 h2
    subst h1 h2
    obtain ⟨q, c', hq, ha⟩ := hold_fin hm h hD0
    obtain ⟨k1, k2⟩ := cv_keep d hn hq
    refine ⟨⟨1, s, false, q, c'⟩, hq, ?_, ?_, fun t e => ?_⟩
    · show rdV n d s k 1 x = _
      rw [← (cv_alike n d s ha).1, k1]
    · show rdF n d s k 1 x = 0
      rw [← (cv_alike n d s ha).2, k2]
    · exact cv_alike t e s ha
  · dsimp only at h1 h2 h3 h4
    subst h1 h2 h3 h4
    exact ⟨⟨2, s, false, 0, 0⟩, Or.inr (Or.inl ⟨rfl, rfl, rfl, rfl⟩), rfl, rfl, fun t e => ⟨rfl, rfl⟩⟩
  · dsimp only at h1 h2 h3 h4
    subst h1 h2
    have hf := (hold_ord hm h).1
    have hk : k < 2 ^ (fN n - 1) := Nat.lt_of_lt_of_le h3 (Nat.pow_le_pow_right (by decide) (by omega))
    refine ⟨⟨3, s, false, 0, k⟩, Or.inr (Or.inr ⟨rfl, rfl, hk, Or.inr rfl⟩), ?_, rfl, fun t e => ⟨rfl, ?_⟩⟩
    · show pkV n ⟨3, s, false, 0, if k < 2 ^ (fN n - 1) then k else 0⟩ = _
      rw [if_pos hk]
    · cases g <;> rfl
/-- into its own format -/
theorem cv_self {m : Int} (hm : binN m) {D : Dat} (hD : isD (fN m) (leastN m) (mostN m) D) (d : Int) : cvV m d D = pkV m (hush D) ∧ cvF m d D = (if D.g then 1 else 0) := by
  obtain ⟨c, s, g, x, k⟩ := D
  have hD0 := hD
  rcases hD with ⟨h1, h2, h3, h4, h5, h6⟩ | ⟨h1, h2, h3, h4⟩ | ⟨h1, h2, h3, h4⟩
  · dsimp only at h1 h2
    subst h1 h2
    exact cv_keep d hm hD0
  · dsimp only at h1 h2 h3 h4
    subst h1 h2 h3 h4
    exact ⟨rfl, rfl⟩
  · dsimp only at h1 h2 h3 h4
    subst h1 h2
    refine ⟨?_, rfl⟩
    show pkV m ⟨3, s, false, 0, if k < 2 ^ (fN m - 1) then k else 0⟩ = _
    rw [if_pos h3]
    rfl
/-! the sign -/
theorem nbit12 {f e K : Nat} (hf : 1 ≤ f) (hK : K < 2 ^ (f - 1)) : (2 ^ e - 1) * 2 ^ f + (K + 2 ^ (f - 1)) < 2 ^ (f + e) := by
  have h1 : 2 ^ (f - 1) + 2 ^ (f - 1) = 2 ^ f := by
    rw [← Nat.two_mul, ← Nat.pow_succ', show (f - 1).succ = f by omega]
  have h2 : (2 ^ e - 1) * 2 ^ f + 2 ^ f = 2 ^ e * 2 ^ f := by
    rw [Nat.sub_mul, Nat.one_mul]
    have : 2 ^ f ≤ 2 ^ e * 2 ^ f := Nat.le_mul_of_pos_left _ (Nat.two_pow_pos _)
    omega
  have h3 : 2 ^ (f + e) = 2 ^ e * 2 ^ f := by rw [Nat.pow_add, Nat.mul_comm]
  omega
theorem pk_nan12 {n : Int} {k : Nat} (hb : binN n) (hk : k < 2 ^ (fN n - 1)) : pkV n ⟨3, true, false, 0, k⟩ = pkV n ⟨3, false, false, 0, k⟩ + 2 ^ (fN n + eN n) ∧ pkV n ⟨3, false, false, 0, k⟩ < 2 ^ (fN n + eN n) := by
  have hf2 := fN_two hb
  have h : ∀ s, isD (fN n) (leastN n) (mostN n) ⟨3, s, false, 0, k⟩ := fun s => Or.inr (Or.inr ⟨rfl, rfl, hk, Or.inr rfl⟩)
  unfold pkV
  rw [if_pos ⟨hb, h true⟩, if_pos ⟨hb, h false⟩]
  unfold pk
  simp only [show ¬ ((3 : Int) = 1) by decide, show ¬ ((3 : Int) = 2) by decide, if_false, if_true, Bool.false_eq_true, Nat.add_zero]
  exact ⟨trivial, nbit12 (by omega) hk⟩
theorem cv_turn {t : Int} (d : Int) (hb : binN t) (c : Int) (g : Bool) (x : Int) (k : Nat) : cvV t (othD d) ⟨c, true, g, x, k⟩ = cvV t d ⟨c, false, g, x, k⟩ + 2 ^ (fN t + eN t) ∧ cvF t (othD d) ⟨c, true, g, x, k⟩ = cvF t d ⟨c, false, g, x, k⟩ ∧ cvV t d ⟨c, false, g, x, k⟩ < 2 ^ (fN t + eN t) := by
  unfold cvV cvF
  dsimp only
  by_cases h2 : c = 2
  · simp only [h2, if_true]
    rw [pk_inf hb, pk_inf hb]
    unfold sgN
    simp only [if_true, Bool.false_eq_true, if_false, Nat.add_zero]
    exact ⟨trivial, trivial, tp_lt hb⟩
  · simp only [h2, if_false]
    by_cases h3 : c = 3
    · simp only [h3, if_true]
      have hk : (if k < 2 ^ (fN t - 1) then k else 0) < 2 ^ (fN t - 1) := by
        by_cases h : k < 2 ^ (fN t - 1)
        · rw [if_pos h]; exact h
        · rw [if_neg h]; exact Nat.two_pow_pos _
      obtain ⟨a, b⟩ := pk_nan12 hb hk
      exact ⟨a, trivial, b⟩
    · simp only [h3, if_false]
      exact rd_turn d _ _ hb (by decide)
/-! the order -/
/-! what Convert answers -/
def cnG (m t d : Int) (B : Nat) : Prop := goodN m B ∧ binN t ∧ knB d
instance (m t d : Int) (B : Nat) : Decidable (cnG m t d B) := by unfold cnG; infer_instance
def cnV (m t d : Int) (B : Nat) : Nat := if cnG m t d B then cvV t d (unD m B) else 0
def cnF (m t d : Int) (B : Nat) : Int := if cnG m t d B then cvF t d (unD m B) else 0
def cnE (m t d : Int) (B : Nat) : Int := if cnG m t d B then 0 else 1
theorem NT.more {K K' V : Nat} {v : Value} {w : World} (h : NT K V v w) (hk : K ≤ K') : NT K' V v w := by
  obtain ⟨g, k, cap, z, h1, h2, h3, h4, h5⟩ := h
  exact ⟨g, k, cap, z, h1, by omega, h3, h4, h5⟩
section
theorem NT.nz {K V : Nat} {v : Value} {w : World} (h : NT K V v w) : Nz K V v w := by
  obtain ⟨g, k, cap, z, h1, h2, h3, h4, h5⟩ := h
  exact ⟨_, k, cap, z, h1, h2, h3, h4, h5⟩
theorem NT.nt {K V : Nat} {v : Value} {w : World} (h : NT K V v w) : Nt K V v w := h.nz.nt
theorem npow2z (m : Nat) (w : World) (hm : m ≤ 12000) : Calls Tryd.prog 36 #[.int .i64 2, .int .i64 (m : Int)] w fun r w' => ∃ v, r = .returned (.tuple #[v, .int .i64 0]) ∧ Nt 2001 (2 ^ m) v w' ∧ Below w.heap.size w w' := by
  refine (npow_two m w hm).mono fun r w' ⟨g, k, cap, z, e1, hk, hN, hv, hs, hB⟩ => ⟨_, e1, ⟨_, k, cap, z, rfl, hk, hN, ?_⟩, hB⟩
  rw [hv]; simp
attribute [local irreducible] W4 Nz Nt NT
/-- the guessed place of the first digit -/
def gsP (k : Nat) (x : Int) : Int := (((bl k : Int) - 1 + x) * 30103).tdiv 100000 - 1
end
/-- ten to the power of e isn't above N / D -/
def tnG (N D : Nat) (e : Int) : Prop := D * 10 ^ e.toNat ≤ N * 10 ^ (-e).toNat
instance (N D : Nat) (e : Int) : Decidable (tnG N D e) := inferInstanceAs (Decidable (_ ≤ _))
theorem ten_pos (n : Nat) : 0 < (10 : Nat) ^ n := Nat.pow_pos (by decide)
/-- a step of p, from q on -/
theorem tnG_add (N D p : Nat) (q : Int) : tnG N D (q + p) ↔ D * 10 ^ q.toNat * 10 ^ p ≤ N * 10 ^ (-q).toNat := by
  unfold tnG
  by_cases h0 : 0 ≤ q
  · rw [show (-(q + (p : Int))).toNat = 0 by omega, show (-q).toNat = 0 by omega, show (q + (p : Int)).toNat = q.toNat + p by omega, Nat.pow_add, Nat.mul_assoc]
  · by_cases h1 : 0 ≤ q + (p : Int)
    · obtain ⟨a, ha⟩ : ∃ a : Nat, q = -(a : Int) := ⟨(-q).toNat, by omega⟩
      obtain ⟨b, hb⟩ : ∃ b : Nat, p = a + b := ⟨p - a, by omega⟩
      subst hb
      rw [show (-(q + ((a + b : Nat) : Int))).toNat = 0 by omega, show (-q).toNat = a by omega, show (q + ((a + b : Nat) : Int)).toNat = b by omega, show q.toNat = 0 by omega, Nat.pow_zero, Nat.mul_one, Nat.mul_one, Nat.pow_add, Nat.mul_comm (10 ^ a), ← Nat.mul_assoc]
      exact (Nat.mul_le_mul_right_iff (ten_pos a)).symm
    · obtain ⟨a, ha⟩ : ∃ a : Nat, q + (p : Int) = -(a : Int) := ⟨(-(q + p)).toNat, by omega⟩
      rw [show (-(q + (p : Int))).toNat = a by omega, show (q + (p : Int)).toNat = 0 by omega, show q.toNat = 0 by omega, show (-q).toNat = a + p by omega, Nat.pow_zero, Nat.mul_one, Nat.pow_add, ← Nat.mul_assoc]
      exact (Nat.mul_le_mul_right_iff (ten_pos p)).symm
theorem tnG_le {N D : Nat} {e e' : Int} (h : tnG N D e) (he : e' ≤ e) : tnG N D e' := by
  obtain ⟨p, rfl⟩ : ∃ p : Nat, e = e' + p := ⟨(e - e').toNat, by omega⟩
  have := (tnG_add N D p e').1 h
  unfold tnG
  exact Nat.le_trans (Nat.le_mul_of_pos_right _ (ten_pos p)) this
/-- the first digit's place of N / D -/
def TnE (N D : Nat) (E : Int) : Prop := tnG N D E ∧ ¬ tnG N D (E + 1)
theorem TnE.only {N D : Nat} {E E' : Int} (h : TnE N D E) (h' : TnE N D E') : E = E' := by
  rcases Int.lt_trichotomy E E' with q | q | q
  · exact absurd (tnG_le h'.1 (by omega)) h.2
  · exact q
  · exact absurd (tnG_le h.1 (by omega)) h'.2
/-- the exponent that rounding starts from -/
def dkQ (f : DF) (E : Int) : Int := max f.l (E - 3 * f.j)
def dkA (N : Nat) (q : Int) : Nat := N * 10 ^ (-q).toNat
def dkZ (D : Nat) (q : Int) : Nat := D * 10 ^ q.toNat
/-- the whole number that a direction takes -/
def dkC0 (f : DF) (d : Int) (s : Bool) (N D : Nat) (E : Int) : Nat := whC d s (dkA N (dkQ f E)) (dkZ D (dkQ f E))
/-- exactly -/
def dkX (f : DF) (N D : Nat) (E : Int) : Bool := decide (dkA N (dkQ f E) % dkZ D (dkQ f E) = 0)
/-- behind a carry -/
def dkC (f : DF) (d : Int) (s : Bool) (N D : Nat) (E : Int) : Nat := if 10 ^ (3 * f.j + 1) ≤ dkC0 f d s N D E then 10 ^ (3 * f.j) else dkC0 f d s N D E
def dkE (f : DF) (d : Int) (s : Bool) (N D : Nat) (E : Int) : Int := if 10 ^ (3 * f.j + 1) ≤ dkC0 f d s N D E then dkQ f E + 1 else dkQ f E
/-- the greatest exponent -/
def DF.m (f : DF) : Int := f.l + 3 * 2 ^ f.w - 1
/-- of a cohort the member nearest to an exponent -/
def mbr (m want : Int) : Nat → Nat → Int → Nat × Int
  | 0, c, q => (c, q)
  | k + 1, c, q => if q < want ∧ q < m ∧ c % 10 = 0 then mbr m want k (c / 10) (q + 1) else (c, q)
def dkM (f : DF) (d : Int) (s : Bool) (N D : Nat) (E want : Int) : Nat × Int := mbr f.m want (f.m - dkE f d s N D E).toNat (dkC f d s N D E) (dkE f d s N D E)
/-- what a fraction that isn't 0 is rounded to, and the flags -/
def dkD (f : DF) (d : Int) (s : Bool) (N D : Nat) (E want : Int) : Dat :=
  if f.m < dkE f d s N D E then (if inB d s then ⟨2, s, false, 0, 0⟩ else ⟨1, s, false, f.m, 10 ^ (3 * f.j + 1) - 1⟩)
  else if dkX f N D E then ⟨1, s, false, (dkM f d s N D E want).2, (dkM f d s N D E want).1⟩ else ⟨1, s, false, dkE f d s N D E, dkC f d s N D E⟩
def dkF (f : DF) (d : Int) (s : Bool) (N D : Nat) (E : Int) : Int :=
  if f.m < dkE f d s N D E then 10 else if dkX f N D E then 0 else if E < f.l + 3 * f.j then 12 else 8
section
def decN (n : Int) : Prop := 7 ≤ n ∧ n ≤ 12
instance (n : Int) : Decidable (decN n) := inferInstanceAs (Decidable (_ ∧ _))
/-- a decimal format's numbers -/
def fD (n : Int) : DF := if n = 7 ∨ n = 10 then ⟨20, 6, 2, -101, denseN n⟩ else if n = 8 ∨ n = 11 then ⟨50, 8, 5, -398, denseN n⟩ else ⟨110, 12, 11, -6176, denseN n⟩
/-- a pattern is a decimal format's -/
def goodD (n : Int) (B : Nat) : Prop := decN n ∧ B < 2 ^ ((fD n).t + ((fD n).w + 6))
instance (n : Int) (B : Nat) : Decidable (goodD n B) := inferInstanceAs (Decidable (_ ∧ _))
attribute [local irreducible] W4 NT NV
end
section
attribute [local irreducible] W4
instance (f : DF) (d : Dat) : Decidable (vI f d) := inferInstanceAs (Decidable (_ ∨ _))
end
section
theorem val_odd {z : Nat → Int} {k V : Nat} (hk : 0 < k) (hv : val z k = (V : Int)) : (V : Int) % 2 = z 0 % 2 := by
  have key : ∀ j, val z (j + 1) % 2 = z 0 % 2 := by
    intro j
    induction j with
    | zero => simp [val]
    | succ j ih =>
      have : val z (j + 1 + 1) = val z (j + 1) + z (j + 1) * 18446744073709551616 ^ (j + 1) := rfl
      rw [this, Int.pow_succ, show z (j + 1) * (18446744073709551616 ^ j * 18446744073709551616) = 2 * (z (j + 1) * 18446744073709551616 ^ j * 9223372036854775808) by grind, Int.add_mul_emod_self_left]
      exact ih
  obtain ⟨j, rfl⟩ : ∃ j, k = j + 1 := ⟨k - 1, by omega⟩
  rw [← hv]; exact key j
attribute [local irreducible] NV NT
end
section
/-- a binary format, as the model's floats have it -/
structure FmtOf (n : Int) (F : Ieee.Format) : Prop where
  b : binN n
  e : F.exponentBits = eN n
  f : F.fractionBits = fN n
  l : F.leastPlace = leastN n
theorem fmt_3 : FmtOf 3 Ieee.single := ⟨by decide, by decide, by decide, by decide⟩
theorem fmt_4 : FmtOf 4 Ieee.double := ⟨by decide, by decide, by decide, by decide⟩
section
variable {n : Int} {F : Ieee.Format} (h : FmtOf n F)
include h
theorem fm_bin : F.binade = 2 ^ fN n := by unfold Ieee.Format.binade; rw [h.f]
theorem fm_inf : F.infRung = tpN n := by unfold Ieee.Format.infRung tpN; rw [fm_bin h, h.e]
theorem fm_sg : F.signWeight = 2 ^ (fN n + eN n) := by unfold Ieee.Format.signWeight; rw [h.e, h.f, Nat.add_comm]
theorem fm_word (s : Bool) (r : Nat) : F.word s r = r + sgN n s := by
  unfold Ieee.Format.word sgN
  rw [fm_sg h]
  cases s
  · rfl
  · simp [Nat.add_comm]
/-- what a word stands for -/
theorem fm_read {B : Nat} (hB : goodN n B) : ((unD n B).c = 1 → F.read B = .number (unD n B).s (unD n B).k (unD n B).x) ∧ ((unD n B).c = 2 → F.read B = .infinity (unD n B).s) ∧ ((unD n B).c = 3 → ∃ s t, F.read B = .nan s t) := by
  obtain ⟨S, E, Fr, hS, hE, hFr, hBe⟩ := fields_in hB.2
  have hu : unD n B = mean (fN n) (eN n) (leastN n) S E Fr := by
    unfold unD; rw [if_pos hB, hBe, unp_mean _ hS hE hFr]
  rw [hu]
  have hq0 := Nat.two_pow_pos (fN n)
  have hW : 2 ^ (fN n + eN n) = 2 ^ eN n * 2 ^ fN n := by rw [Nat.pow_add, Nat.mul_comm]
  have hE1 : (E + 1) * 2 ^ fN n ≤ 2 ^ eN n * 2 ^ fN n := Nat.mul_le_mul_right _ hE
  rw [Nat.add_mul, Nat.one_mul] at hE1
  have he2 : 2 ≤ eN n := (bin_fm h.b).e2
  have hp4 : 2 ^ 2 ≤ 2 ^ eN n := Nat.pow_le_pow_right (by decide) he2
  have hr : E * 2 ^ fN n + Fr < 2 ^ (fN n + eN n) := by omega
  have hdiv : B / 2 ^ (fN n + eN n) = S := by
    rw [hBe, Nat.add_mul_div_right _ _ (Nat.two_pow_pos _), Nat.div_eq_of_lt hr, Nat.zero_add]
  have hmod : B % 2 ^ (fN n + eN n) = E * 2 ^ fN n + Fr := by
    rw [hBe, Nat.add_mul_mod_self_right, Nat.mod_eq_of_lt hr]
  have hneg : (B / F.signWeight % 2 == 1) = decide (S = 1) := by
    rw [fm_sg h, hdiv]
    have : S = 0 ∨ S = 1 := by omega
    rcases this with rfl | rfl <;> decide
  have hrq : (E * 2 ^ fN n + Fr) % 2 ^ fN n = Fr := by rw [Nat.mul_comm, Nat.mul_add_mod, Nat.mod_eq_of_lt hFr]
  have hrd : (E * 2 ^ fN n + Fr) / 2 ^ fN n = E := by rw [Nat.mul_comm, Nat.mul_add_div hq0, Nat.div_eq_of_lt hFr, Nat.add_zero]
  unfold Ieee.Format.read
  dsimp only
  rw [hneg, fm_sg h, hmod, fm_bin h, fm_inf h, h.l]
  unfold tpN mean
  by_cases h1 : E = 2 ^ eN n - 1
  · rw [if_pos h1]
    have hge : ¬ E * 2 ^ fN n + Fr < 2 ^ fN n := by
      have : 1 * 2 ^ fN n ≤ E * 2 ^ fN n := Nat.mul_le_mul_right _ (by omega)
      omega
    rw [if_neg hge, ← h1, if_neg (by omega)]
    unfold spc
    by_cases h0 : Fr = 0
    · rw [if_pos h0, if_pos (by omega)]
      refine ⟨fun q => ?_, fun _ => rfl, fun q => ?_⟩
      · exact absurd (show (2 : Int) = 1 from q) (by decide)
      · exact absurd (show (2 : Int) = 3 from q) (by decide)
    · rw [if_neg h0, if_neg (show ¬ (E * 2 ^ fN n + Fr = E * 2 ^ fN n) by omega)]
      have hc : ∀ {A B : Prop} (D1 D2 : Dat) [Decidable A], D1.c = 3 → D2.c = 3 → (if A then D1 else D2).c = 3 := fun D1 D2 _ a b => by split <;> assumption
      refine ⟨fun q => ?_, fun q => ?_, fun _ => ⟨_, _, rfl⟩⟩
      · rw [hc (B := True) _ _ rfl rfl] at q; exact absurd q (by decide)
      · rw [hc (B := True) _ _ rfl rfl] at q; exact absurd q (by decide)
  · rw [if_neg h1]
    by_cases h0 : E = 0
    · rw [if_pos h0]
      subst h0
      rw [Nat.zero_mul, Nat.zero_add, if_pos hFr]
      refine ⟨fun _ => rfl, fun q => ?_, fun q => ?_⟩
      · exact absurd (show (1 : Int) = 2 from q) (by decide)
      · exact absurd (show (1 : Int) = 3 from q) (by decide)
    · rw [if_neg h0]
      have hge : ¬ E * 2 ^ fN n + Fr < 2 ^ fN n := by
        have : 1 * 2 ^ fN n ≤ E * 2 ^ fN n := Nat.mul_le_mul_right _ (by omega)
        omega
      have hlt : E * 2 ^ fN n + Fr < (2 ^ eN n - 1) * 2 ^ fN n := by
        have : (E + 1) * 2 ^ fN n ≤ (2 ^ eN n - 1) * 2 ^ fN n := Nat.mul_le_mul_right _ (by omega)
        rw [Nat.add_mul, Nat.one_mul] at this
        omega
      rw [if_neg hge, if_pos hlt, hrq, hrd]
      refine ⟨fun _ => ?_, fun q => ?_, fun q => ?_⟩
      · dsimp only
        rw [Nat.add_comm, show ((E - 1 : Nat) : Int) = (E : Int) - 1 by omega]
      · exact absurd (show (1 : Int) = 2 from q) (by decide)
      · exact absurd (show (1 : Int) = 3 from q) (by decide)
theorem bl_log {N : Nat} (hN : N ≠ 0) : bl N = N.log2 + 1 := bl_eq (by rw [Nat.add_sub_cancel]; exact Nat.log2_self_le hN) Nat.lt_log2_self
theorem ld_log {N : Nat} (hN : N ≠ 0) : ld N 1 = (N.log2 : Int) := by
  have e1 : bl 1 = 1 := bl_eq (by decide) (by decide)
  unfold ld
  dsimp only
  rw [bl_log h hN, e1, show (((N.log2 + 1 : Nat) : Int)) - ((1 : Nat) : Int) = (N.log2 : Int) by omega]
  rw [if_neg]
  rw [show (-(N.log2 : Int)).toNat = 0 by omega, Int.toNat_natCast, Nat.pow_zero, Nat.mul_one, Nat.one_mul]
  have := Nat.log2_self_le hN
  omega
theorem fm_cut (s : Bool) (N : Nat) (hN : N ≠ 0) (e : Int) : Ieee.Toward.even.cut s (N <<< e.toNat) (-e).toNat = nrC 0 s N 1 e := by
  have hf0 : ∀ (o : Bool) (R D : Nat), faB 0 s o R D = if R = 0 then false else decide (D < R + R) || (decide (R + R = D) && o) := fun o R D => by unfold faB; rw [if_pos (rfl : (0 : Int) = 0)]
  unfold nrC nrF
  rw [hf0]
  unfold nrQ nrR
  rw [Nat.shiftLeft_eq, Nat.one_mul]
  unfold Ieee.Toward.cut
  dsimp only
  rw [Nat.one_shiftLeft]
  obtain ⟨M, hM⟩ : ∃ M, N * 2 ^ e.toNat = M := ⟨_, rfl⟩
  have hM0 : M ≠ 0 := by rw [← hM]; exact Nat.pos_iff_ne_zero.1 (Nat.mul_pos (Nat.pos_of_ne_zero hN) (Nat.two_pow_pos _))
  rw [hM]
  generalize (-e).toNat = p
  clear hM hN
  have key : ∀ g, 0 < g → (M / g + ((decide (g < 2 * (M % g)) || (g == 2 * (M % g) && M / g % 2 == 1))).toNat) = (if (if M % g = 0 then false else decide (g < M % g + M % g) || (decide (M % g + M % g = g) && decide (M / g % 2 = 1))) = true then M / g + 1 else M / g) := fun g hg => by
    generalize M / g = q
    generalize M % g = r
    by_cases h0 : r = 0
    · subst h0
      have a1 : (g == 2 * 0) = false := by simp; omega
      simp [a1]
    · rw [if_neg h0]
      have a1 : (g == 2 * r) = decide (r + r = g) := by
        by_cases hh : r + r = g
        · rw [decide_eq_true hh]; simp; omega
        · rw [decide_eq_false hh]; simp; omega
      have a2 : (decide (g < 2 * r)) = decide (g < r + r) := by congr 1; rw [Nat.two_mul]
      have a3 : (q % 2 == 1) = decide (q % 2 = 1) := by
        by_cases hh : q % 2 = 1
        · rw [decide_eq_true hh]; simp [hh]
        · rw [decide_eq_false hh]; simp [hh]
      rw [a1, a2, a3]
      cases (decide (g < r + r) || decide (r + r = g) && decide (q % 2 = 1)) <;> simp
  by_cases hp : p ≤ M.log2 + 2
  · rw [Nat.min_eq_left hp]
    exact key _ (Nat.two_pow_pos _)
  · rw [Nat.min_eq_right (by omega), key _ (Nat.two_pow_pos _)]
    have b1 := Nat.lt_log2_self (n := M)
    have b2 : 2 ^ (M.log2 + 2) = 2 * 2 ^ (M.log2 + 1) := by rw [show M.log2 + 2 = (M.log2 + 1) + 1 by omega, Nat.pow_succ]; omega
    have b3 : 2 ^ (M.log2 + 2) ≤ 2 ^ p := Nat.pow_le_pow_right (by decide) (by omega)
    rw [Nat.div_eq_of_lt (show M < 2 ^ (M.log2 + 2) by omega), Nat.mod_eq_of_lt (show M < 2 ^ (M.log2 + 2) by omega), Nat.div_eq_of_lt (show M < 2 ^ p by omega), Nat.mod_eq_of_lt (show M < 2 ^ p by omega)]
    rw [if_neg hM0, decide_eq_false (show ¬ 2 ^ (M.log2 + 2) < M + M by omega), decide_eq_false (show ¬ M + M = 2 ^ (M.log2 + 2) by omega), decide_eq_false (show ¬ 2 ^ p < M + M by omega), decide_eq_false (show ¬ M + M = 2 ^ p by omega)]
    simp
/-- the nearest word is the pattern that the document's rounding gives -/
theorem fm_near (s : Bool) {N : Nat} (hN : N ≠ 0) {x : Int} (hx : rX n N 1 x = x) : F.nearest s N x = rdV n 0 s N 1 x := by
  rw [r_pat 0 s x h.b hN (by decide)]
  unfold Ieee.Format.nearest
  rw [if_neg hN]
  dsimp only
  have hQ : max (x + (N.log2 : Int) - (F.fractionBits : Int)) F.leastPlace = rQ n N 1 x := by
    unfold rQ
    rw [hx, ld_log h hN, h.f, h.l]
    omega
  rw [hQ, h.l, fm_bin h, fm_inf h, fm_word h]
  have hc := fm_cut h s N hN (x - rQ n N 1 x)
  rw [show -(x - rQ n N 1 x) = rQ n N 1 x - x by omega] at hc
  rw [hc]
  have hp : (rQ n N 1 x - leastN n).toNat * 2 ^ fN n + nrC 0 s N 1 (x - rQ n N 1 x) = rP n 0 s N 1 x := by
    unfold rP rC
    rw [hx]
  rw [hp]
  unfold capV
  rw [if_pos (show inB 0 s = true from if_pos (Or.inl rfl))]
  split <;> omega
end
end
section
attribute [local irreducible] W4 Nz Nt NT
/-- is the next number below nearer than the next one above -/
def nbB (n x : Int) (k : Nat) : Bool := decide (leastN n < x) && decide (k = 2 ^ fN n)
end
section
/-- all but block g is as it was, but for what is new -/
structure Mut (g : Nat) (w w' : World) : Prop where
  os : w'.os = w.os
  tape : w'.tape = w.tape
  output : w'.output = w.output
  size : w.heap.size ≤ w'.heap.size
  block : ∀ k, k < w.heap.size → k ≠ g → w'.heap[k]? = w.heap[k]?
theorem Mut.refl (g : Nat) (w : World) : Mut g w w := ⟨rfl, rfl, rfl, Nat.le_refl _, fun _ _ _ => rfl⟩
theorem Mut.trans {g : Nat} {a b c : World} (h : Mut g a b) (k : Mut g b c) : Mut g a c :=
  ⟨k.os.trans h.os, k.tape.trans h.tape, k.output.trans h.output, Nat.le_trans h.size k.size, fun i hi hg => (k.block i (Nat.lt_of_lt_of_le hi h.size) hg).trans (h.block i hi hg)⟩
theorem Mut.below {g : Nat} {a b : World} (h : Below a.heap.size a b) : Mut g a b := ⟨h.os, h.tape, h.output, h.size, fun k hk _ => h.block k hk⟩
theorem Mut.set {g : Nat} {a b : World} (h : Mut g a b) (i : Nat) (v : Value) : Mut g a (b.setCell ⟨g, i, none⟩ v) :=
  h.trans ⟨rfl, rfl, rfl, by simp [World.setCell], fun k _ hk => Below.heap_setCell _ _ _ _ hk⟩
theorem Mut.out {g B : Nat} {w0 w w' : World} (h : Mut g w w') (h0 : Below B w0 w) (hB : B ≤ g) (hs : B ≤ w0.heap.size) : Below B w0 w' :=
  h0.trans ⟨h.os, h.tape, h.output, h.size, fun k hk => h.block k (by have := h0.size; omega) (by omega)⟩
attribute [local irreducible] W4 Nz Nt NT
end
/-- the parts with this sign -/
def Prt.at (p : Prt) (s : Bool) : Prt := ⟨p.cls, s, p.sn, p.dig, p.ex⟩
/-! Make by value -/
/-! Read by value -/
section
attribute [local irreducible] W4 NT
/-- a pattern lies in a block of its own -/
structure B4 (g X : Nat) (w : World) : Prop where
  lt : g < w.heap.size
  c0 : w.cell? ⟨g, 0, none⟩ = some (.int .u64 (W4 X 0))
  c1 : w.cell? ⟨g, 1, none⟩ = some (.int .u64 (W4 X 1))
  c2 : w.cell? ⟨g, 2, none⟩ = some (.int .u64 (W4 X 2))
  c3 : w.cell? ⟨g, 3, none⟩ = some (.int .u64 (W4 X 3))
  f0 : w.frozen? ⟨g, 0, none⟩ = false
  f1 : w.frozen? ⟨g, 1, none⟩ = false
  f2 : w.frozen? ⟨g, 2, none⟩ = false
  f3 : w.frozen? ⟨g, 3, none⟩ = false
theorem B4.next {g X : Nat} {w w' : World} (h : B4 g X w) (hb : Below w.heap.size w w') : B4 g X w' :=
  ⟨Nat.lt_of_lt_of_le h.lt hb.size, (hb.cell (p := ⟨g, 0, none⟩) h.lt).trans h.c0, (hb.cell (p := ⟨g, 1, none⟩) h.lt).trans h.c1, (hb.cell (p := ⟨g, 2, none⟩) h.lt).trans h.c2, (hb.cell (p := ⟨g, 3, none⟩) h.lt).trans h.c3,
    (hb.frozen (p := ⟨g, 0, none⟩) h.lt).trans h.f0, (hb.frozen (p := ⟨g, 1, none⟩) h.lt).trans h.f1, (hb.frozen (p := ⟨g, 2, none⟩) h.lt).trans h.f2, (hb.frozen (p := ⟨g, 3, none⟩) h.lt).trans h.f3⟩
theorem B4.new (w : World) (t : TypeId) : B4 w.heap.size 0 (w.alloc (.cells #[.int .u64 0, .int .u64 0, .int .u64 0, .int .u64 0] t)) := by
  refine ⟨by simp, ?_, ?_, ?_, ?_, ?_, ?_, ?_, ?_⟩ <;> first | (rw [W4_zero]; go_simp) | go_simp
/-- a pattern written over another one -/
abbrev put4B (w : World) (g X : Nat) : World := (((w.setCell ⟨g, 0, none⟩ (.int .u64 (W4 X 0))).setCell ⟨g, 1, none⟩ (.int .u64 (W4 X 1))).setCell ⟨g, 2, none⟩ (.int .u64 (W4 X 2))).setCell ⟨g, 3, none⟩ (.int .u64 (W4 X 3))
theorem B4.put {g X Y : Nat} {w : World} (h : B4 g X w) : B4 g Y (put4B w g Y) := by
  have hsm := cell_set_map
  obtain ⟨h0, h1, h2, h3, h4, h5, h6, h7, h8⟩ := h
  refine ⟨by simp; exact h0, ?_, ?_, ?_, ?_, ?_, ?_, ?_, ?_⟩ <;> go_simp
section
variable {P : Program} {a : Act} {w : World} {K : Act → World → Prop} {Q : Exit → Act → World → Prop} {d p q : Nat} {ty : TypeId} {pos : String} {after : Array Edge} {gd : Option (Nat × Bool)}
end
end
theorem sgn_times {c : Int} (a b : Int) (hc : 0 < c) : sgn (a * c) (b * c) = sgn a b := by
  unfold sgn
  have h1 : (a * c < b * c) ↔ a < b := Int.mul_lt_mul_right hc
  have h2 : (b * c < a * c) ↔ b < a := Int.mul_lt_mul_right hc
  simp only [h1, h2]
theorem sgn_nat {a b : Nat} (c : Nat) (hc : 0 < c) : sgn ((a * c : Nat) : Int) ((b * c : Nat) : Int) = sgn (a : Int) (b : Int) := by
  rw [Int.natCast_mul, Int.natCast_mul]
  exact sgn_times _ _ (by omega)
def oG (d : Dat) : Int := if d.s then -1 else 1
/-- a finite datum's coefficient at the least exponent -/
def oI (l : Int) (x : Nat) (d : Dat) : Nat := d.k * x ^ (d.x - l).toNat
end Go.Proofs.YtpemdcnneabbfaaDoor
