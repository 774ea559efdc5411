/-
  Texts that the proof leans on.
-/
import Derived.Test.YtiojbgdfmabjdaaGreatDoorJ26
import Derived.Test.YtiojbgdfmabjdaaGreatDoorJ16
import Derived.Deep.Cut
import Derived.Deep.CutRange
set_option linter.unusedVariables false
set_option linter.unusedSectionVars false
set_option linter.unusedSimpArgs false
set_option maxRecDepth 20000
namespace Go.Proofs.YtiojbgdfmabjdaaGreatDoor
open Go.RowKit
/-- what lies below a quarter -/
def tnB (d : Int) (s : Bool) : Bool := if d = 0 ∨ d = 1 then false else inB d s
theorem nr_tiny {d : Int} {s : Bool} {N D : Nat} {k : Int} (hN : N ≠ 0) (hD : D ≠ 0) (h : ld N D + k ≤ -2) : nrQ N D k = 0 ∧ nrF d s N D k = tnB d s ∧ nrR N D k ≠ 0 := by
  have key : N * 2 * 2 ^ k.toNat < D * 2 ^ (-k).toNat := by
    obtain ⟨K, hK⟩ : ∃ K : Nat, K = bl D + 1 + k.natAbs := ⟨_, rfl⟩
    obtain ⟨K1, hK1⟩ : ∃ K1 : Nat, (K1 : Int) = (K : Int) + k := ⟨((K : Int) + k).toNat, by omega⟩
    have key := cmp_sc (N * 2) D k K (by omega)
    rw [show ((K : Int) + k).toNat = K1 by omega] at key
    have hb := (ld_bd hN hD K1 (by omega)).2
    have hl1 : -(bl D : Int) ≤ ld N D := by
      have := (bl_bd hN).2.2
      unfold ld; dsimp only; split <;> omega
    refine key.2 ?_
    have h2 : D * 2 ^ (((K1 : Int) + ld N D + 1).toNat + 1) ≤ D * 2 ^ K := Nat.mul_le_mul_left _ (Nat.pow_le_pow_right (by decide) (by omega))
    rw [Nat.pow_succ, ← Nat.mul_assoc] at h2
    rw [Nat.mul_right_comm]
    omega
  have hA : N * 2 ^ k.toNat ≠ 0 := Nat.mul_ne_zero hN (Nat.pos_iff_ne_zero.1 (Nat.two_pow_pos _))
  rw [Nat.mul_right_comm] at key
  unfold nrF nrQ nrR
  generalize N * 2 ^ k.toNat = A at *
  generalize D * 2 ^ (-k).toNat = M at *
  have e1 : A / M = 0 := Nat.div_eq_of_lt (by omega)
  have e2 : A % M = A := Nat.mod_eq_of_lt (by omega)
  rw [e1, e2]
  refine ⟨rfl, ?_, hA⟩
  unfold faB tnB
  rw [if_neg hA]
  by_cases h0 : d = 0
  · rw [if_pos h0, if_pos (Or.inl h0), decide_eq_false (by omega), decide_eq_false (by omega)]; rfl
  · rw [if_neg h0]
    by_cases h1 : d = 1
    · rw [if_pos h1, if_pos (Or.inr h1), decide_eq_false (by omega)]
    · rw [if_neg h1, if_neg (by omega)]
/-- the exponent as the document takes it -/
def clZ (x : Int) : Int := min (max x (-200000)) 200000
def sN (N : Nat) (x : Int) : Nat := N * 2 ^ (clZ x).toNat
def sD (D : Nat) (x : Int) : Nat := D * 2 ^ (-(clZ x)).toNat
def lowE (N D : Nat) : Int := if sN N (-((bl N : Int) - bl D)) < sD D (-((bl N : Int) - bl D)) then (bl N : Int) - bl D - 1 else (bl N : Int) - bl D
def whC (d : Int) (s : Bool) (A B : Nat) : Nat := if faB d s (decide (A / B % 2 = 1)) (A % B) B then A / B + 1 else A / B
def dLow (N D : Nat) (x : Int) : Int := lowE (sN N x) (sD D x)
def dQ (n : Int) (N D : Nat) (x : Int) : Int := max (leastN n) (dLow N D x - ((fN n : Int) + 1) + 1)
def dA (n : Int) (N D : Nat) (x : Int) : Nat := sN (sN N x) (-(dQ n N D x))
def dB (n : Int) (N D : Nat) (x : Int) : Nat := sD (sD D x) (-(dQ n N D x))
def dC (n d : Int) (s : Bool) (N D : Nat) (x : Int) : Nat := whC d s (dA n N D x) (dB n N D x)
def dC' (n d : Int) (s : Bool) (N D : Nat) (x : Int) : Nat := if (fN n : Int) + 1 < (bl (dC n d s N D x) : Int) then dC n d s N D x / 2 else dC n d s N D x
def dQ' (n d : Int) (s : Bool) (N D : Nat) (x : Int) : Int := if (fN n : Int) + 1 < (bl (dC n d s N D x) : Int) then dQ n N D x + 1 else dQ n N D x
def doV (n d : Int) (s : Bool) (N D : Nat) (x : Int) : Nat := if N = 0 then pkV n ⟨1, s, false, leastN n, 0⟩ else if mostN n < dQ' n d s N D x then (if inB d s then pkV n ⟨2, s, false, 0, 0⟩ else lgV n s) else pkV n ⟨1, s, false, dQ' n d s N D x, dC' n d s N D x⟩
def doF (n d : Int) (s : Bool) (N D : Nat) (x : Int) : Int := if N = 0 then 0 else if mostN n < dQ' n d s N D x then 10 else if dA n N D x % dB n N D x = 0 then 0 else if dLow N D x < leastN n + ((fN n : Int) + 1) - 1 then 12 else 8

theorem sc_frac (N D a b : Nat) {n : Int} (h : (a : Int) - b = n) : ∃ κ, N * 2 ^ a = N * 2 ^ n.toNat * 2 ^ κ ∧ D * 2 ^ b = D * 2 ^ (-n).toNat * 2 ^ κ := by
  refine ⟨a - n.toNat, ?_, ?_⟩
  · rw [Nat.mul_assoc, ← Nat.pow_add]; congr 2; omega
  · rw [Nat.mul_assoc, ← Nat.pow_add]; congr 2; omega
theorem fa_sc (d : Int) (s o : Bool) (R D k : Nat) (hk : 0 < k) : faB d s o (R * k) (D * k) = faB d s o R D := by
  have e1 : R * k = 0 ↔ R = 0 := by rw [Nat.mul_eq_zero]; omega
  have e2 : D * k < R * k + R * k ↔ D < R + R := by rw [← Nat.add_mul]; exact Nat.mul_lt_mul_right hk
  have e3 : R * k + R * k = D * k ↔ R + R = D := by rw [← Nat.add_mul]; exact Nat.mul_right_cancel_iff hk
  have e4 : D * k ≤ R * k + R * k ↔ D ≤ R + R := by rw [← Nat.add_mul]; exact Nat.mul_le_mul_right_iff hk
  unfold faB
  simp only [e1, e2, e3, e4]
theorem wh_sc (d : Int) (s : Bool) (N D a b : Nat) {n : Int} (h : (a : Int) - b = n) : whC d s (N * 2 ^ a) (D * 2 ^ b) = nrC d s N D n ∧ (N * 2 ^ a % (D * 2 ^ b) = 0 ↔ nrR N D n = 0) := by
  obtain ⟨κ, e1, e2⟩ := sc_frac N D a b h
  have hk := Nat.two_pow_pos κ
  rw [e1, e2]
  unfold whC nrC nrF nrQ nrR
  rw [Nat.mul_div_mul_right _ _ hk, Nat.mul_mod_mul_right, fa_sc d s _ _ _ _ hk]
  refine ⟨rfl, ?_⟩
  rw [Nat.mul_eq_zero]; omega
theorem bl_shift {V : Nat} (h : V ≠ 0) (a : Nat) : bl (V * 2 ^ a) = bl V + a := by
  obtain ⟨h1, h2, h3⟩ := bl_bd h
  refine bl_eq ?_ ?_
  · rw [show bl V + a - 1 = (bl V - 1) + a by omega, Nat.pow_add]
    exact Nat.mul_le_mul_right _ h1
  · rw [Nat.pow_add]
    exact Nat.mul_lt_mul_of_pos_right h2 (Nat.two_pow_pos _)
theorem ld_shift {N D : Nat} (hN : N ≠ 0) (hD : D ≠ 0) (a b : Nat) : ld (N * 2 ^ a) (D * 2 ^ b) = ld N D + ((a : Int) - b) := by
  unfold ld
  dsimp only
  rw [bl_shift hN, bl_shift hD]
  obtain ⟨p, hp⟩ : ∃ p : Int, (bl N : Int) - bl D = p := ⟨_, rfl⟩
  obtain ⟨p', hp'⟩ : ∃ p' : Int, ((bl N + a : Nat) : Int) - ((bl D + b : Nat) : Int) = p' := ⟨_, rfl⟩
  rw [hp, hp']
  have hpp : p' = p + ((a : Int) - b) := by omega
  obtain ⟨κ, e1, e2⟩ := sc_frac N D (a + (-p').toNat) (b + p'.toNat) (n := -p) (by omega)
  rw [Nat.pow_add, ← Nat.mul_assoc] at e1 e2
  rw [Int.neg_neg] at e2
  rw [e1, e2]
  have hk := Nat.two_pow_pos κ
  by_cases h : N * 2 ^ (-p).toNat < D * 2 ^ p.toNat
  · rw [if_pos h, if_pos (Nat.mul_lt_mul_of_pos_right h hk)]; omega
  · rw [if_neg h, if_neg (fun hh => h (Nat.lt_of_mul_lt_mul_right hh))]; omega
theorem low_bd (N D : Nat) : (bl N : Int) - bl D - 1 ≤ lowE N D ∧ lowE N D ≤ (bl N : Int) - bl D := by
  unfold lowE; split <;> omega
theorem low_ld {N D : Nat} (h1 : -200000 ≤ (bl N : Int) - bl D) (h2 : (bl N : Int) - bl D ≤ 200000) : lowE N D = ld N D := by
  unfold lowE ld sN sD
  have e : clZ (-((bl N : Int) - bl D)) = -((bl N : Int) - bl D) := by unfold clZ; omega
  dsimp only
  rw [e, Int.neg_neg]
theorem ld_p (N D : Nat) : (bl N : Int) - bl D - 1 ≤ ld N D ∧ ld N D ≤ (bl N : Int) - bl D := by
  unfold ld; dsimp only; split <;> omega
theorem fld_bd {n : Int} (hb : binN n) : -17000 ≤ leastN n ∧ leastN n ≤ mostN n ∧ mostN n ≤ 17000 ∧ fN n ≤ 240 ∧ 1 ≤ fN n := by
  rcases bin_cases hb with rfl | rfl | rfl | rfl | rfl | rfl <;> simp [leastN, mostN, fN, precN]
theorem sD_ne {N : Nat} (h : N ≠ 0) (x : Int) : sD N x ≠ 0 := Nat.mul_ne_zero h (Nat.pos_iff_ne_zero.1 (Nat.two_pow_pos _))
/-- what the document's low is: the fraction's place, or beyond all -/
theorem dlow_ways {N D : Nat} (hN : N ≠ 0) (hD : D ≠ 0) (x : Int) : dLow N D x = ld N D + clZ x ∨ (dLow N D x < -199999 ∧ ld N D + clZ x < -199999) ∨ (199999 ≤ dLow N D x ∧ 199999 ≤ ld N D + clZ x) := by
  have e1 := bl_shift hN (clZ x).toNat
  have e2 := bl_shift hD (-(clZ x)).toNat
  have hp := ld_p N D
  have hl := low_bd (sN N x) (sD D x)
  unfold dLow
  by_cases h : -200000 ≤ (bl (sN N x) : Int) - bl (sD D x) ∧ (bl (sN N x) : Int) - bl (sD D x) ≤ 200000
  · left
    rw [low_ld h.1 h.2]
    unfold sN sD
    rw [ld_shift hN hD]
    omega
  · right
    unfold sN sD at h hl ⊢
    rw [e1, e2] at h hl
    omega
/-- the fraction as the document scales it -/
theorem d_scale (n d : Int) (s : Bool) (N D : Nat) (x q : Int) (hq : -200000 ≤ q ∧ q ≤ 200000) : whC d s (sN (sN N x) (-q)) (sD (sD D x) (-q)) = nrC d s N D (clZ x - q) ∧ (sN (sN N x) (-q) % sD (sD D x) (-q) = 0 ↔ nrR N D (clZ x - q) = 0) := by
  have e : clZ (-q) = -q := by unfold clZ; omega
  have h1 : sN (sN N x) (-q) = N * 2 ^ ((clZ x).toNat + (-q).toNat) := by unfold sN; rw [e, Nat.mul_assoc, ← Nat.pow_add]
  have h2 : sD (sD D x) (-q) = D * 2 ^ ((-(clZ x)).toNat + (- -q).toNat) := by unfold sD; rw [e, Nat.mul_assoc, ← Nat.pow_add]
  rw [h1, h2]
  exact wh_sc d s N D _ _ (by omega)
theorem do_ways {n : Int} (d : Int) (s : Bool) {N D : Nat} (x : Int) (hb : binN n) (hN : N ≠ 0) (hD : D ≠ 0) (h1 : bl N ≤ 120000) (h2 : bl D ≤ 120000) :
    (mostN n < dQ n N D x ∧ mostN n < rQ n N D x) ∨ (dQ n N D x = rQ n N D x ∧ dC n d s N D x = rC n d s N D x ∧ (dA n N D x % dB n N D x = 0 ↔ nrR N D (rX n N D x - rQ n N D x) = 0) ∧ (dLow N D x < leastN n + ((fN n : Int) + 1) - 1 ↔ ld N D + rX n N D x < (fN n : Int) + leastN n)) := by
  obtain ⟨f1, f2, f3, f4, f5⟩ := fld_bd hb
  have l1 : -120001 ≤ ld N D := by have := ld_p N D; omega
  have l2 : ld N D ≤ 120001 := by have := ld_p N D; omega
  have hw := dlow_ways hN hD x
  have hX : rX n N D x = min (max x (leastN n - 2 - ld N D)) (mostN n + ((fN n : Int) + 1) - ld N D) := rfl
  have hQ : rQ n N D x = max (leastN n) (ld N D + rX n N D x - ((fN n : Int) + 1) + 1) := rfl
  have hcl : clZ x = min (max x (-200000)) 200000 := rfl
  have hdQ : dQ n N D x = max (leastN n) (dLow N D x - ((fN n : Int) + 1) + 1) := rfl
  by_cases hB : mostN n + ((fN n : Int) + 1) - ld N D < x
  · left
    constructor <;> omega
  · right
    by_cases hC : x < leastN n - 2 - ld N D
    · have eq1 : dQ n N D x = leastN n := by omega
      have eq2 : rQ n N D x = leastN n := by omega
      have hs := d_scale n d s N D x (dQ n N D x) (by omega)
      obtain ⟨t1, t2, t3⟩ := nr_tiny (d := d) (s := s) hN hD (k := clZ x - dQ n N D x) (by omega)
      obtain ⟨u1, u2, u3⟩ := nr_tiny (d := d) (s := s) hN hD (k := rX n N D x - rQ n N D x) (by omega)
      refine ⟨by omega, ?_, ?_, by omega⟩
      · refine hs.1.trans ?_
        unfold rC nrC
        rw [t1, t2, u1, u2]
      · refine hs.2.trans ?_
        exact ⟨fun h => absurd h t3, fun h => absurd h u3⟩
    · have eX : rX n N D x = x := by omega
      have ecl : clZ x = x := by omega
      have eL : dLow N D x = ld N D + x := by omega
      have eq1 : dQ n N D x = rQ n N D x := by omega
      have hs := d_scale n d s N D x (dQ n N D x) (by omega)
      refine ⟨eq1, ?_, ?_, by omega⟩
      · refine hs.1.trans ?_
        unfold rC
        rw [ecl, eX, eq1]
      · refine hs.2.trans ?_
        rw [ecl, eX, eq1]
theorem do_eq {n : Int} (d : Int) (s : Bool) (N : Nat) {D : Nat} (x : Int) (hb : binN n) (hD : D ≠ 0) (h1 : bl N ≤ 120000) (h2 : bl D ≤ 120000) : doV n d s N D x = rdV n d s N D x ∧ doF n d s N D x = rdF n d s N D x := by
  by_cases hN : N = 0
  · unfold doV rdV doF rdF; rw [if_pos hN, if_pos hN, if_pos hN, if_pos hN]; exact ⟨rfl, rfl⟩
  rcases do_ways d s x hb hN hD h1 h2 with ⟨ha, hr⟩ | ⟨hq, hc, hx, hl⟩
  · have e1 : mostN n < dQ' n d s N D x := by unfold dQ'; split <;> omega
    have e2 : mostN n < rQ' n d s N D x := by unfold rQ'; split <;> omega
    unfold doV rdV doF rdF
    rw [if_neg hN, if_neg hN, if_neg hN, if_neg hN, if_pos e1, if_pos e1, if_pos e2, if_pos e2]
    exact ⟨rfl, rfl⟩
  · have e1 : dQ' n d s N D x = rQ' n d s N D x := by unfold dQ' rQ'; rw [hq, hc]
    have e2 : dC' n d s N D x = rC' n d s N D x := by unfold dC' rC'; rw [hc]
    unfold doV rdV doF rdF
    rw [if_neg hN, if_neg hN, if_neg hN, if_neg hN, e1, e2]
    by_cases ho : mostN n < rQ' n d s N D x
    · simp only [if_pos ho]; exact ⟨trivial, trivial⟩
    · simp only [if_neg ho]
      refine ⟨trivial, ?_⟩
      simp only [hx, hl, decide_eq_true_eq]
/-- what is packed has no more than 256 bits -/
theorem do_lt {n : Int} (d : Int) (s : Bool) {N D : Nat} (x : Int) (hb : binN n) (hN : N ≠ 0) (hD : D ≠ 0) (h1 : bl N ≤ 120000) (h2 : bl D ≤ 120000) (ho : ¬ mostN n < dQ' n d s N D x) : dC' n d s N D x < 2 ^ 256 := by
  rcases do_ways d s x hb hN hD h1 h2 with ⟨ha, hr⟩ | ⟨hq, hc, hx, hl⟩
  · exact absurd (show mostN n < dQ' n d s N D x by unfold dQ'; split <;> omega) ho
  · have e1 : dQ' n d s N D x = rQ' n d s N D x := by unfold dQ' rQ'; rw [hq, hc]
    have e2 : dC' n d s N D x = rC' n d s N D x := by unfold dC' rC'; rw [hc]
    rw [e1] at ho
    rw [e2]
    have hisd := r_isD hb hN hD ho
    obtain ⟨f1, f2, f3, f4, f5⟩ := fld_bd hb
    have h3 : rC' n d s N D x < 2 ^ (fN n + 1) := by
      rcases hisd with ⟨_, _, h, _⟩ | ⟨h, _⟩ | ⟨h, _⟩
      · exact h
      · have h' : (1 : Int) = 2 := h
        omega
      · have h' : (1 : Int) = 3 := h
        omega
    exact Nat.lt_of_lt_of_le h3 (Nat.pow_le_pow_right (by decide) (by omega))
theorem nr_shift (d : Int) (s : Bool) (N D a b : Nat) (k : Int) : nrC d s (N * 2 ^ a) (D * 2 ^ b) k = nrC d s N D (k + ((a : Int) - b)) ∧ (nrR (N * 2 ^ a) (D * 2 ^ b) k = 0 ↔ nrR N D (k + ((a : Int) - b)) = 0) := by
  have h := wh_sc d s N D (a + k.toNat) (b + (-k).toNat) (n := k + ((a : Int) - b)) (by omega)
  rw [Nat.pow_add, Nat.pow_add, ← Nat.mul_assoc, ← Nat.mul_assoc] at h
  exact h
theorem rX_shift {n : Int} {N D : Nat} (hN : N ≠ 0) (hD : D ≠ 0) (a b : Nat) (x : Int) : rX n (N * 2 ^ a) (D * 2 ^ b) x = rX n N D (x + ((a : Int) - b)) - ((a : Int) - b) := by
  unfold rX wiZ
  rw [ld_shift hN hD]
  omega
theorem rd_shift (n d : Int) (s : Bool) (N : Nat) {D : Nat} (hD : D ≠ 0) (a b : Nat) (x : Int) : rdV n d s (N * 2 ^ a) (D * 2 ^ b) x = rdV n d s N D (x + ((a : Int) - b)) ∧ rdF n d s (N * 2 ^ a) (D * 2 ^ b) x = rdF n d s N D (x + ((a : Int) - b)) := by
  by_cases hN : N = 0
  · subst hN
    rw [Nat.zero_mul]
    unfold rdV rdF
    rw [if_pos rfl, if_pos rfl, if_pos rfl, if_pos rfl]
    exact ⟨rfl, rfl⟩
  have hN' : N * 2 ^ a ≠ 0 := Nat.mul_ne_zero hN (Nat.pos_iff_ne_zero.1 (Nat.two_pow_pos _))
  have eX := rX_shift (n := n) hN hD a b x
  have eL := ld_shift hN hD a b
  have eQ : rQ n (N * 2 ^ a) (D * 2 ^ b) x = rQ n N D (x + ((a : Int) - b)) := by
    unfold rQ; rw [eX, eL]; congr 1; omega
  have hk := nr_shift d s N D a b (rX n (N * 2 ^ a) (D * 2 ^ b) x - rQ n (N * 2 ^ a) (D * 2 ^ b) x)
  rw [show rX n (N * 2 ^ a) (D * 2 ^ b) x - rQ n (N * 2 ^ a) (D * 2 ^ b) x + ((a : Int) - b) = rX n N D (x + ((a : Int) - b)) - rQ n N D (x + ((a : Int) - b)) by rw [eX, eQ]; omega] at hk
  have eC : rC n d s (N * 2 ^ a) (D * 2 ^ b) x = rC n d s N D (x + ((a : Int) - b)) := hk.1
  have eC' : rC' n d s (N * 2 ^ a) (D * 2 ^ b) x = rC' n d s N D (x + ((a : Int) - b)) := by unfold rC'; rw [eC]
  have eQ' : rQ' n d s (N * 2 ^ a) (D * 2 ^ b) x = rQ' n d s N D (x + ((a : Int) - b)) := by unfold rQ'; rw [eC, eQ]
  have eS : ld (N * 2 ^ a) (D * 2 ^ b) + rX n (N * 2 ^ a) (D * 2 ^ b) x = ld N D + rX n N D (x + ((a : Int) - b)) := by rw [eX, eL]; omega
  unfold rdV rdF
  rw [if_neg hN, if_neg hN, if_neg hN', if_neg hN', eC', eQ', eS]
  refine ⟨rfl, ?_⟩
  simp only [hk.2]
/-- the pattern and the flags of a datum that is converted -/
def cvV (n d : Int) (D : Dat) : Nat := if D.c = 2 then pkV n ⟨2, D.s, false, 0, 0⟩ else if D.c = 3 then pkV n ⟨3, D.s, false, 0, if D.k < 2 ^ (fN n - 1) then D.k else 0⟩ else rdV n d D.s D.k 1 D.x
def cvF (n d : Int) (D : Dat) : Int := if D.c = 2 then 0 else if D.c = 3 then (if D.g then 1 else 0) else rdF n d D.s D.k 1 D.x
section
theorem rdir_any (d : Int) (w : World) : Calls Tryz.prog 14 #[.int .i64 d] w fun e w' => e = .returned (.bool (decide (knB d))) ∧ w = w' := by
  by_cases h0 : 0 ≤ d
  · by_cases h4 : d ≤ 4
    · have e : decide (knB d) = true := by unfold knB; simp [h0, h4]
      rw [e]
      go_enter Tryz.func14, Tryz.ntmps14
      go_wp2
      go_ret
      exact ⟨by simp [h0, h4], rfl⟩
    · have e : decide (knB d) = false := by unfold knB; simp [h0, h4]
      rw [e]
      go_enter Tryz.func14, Tryz.ntmps14
      go_wp2
      go_ret
      exact ⟨by simp [h0, h4], rfl⟩
  · have e : decide (knB d) = false := by unfold knB; simp [h0]
    rw [e]
    go_enter Tryz.func14, Tryz.ntmps14
    go_wp2
    go_ret
    exact ⟨by simp [h0], rfl⟩
set_option maxHeartbeats 400000 in
theorem rfar_kn (d : Int) (s : Bool) (w : World) (hk : knB d) : Calls Tryz.prog 84 #[.int .i64 d, .bool s] w fun e w' => e = .returned (.bool (inB d s)) ∧ w = w' := by
  have hd : d = 0 ∨ d = 1 ∨ d = 2 ∨ d = 3 ∨ d = 4 := by unfold knB at hk; omega
  rcases hd with rfl | rfl | rfl | rfl | rfl <;>
  · go_enter Tryz.func84, Tryz.ntmps84
    go_wp2
    go_ret
    exact ⟨by simp [inB], rfl⟩
theorem nv_uno {W : World} {g V : Nat} {vi : Int} (hg : g = W.heap.size) (hv : vi = (V : Int)) (hb : V < 18446744073709551616) : NV 1 V (.slice (some ⟨g, 0, none⟩) 1 1) (W.alloc (.cells #[.int .u64 vi] 22)) := by
  subst hg hv
  exact ⟨_, 1, 1, oneW V, rfl, Nat.le_refl _, num_one W V (by omega), val_one1 V⟩
set_option maxHeartbeats 400000 in
theorem rpower_nt (n : Nat) (hn : n ≤ 200000) (w : World) : Calls Tryz.prog 80 #[.int .u64 2, .int .i64 (n : Int)] w fun e w' => ∃ r, e = .returned r ∧ NT 3128 (2 ^ n) r w' ∧ Below w.heap.size w w' := by
  have c84 := rleft_nt (w := w.alloc (.cells #[.int .u64 1] 22)) n (K := 1) (A := 1) (by decide) (by omega) (nv_uno rfl rfl (by decide))
  rw [Nat.one_mul] at c84
  have hb0 := below1 w (.cells #[.int .u64 1] 22)
  go_enter Tryz.func80, Tryz.ntmps80
  go_wp2_with (go_at_call 73; refine c84.mono ?_; rintro e w1 ⟨r, rfl, hr, hb1⟩)
  go_ret
  exact ⟨r, rfl, hr.more (by omega), hb0.trans (hb1.mono hb0.size)⟩
section
variable (x : Int) (vn vd : Value) (A B KK : Nat) (w : World)
set_option maxHeartbeats 1000000 in
theorem rscale_pos (h : 0 ≤ min (max x (-200000)) 200000)
    (c98 : Calls Tryz.prog 80 #[.int .u64 2, .int .i64 (min (max x (-200000)) 200000)] w fun e w' => ∃ p, e = .returned p ∧ Below w.heap.size w w' ∧ Calls Tryz.prog 76 #[vn, p] w' fun e w'' => ∃ r, e = .returned r ∧ NT KK A r w'' ∧ Below w'.heap.size w' w'') :
    Calls Tryz.prog 42 #[vn, vd, .int .u64 2, .int .i64 x] w fun e w' => ∃ r, e = .returned (.tuple #[r, vd]) ∧ NT KK A r w' ∧ Below w.heap.size w w' := by
  have hb1 : min (max x (-200000)) 200000 ≤ 200000 := by omega
  go_enter Tryz.func42, Tryz.ntmps42
  go_wp2_with (first
    | (go_at_call 80; refine c98.mono ?_; rintro e w1 ⟨p, rfl, hb1, c17⟩)
    | (go_at_call 76; refine c17.mono ?_; rintro e w2 ⟨r, rfl, hr, hb2⟩))
  exact bodyPost_ret (v := .tuple #[r, vd]) (by simp only [results, Tryz.results42]; go_simp) rfl ⟨_, rfl, hr, hb1.trans (hb2.mono hb1.size)⟩
set_option maxHeartbeats 1000000 in
theorem rscale_neg (m : Int) (hm : m = -(min (max x (-200000)) 200000)) (h : ¬ 0 ≤ min (max x (-200000)) 200000)
    (c98 : Calls Tryz.prog 80 #[.int .u64 2, .int .i64 m] w fun e w' => ∃ p, e = .returned p ∧ Below w.heap.size w w' ∧ Calls Tryz.prog 76 #[vd, p] w' fun e w'' => ∃ r, e = .returned r ∧ NT KK A r w'' ∧ Below w'.heap.size w' w'') :
    Calls Tryz.prog 42 #[vn, vd, .int .u64 2, .int .i64 x] w fun e w' => ∃ r, e = .returned (.tuple #[vn, r]) ∧ NT KK A r w' ∧ Below w.heap.size w w' := by
  have hb1 : -200000 ≤ min (max x (-200000)) 200000 := by omega
  subst hm
  go_enter Tryz.func42, Tryz.ntmps42
  go_wp2_with (first
    | (go_at_call 80; refine c98.mono ?_; rintro e w1 ⟨p, rfl, hb1, c17⟩)
    | (go_at_call 76; refine c17.mono ?_; rintro e w2 ⟨r, rfl, hr, hb2⟩))
  exact bodyPost_ret (v := .tuple #[vn, r]) (by simp only [results, Tryz.results42]; go_simp) rfl ⟨_, rfl, hr, hb1.trans (hb2.mono hb1.size)⟩
end
/-- the fraction times 2^x, as the document takes it -/
theorem rscale_nt {K N D : Nat} {vn vd : Value} {w : World} (x : Int) (hK : K ≤ 12000) (h : NT K N vn w) (h' : NT K D vd w) :
    Calls Tryz.prog 42 #[vn, vd, .int .u64 2, .int .i64 x] w fun e w' => ∃ a b, e = .returned (.tuple #[a, b]) ∧ NT (K + 3130) (sN N x) a w' ∧ NT (K + 3130) (sD D x) b w' ∧ Below w.heap.size w w' := by
  have hc : clZ x = min (max x (-200000)) 200000 := rfl
  by_cases hp : 0 ≤ min (max x (-200000)) 200000
  · have c98 := rpower_nt (clZ x).toNat (by omega) w
    rw [show ((clZ x).toNat : Int) = min (max x (-200000)) 200000 by omega] at c98
    have e0 : sD D x = D := by unfold sD; rw [show (-(clZ x)).toNat = 0 by omega, Nat.pow_zero, Nat.mul_one]
    rw [e0]
    refine (rscale_pos x vn vd (sN N x) (K + 3130) w hp (c98.mono fun e w' ⟨p, e1, e2, e3⟩ => ⟨p, e1, e3, (rtimes_nt (by omega) (by decide) (h.next e3).nv e2.nv).mono fun e w'' ⟨r, f1, f2, f3⟩ => ⟨r, f1, f2.more (by omega), f3⟩⟩)).mono fun e w' ⟨r, e1, e2, e3⟩ => ⟨_, _, e1, e2, (h'.next e3).more (by omega), e3⟩
  · have c98 := rpower_nt (-(clZ x)).toNat (by omega) w
    rw [show ((-(clZ x)).toNat : Int) = -(clZ x) by omega] at c98
    have e0 : sN N x = N := by unfold sN; rw [show (clZ x).toNat = 0 by omega, Nat.pow_zero, Nat.mul_one]
    rw [e0]
    refine (rscale_neg x vn vd (sD D x) (K + 3130) w (-(clZ x)) (by omega) hp (c98.mono fun e w' ⟨p, e1, e2, e3⟩ => ⟨p, e1, e3, (rtimes_nt (by omega) (by decide) (h'.next e3).nv e2.nv).mono fun e w'' ⟨r, f1, f2, f3⟩ => ⟨r, f1, f2.more (by omega), f3⟩⟩)).mono fun e w' ⟨r, e1, e2, e3⟩ => ⟨_, _, e1, (h.next e3).more (by omega), e2, e3⟩
section
variable (vn vd : Value) (LN LD s : Int) (w : World) (hLN : 0 ≤ LN ∧ LN ≤ 2000000) (hLD : 0 ≤ LD ∧ LD ≤ 2000000)
  (c70 : Calls Tryz.prog 70 #[vn] w fun e w' => e = .returned (.int .i64 LN) ∧ w = w')
  (c70d : Calls Tryz.prog 70 #[vd] w fun e w' => e = .returned (.int .i64 LD) ∧ w = w')
  (c67 : ∀ n : Int, n = -(LN - LD) → Calls Tryz.prog 42 #[vn, vd, .int .u64 2, .int .i64 n] w fun e w' => ∃ va vb, e = .returned (.tuple #[va, vb]) ∧ (Calls Tryz.prog 101 #[va, vb] w' fun e w'' => e = .returned (.int .i64 s) ∧ w' = w'') ∧ Below w.heap.size w w')
include hLN hLD c70 c70d c67
set_option maxHeartbeats 400000 in
theorem rexp_l (h : s < 0) : Calls Tryz.prog 81 #[vn, vd] w fun e w' => e = .returned (.int .i64 (LN - LD - 1)) ∧ Below w.heap.size w w' := by
  go_enter Tryz.func81, Tryz.ntmps81
  go_wp2_with (first
    | (go_at_call_of 70 vn; refine c70.mono ?_; rintro e w1 ⟨rfl, rfl⟩)
    | (go_at_call_of 70 vd; refine c70d.mono ?_; rintro e w1 ⟨rfl, rfl⟩)
    | (go_at_call 42; refine (c67 _ (by omega)).mono ?_; rintro e w2 ⟨va, vb, rfl, c21, hb2⟩)
    | (go_at_call 101; refine c21.mono ?_; rintro e w3 ⟨rfl, rfl⟩))
  go_ret
  exact ⟨rfl, hb2⟩
set_option maxHeartbeats 400000 in
theorem rexp_g (h : ¬ s < 0) : Calls Tryz.prog 81 #[vn, vd] w fun e w' => e = .returned (.int .i64 (LN - LD)) ∧ Below w.heap.size w w' := by
  go_enter Tryz.func81, Tryz.ntmps81
  go_wp2_with (first
    | (go_at_call_of 70 vn; refine c70.mono ?_; rintro e w1 ⟨rfl, rfl⟩)
    | (go_at_call_of 70 vd; refine c70d.mono ?_; rintro e w1 ⟨rfl, rfl⟩)
    | (go_at_call 42; refine (c67 _ (by omega)).mono ?_; rintro e w2 ⟨va, vb, rfl, c21, hb2⟩)
    | (go_at_call 101; refine c21.mono ?_; rintro e w3 ⟨rfl, rfl⟩))
  go_ret
  exact ⟨rfl, hb2⟩
end
theorem rexp_nt {K N D : Nat} {vn vd : Value} {w : World} (hK : K ≤ 12000) (h : NT K N vn w) (h' : NT K D vd w) (hbn : bl N ≤ 1000000) (hbd : bl D ≤ 1000000) :
    Calls Tryz.prog 81 #[vn, vd] w fun e w' => e = .returned (.int .i64 (lowE N D)) ∧ Below w.heap.size w w' := by
  have c67 : ∀ n : Int, n = -((bl N : Int) - bl D) → Calls Tryz.prog 42 #[vn, vd, .int .u64 2, .int .i64 n] w fun e w' => ∃ va vb, e = .returned (.tuple #[va, vb]) ∧ (Calls Tryz.prog 101 #[va, vb] w' fun e w'' => e = .returned (.int .i64 (sgn ((sN N (-((bl N : Int) - bl D)) : Nat) : Int) ((sD D (-((bl N : Int) - bl D)) : Nat) : Int))) ∧ w' = w'') ∧ Below w.heap.size w w' := by
    rintro n rfl
    exact (rscale_nt _ hK h h').mono fun e w' ⟨a, b, e1, e2, e3, e4⟩ => ⟨a, b, e1, rcmp_nv (by omega) (by omega) e2.nv e3.nv, e4⟩
  have c70 := rlen_nv (by omega) h.nv
  have c70d := rlen_nv (by omega) h'.nv
  unfold lowE
  rcases sgn_ways ((sN N (-((bl N : Int) - bl D)) : Nat) : Int) ((sD D (-((bl N : Int) - bl D)) : Nat) : Int) with ⟨a, e⟩ | ⟨a, e⟩ | ⟨a, e⟩
  · rw [if_pos (by exact Int.ofNat_lt.1 a)]
    exact rexp_l vn vd _ _ _ w (by omega) (by omega) c70 c70d c67 (by omega)
  · rw [if_neg (fun hh => by have := Int.ofNat_lt.2 hh; omega)]
    exact rexp_g vn vd _ _ _ w (by omega) (by omega) c70 c70d c67 (by omega)
  · rw [if_neg (fun hh => by have := Int.ofNat_lt.2 hh; omega)]
    exact rexp_g vn vd _ _ _ w (by omega) (by omega) c70 c70d c67 (by omega)
set_option maxHeartbeats 1000000 in
theorem over_one (ga gb s c c' : Nat) (x y : Nat → Int) (w : World) (hs : s < 20001) (h : Num w (some ⟨ga, 0, none⟩) s c x) (h' : Num w (some ⟨gb, 0, none⟩) 1 c' y) (hys : sizeL y 1 = 1) :
    Calls Tryz.prog 103 #[.slice (some ⟨ga, 0, none⟩) s c, .slice (some ⟨gb, 0, none⟩) 1 c'] w (OvOut (val x s) (val y 1) w) := by
  have hy := h'.2.2.1
  have c31 := size_num _ 1 c' y w (by omega) h'
  rw [hys] at c31
  have hy0 : y 0 ≠ 0 := by have := sizeL_top (x := y) 1 (by omega); rw [hys] at this; exact this
  have hyb := hy 0
  have ev : val y 1 = y 0 := by simp [val]
  have c107 := small_any (some ⟨ga, 0, none⟩) s c x (y 0) w (by omega) h (by omega)
  have hc : gb < w.heap.size ∧ w.cell? ⟨gb, 0, none⟩ = some (.int .u64 (y 0)) := by
    rcases h'.2.2.2.2 with ⟨h, _⟩ | ⟨b', off', h, hbs, hc⟩
    · cases h
    · cases h; exact ⟨hbs, hc 0 (by omega)⟩
  obtain ⟨hgb, hcc⟩ := hc
  rw [ev]
  clear h h'
  go_enter Tryz.func103, Tryz.ntmps103
  go_wp2_with (first | (go_at_call 99; refine c31.mono ?_; rintro e w' ⟨rfl, rfl⟩) | (go_at_call 110; refine c107.mono ?_; rintro e w1 ⟨g, k, cap, z, g', k', cap', z', rfl, hk, hk', hN, hN', hv, hv', hB, ht⟩))
  go_ret2
  exact ⟨g, k, cap, z, g', k', cap', z', rfl, by omega, by omega, hN, hN', hv, hv', hB, ht⟩
/-- quotient and rest, the document's -/
theorem rover_nt {K N D : Nat} {vn vd : Value} {w : World} (hK : K ≤ 20000) (h : NT K N vn w) (h' : NT K D vd w) (hD : D ≠ 0) :
    Calls Tryz.prog 103 #[vn, vd] w fun e w' => ∃ q r, e = .returned (.tuple #[q, r]) ∧ NV 41000 (N / D) q w' ∧ NT 41000 (N % D) r w' ∧ Below w.heap.size w w' := by
  have hk0 := h'.zero
  obtain ⟨ga, s, c, x, rfl, hs, hN, hx, hxs⟩ := h
  obtain ⟨gb, t, c', y, rfl, ht, hN', hy, hys⟩ := h'
  have fin : ∀ e w', OvOut (val x s) (val y t) w e w' → ∃ q r, e = .returned (.tuple #[q, r]) ∧ NV 41000 (N / D) q w' ∧ NT 41000 (N % D) r w' ∧ Below w.heap.size w w' := by
    rintro e w' ⟨g, k, cap, z, g', k', cap', z', e1, hk, hk', hA, hB, hv, hv', hb, htr⟩
    refine ⟨_, _, e1, ⟨g, k, cap, z, rfl, hk, hA, ?_⟩, ⟨g', k', cap', z', rfl, hk', hB, ?_, htr⟩, hb⟩
    · rw [hv, hx, hy]; rfl
    · rw [hv', hx, hy]; rfl
  have ht0 : t ≠ 0 := by
    intro e; subst e
    have : val y 0 = 0 := rfl
    omega
  by_cases ht1 : t = 1
  · subst ht1
    exact (over_one ga gb s c c' x y w (by omega) hN hN' hys).mono fin
  · exact (over_any ga gb s c t c' x y w (by omega) (by omega) (by omega) hN hN' hxs hys).mono fin
end
/-- ten to the power of e isn't above N / D -/
def tnG (N D : Nat) (e : Int) : Prop := D * 10 ^ e.toNat ≤ N * 10 ^ (-e).toNat
instance (N D : Nat) (e : Int) : Decidable (tnG N D e) := inferInstanceAs (Decidable (_ ≤ _))
theorem ten_pos (n : Nat) : 0 < (10 : Nat) ^ n := Nat.pow_pos (by decide)
/-- a step of p, from q on -/
theorem tnG_add (N D p : Nat) (q : Int) : tnG N D (q + p) ↔ D * 10 ^ q.toNat * 10 ^ p ≤ N * 10 ^ (-q).toNat := by
  unfold tnG
  by_cases h0 : 0 ≤ q
  · rw [show (-(q + (p : Int))).toNat = 0 by omega, show (-q).toNat = 0 by omega, show (q + (p : Int)).toNat = q.toNat + p by omega, Nat.pow_add, Nat.mul_assoc]
  · by_cases h1 : 0 ≤ q + (p : Int)
    · obtain ⟨a, ha⟩ : ∃ a : Nat, q = -(a : Int) := ⟨(-q).toNat, by omega⟩
      obtain ⟨b, hb⟩ : ∃ b : Nat, p = a + b := ⟨p - a, by omega⟩
      subst hb
      rw [show (-(q + ((a + b : Nat) : Int))).toNat = 0 by omega, show (-q).toNat = a by omega, show (q + ((a + b : Nat) : Int)).toNat = b by omega, show q.toNat = 0 by omega, Nat.pow_zero, Nat.mul_one, Nat.mul_one, Nat.pow_add, Nat.mul_comm (10 ^ a), ← Nat.mul_assoc]
      exact (Nat.mul_le_mul_right_iff (ten_pos a)).symm
    · obtain ⟨a, ha⟩ : ∃ a : Nat, q + (p : Int) = -(a : Int) := ⟨(-(q + p)).toNat, by omega⟩
      rw [show (-(q + (p : Int))).toNat = a by omega, show (q + (p : Int)).toNat = 0 by omega, show q.toNat = 0 by omega, show (-q).toNat = a + p by omega, Nat.pow_zero, Nat.mul_one, Nat.pow_add, ← Nat.mul_assoc]
      exact (Nat.mul_le_mul_right_iff (ten_pos p)).symm
theorem tnG_le {N D : Nat} {e e' : Int} (h : tnG N D e) (he : e' ≤ e) : tnG N D e' := by
  obtain ⟨p, rfl⟩ : ∃ p : Nat, e = e' + p := ⟨(e - e').toNat, by omega⟩
  have := (tnG_add N D p e').1 h
  unfold tnG
  exact Nat.le_trans (Nat.le_mul_of_pos_right _ (ten_pos p)) this
/-- the first digit's place of N / D -/
def TnE (N D : Nat) (E : Int) : Prop := tnG N D E ∧ ¬ tnG N D (E + 1)
theorem TnE.only {N D : Nat} {E E' : Int} (h : TnE N D E) (h' : TnE N D E') : E = E' := by
  rcases Int.lt_trichotomy E E' with q | q | q
  · exact absurd (tnG_le h'.1 (by omega)) h.2
  · exact q
  · exact absurd (tnG_le h.1 (by omega)) h'.2
/-- the exponent that rounding starts from -/
def dkQ (f : DF) (E : Int) : Int := max f.l (E - 3 * f.j)
def dkA (N : Nat) (q : Int) : Nat := N * 10 ^ (-q).toNat
def dkZ (D : Nat) (q : Int) : Nat := D * 10 ^ q.toNat
/-- the whole number that a direction takes -/
def dkC0 (f : DF) (d : Int) (s : Bool) (N D : Nat) (E : Int) : Nat := whC d s (dkA N (dkQ f E)) (dkZ D (dkQ f E))
/-- exactly -/
def dkX (f : DF) (N D : Nat) (E : Int) : Bool := decide (dkA N (dkQ f E) % dkZ D (dkQ f E) = 0)
/-- behind a carry -/
def dkC (f : DF) (d : Int) (s : Bool) (N D : Nat) (E : Int) : Nat := if 10 ^ (3 * f.j + 1) ≤ dkC0 f d s N D E then 10 ^ (3 * f.j) else dkC0 f d s N D E
def dkE (f : DF) (d : Int) (s : Bool) (N D : Nat) (E : Int) : Int := if 10 ^ (3 * f.j + 1) ≤ dkC0 f d s N D E then dkQ f E + 1 else dkQ f E
/-- the greatest exponent -/
def DF.m (f : DF) : Int := f.l + 3 * 2 ^ f.w - 1
/-- of a cohort the member nearest to an exponent -/
def mbr (m want : Int) : Nat → Nat → Int → Nat × Int
  | 0, c, q => (c, q)
  | k + 1, c, q => if q < want ∧ q < m ∧ c % 10 = 0 then mbr m want k (c / 10) (q + 1) else (c, q)
def dkM (f : DF) (d : Int) (s : Bool) (N D : Nat) (E want : Int) : Nat × Int := mbr f.m want (f.m - dkE f d s N D E).toNat (dkC f d s N D E) (dkE f d s N D E)
/-- what a fraction that isn't 0 is rounded to, and the flags -/
def dkD (f : DF) (d : Int) (s : Bool) (N D : Nat) (E want : Int) : Dat :=
  if f.m < dkE f d s N D E then (if inB d s then ⟨2, s, false, 0, 0⟩ else ⟨1, s, false, f.m, 10 ^ (3 * f.j + 1) - 1⟩)
  else if dkX f N D E then ⟨1, s, false, (dkM f d s N D E want).2, (dkM f d s N D E want).1⟩ else ⟨1, s, false, dkE f d s N D E, dkC f d s N D E⟩
def dkF (f : DF) (d : Int) (s : Bool) (N D : Nat) (E : Int) : Int :=
  if f.m < dkE f d s N D E then 10 else if dkX f N D E then 0 else if E < f.l + 3 * f.j then 12 else 8
end Go.Proofs.YtiojbgdfmabjdaaGreatDoor
