/-
  Texts that the proof leans on, joined: Wa, Ta, Tb, Wm, Wb, Npo, Str, Apn.
-/
import Derived.Test.YtpfnfaekgaipjaaGreatDoorJ9
import Derived.Test.YtpfnfaekgaipjaaGreatDoorJ23
import Derived.Test.YtpfnfaekgaipjaaGreatDoorJ13
import Derived.Test.YtpfnfaekgaipjaaGreatDoorJ14
import Derived.Test.YtpfnfaekgaipjaaGreatDoorJ22
import Derived.Test.YtpfnfaekgaipjaaGreatDoorJ16
import Derived.Deep.Cut
import Derived.Deep.CutRange
import Derived.Test.YtpfnfaekgaipjaaGreatDoorJ12
import Derived.Lib.RabinKarpLaws
import Derived.Test.YtpfnfaekgaipjaaGreatDoorJ6
set_option linter.unusedVariables false
set_option linter.unusedSectionVars false
set_option linter.unusedSimpArgs false
set_option maxRecDepth 20000
namespace Go.Proofs.YtpfnfaekgaipjaaGreatDoor
open Go.RowKit


theorem NT.more {K K' V : Nat} {v : Value} {w : World} (h : NT K V v w) (hk : K ≤ K') : NT K' V v w := by
  obtain ⟨g, k, cap, z, h1, h2, h3, h4, h5⟩ := h
  exact ⟨g, k, cap, z, h1, by omega, h3, h4, h5⟩
theorem rtimes_nt {K K' A B : Nat} {v v' : Value} {w : World} (hK : K < 1000000) (hK' : K' < 1000000) (h : NV K A v w) (h' : NV K' B v' w) :
    Calls Tryz.prog 10 #[v, v'] w fun e w' => ∃ r, e = .returned r ∧ NT (K + K' + 1) (A * B) r w' ∧ Below w.heap.size w w' := by
  obtain ⟨g, k, c, z, rfl, hk, hN, hz⟩ := h
  obtain ⟨g2, k2, c2, z2, rfl, hk2, hN2, hz2⟩ := h'
  refine (times_tr g 0 k c g2 0 k2 c2 z z2 w (by omega) (by omega) hN hN2).mono fun e w' ⟨g3, k3, cap3, z3, e1, hk3, hN3, hv3, hB, ht⟩ => ⟨_, e1, ⟨g3, k3, cap3, z3, rfl, by omega, hN3, ?_, ht⟩, hB⟩
  rw [← val_more hN3.2.2.2.1 _ hk3, hv3, hz, hz2]; simp
theorem rleft_nt {K A : Nat} {v : Value} {w : World} (s : Nat) (hK : K < 1000000) (hs : s ≤ 6300000) (h : NV K A v w) :
    Calls Tryz.prog 9 #[v, .int .i64 s] w fun e w' => ∃ r, e = .returned r ∧ NT (K + s / 64 + 1) (A * 2 ^ s) r w' ∧ Below w.heap.size w w' := by
  obtain ⟨g, k, c, z, rfl, hk, hN, hz⟩ := h
  refine (fleft_val g 0 k c s z w (by omega) (by omega) (by omega) hN).mono fun e w' ⟨g3, k3, cap3, z3, e1, hk3, hN3, hv3, hB, hf, ht⟩ => ⟨_, e1, ⟨g3, k3, cap3, z3, rfl, by rw [Int.toNat_natCast] at hk3; omega, hN3, ?_, ht⟩, hB⟩
  rw [hv3, hz, Int.toNat_natCast]; simp
theorem rtrim_nt {K V : Nat} {v : Value} {w : World} (hK : K < 1000000) (h : Nt K V v w) :
    Calls Tryz.prog 19 #[v] w fun e w' => ∃ r, e = .returned r ∧ NT K V r w' ∧ Below w.heap.size w w' := by
  obtain ⟨a, k, c, z, rfl, hk, hN, hz⟩ := h
  refine (trim_any a k c z w (by omega) hN).mono fun e w' ⟨g, cap, e1, hN', hB⟩ => ⟨_, e1, ⟨g, _, cap, z, rfl, Nat.le_trans (sizeL_le z k) hk, hN', ?_, sizeL_sizeL _ _⟩, hB⟩
  rw [val_bare, hz]
end Go.Proofs.YtpfnfaekgaipjaaGreatDoor

namespace Go.Proofs.YtpfnfaekgaipjaaGreatDoor
open Go.RowKit

def tpN (n : Int) : Nat := (2 ^ eN n - 1) * 2 ^ fN n
def sgN (n : Int) (s : Bool) : Nat := if s then 2 ^ (fN n + eN n) else 0
/-- rounded down, and rounded -/
def rB (n : Int) (N D : Nat) (x : Int) : Nat := (rQ n N D x - leastN n).toNat * 2 ^ fN n + nrQ N D (rX n N D x - rQ n N D x)
def rP (n d : Int) (s : Bool) (N D : Nat) (x : Int) : Nat := (rQ n N D x - leastN n).toNat * 2 ^ fN n + rC n d s N D x
def capV (T : Nat) (i : Bool) (p : Nat) : Nat := if T ≤ p then (if i then T else T - 1) else p
theorem rP_eq (n d : Int) (s : Bool) (N D : Nat) (x : Int) : rP n d s N D x = rB n N D x + if nrF d s N D (rX n N D x - rQ n N D x) then 1 else 0 := by
  unfold rP rB rC nrC
  cases nrF d s N D (rX n N D x - rQ n N D x)
  · rfl
  · simp only [if_true]; omega
/-- what the coefficient is -/
theorem r_coef {n : Int} (d : Int) (s : Bool) {N D : Nat} (x : Int) (hb : binN n) (hN : N ≠ 0) (hD : D ≠ 0) :
    leastN n ≤ rQ n N D x ∧ rC n d s N D x ≤ 2 ^ (fN n + 1) ∧ (rQ n N D x ≠ leastN n → 2 ^ fN n ≤ rC n d s N D x) ∧ ((fN n : Int) + 1 < (bl (rC n d s N D x) : Int) ↔ 2 ^ (fN n + 1) ≤ rC n d s N D x) := by
  have hq : leastN n ≤ rQ n N D x := Int.le_max_left _ _
  have hq2 : ld N D + (rX n N D x - rQ n N D x) ≤ (fN n : Int) := by unfold rQ; omega
  have hlt := nrQ_lt hN hD hq2
  have hge : rQ n N D x ≠ leastN n → 2 ^ fN n ≤ nrQ N D (rX n N D x - rQ n N D x) := fun h => nrQ_ge hN hD (by unfold rQ at h ⊢; omega)
  have hC : rC n d s N D x = nrQ N D (rX n N D x - rQ n N D x) ∨ rC n d s N D x = nrQ N D (rX n N D x - rQ n N D x) + 1 := by
    unfold rC nrC
    cases nrF d s N D (rX n N D x - rQ n N D x)
    · exact Or.inl rfl
    · exact Or.inr rfl
  refine ⟨hq, by omega, fun h => by have := hge h; omega, ?_⟩
  rw [← bl_ge]; omega
theorem r_over {n : Int} (d : Int) (s : Bool) {N D : Nat} (x : Int) (hb : binN n) (hN : N ≠ 0) (hD : D ≠ 0) : (mostN n < rQ' n d s N D x ↔ tpN n ≤ rP n d s N D x) ∧ (¬ mostN n < rQ' n d s N D x → (rQ' n d s N D x - leastN n).toNat * 2 ^ fN n + rC' n d s N D x = rP n d s N D x) := by
  obtain ⟨h1, h2, h3, h4⟩ := r_coef d s x hb hN hD
  have hF := bin_fm hb
  have hp := pow_e hF.e2 hF.e15
  have hm := hF.m
  have hpc : ((2 : Int) ^ eN n) = ((2 ^ eN n : Nat) : Int) := by simp
  rw [hpc] at hp hm
  unfold tpN rP rQ' rC'
  obtain ⟨a, ha⟩ : ∃ a : Nat, rQ n N D x = leastN n + a := ⟨(rQ n N D x - leastN n).toNat, by omega⟩
  rw [ha] at h1 h3 ⊢
  rw [show (leastN n + (a : Int) - leastN n).toNat = a by omega]
  rw [show 2 ^ (fN n + 1) = 2 ^ fN n + 2 ^ fN n by rw [Nat.pow_succ]; omega] at h2 h4
  have hFp : 0 < 2 ^ fN n := Nat.two_pow_pos _
  generalize rC n d s N D x = C at *
  generalize 2 ^ fN n = F at *
  generalize 2 ^ eN n = E at *
  generalize leastN n = l at *
  generalize mostN n = m at *
  obtain ⟨E', hE'⟩ : ∃ E' : Nat, E = E' + 3 := ⟨E - 3, by omega⟩
  subst hE'
  rw [show E' + 3 - 1 = E' + 2 by omega]
  by_cases hu : (fN n : Int) + 1 < (bl C : Int)
  · rw [if_pos hu, if_pos hu]
    have hC : C = F + F := by have := h4.1 hu; omega
    have e1 : a * F + C = (a + 2) * F := by rw [hC, Nat.add_mul]; omega
    rw [e1]
    refine ⟨⟨fun h => Nat.mul_le_mul_right _ (by omega), fun h => ?_⟩, fun h => ?_⟩
    · have := Nat.le_of_mul_le_mul_right h hFp
      omega
    · rw [show (l + (a : Int) + 1 - l).toNat = a + 1 by omega, hC, show (F + F) / 2 = F by omega]
      rw [Nat.add_mul, Nat.add_mul]; omega
  · rw [if_neg hu, if_neg hu]
    have hC : C < F + F := by
      have := mt h4.2 hu; omega
    refine ⟨⟨fun h => ?_, fun h => ?_⟩, fun h => ?_⟩
    · have hCF := h3 (by omega)
      have : (E' + 2) * F ≤ (a + 1) * F := Nat.mul_le_mul_right _ (by omega)
      rw [Nat.add_mul a] at this
      omega
    · rcases Nat.lt_or_ge a (E' + 1) with h5 | h5
      · have : (a + 2) * F ≤ (E' + 2) * F := Nat.mul_le_mul_right _ (by omega)
        rw [Nat.add_mul a] at this
        omega
      · omega
    · rw [show (l + (a : Int) - l).toNat = a by omega]
theorem pk_fin {n : Int} {s : Bool} {q : Int} {c : Nat} (hb : binN n) (h : isD (fN n) (leastN n) (mostN n) ⟨1, s, false, q, c⟩) : pkV n ⟨1, s, false, q, c⟩ = (q - leastN n).toNat * 2 ^ fN n + c + sgN n s := by
  unfold pkV sgN
  rw [if_pos ⟨hb, h⟩]
  unfold pk
  simp
theorem pk_inf {n : Int} {s : Bool} (hb : binN n) : pkV n ⟨2, s, false, 0, 0⟩ = tpN n + sgN n s := by
  unfold pkV sgN tpN
  rw [if_pos ⟨hb, Or.inr (Or.inl ⟨rfl, rfl, rfl, rfl⟩)⟩]
  unfold pk
  simp
theorem lg_top {n : Int} {s : Bool} (hb : binN n) : lgV n s = tpN n - 1 + sgN n s ∧ 1 ≤ tpN n := by
  unfold lgV sgN tpN
  rw [if_pos hb]
  have hF := bin_fm hb
  have hp := pow_e hF.e2 hF.e15
  have hpc : ((2 : Int) ^ eN n) = ((2 ^ eN n : Nat) : Int) := by simp
  rw [hpc] at hp
  have hFp : 0 < 2 ^ fN n := Nat.two_pow_pos _
  generalize 2 ^ fN n = F at *
  generalize 2 ^ eN n = E at *
  obtain ⟨E', rfl⟩ : ∃ E' : Nat, E = E' + 2 := ⟨E - 2, by omega⟩
  rw [show E' + 2 - 2 = E' by omega, show E' + 2 - 1 = E' + 1 by omega, Nat.add_mul]
  omega
theorem r_pat {n : Int} (d : Int) (s : Bool) {N D : Nat} (x : Int) (hb : binN n) (hN : N ≠ 0) (hD : D ≠ 0) : rdV n d s N D x = capV (tpN n) (inB d s) (rP n d s N D x) + sgN n s := by
  obtain ⟨h1, h2⟩ := r_over d s x hb hN hD
  unfold rdV capV
  rw [if_neg hN]
  by_cases ho : mostN n < rQ' n d s N D x
  · rw [if_pos ho, if_pos (h1.1 ho)]
    cases inB d s
    · simp only [Bool.false_eq_true, if_false]; exact (lg_top hb).1
    · simp only [if_true]; exact pk_inf hb
  · rw [if_neg ho, if_neg (mt h1.2 ho), pk_fin hb (r_isD hb hN hD ho), h2 ho]
theorem r_zero {n : Int} (d : Int) (s : Bool) (D : Nat) (x : Int) (hb : binN n) : rdV n d s 0 D x = sgN n s ∧ rdF n d s 0 D x = 0 := by
  have hF := bin_fm hb
  have hp := pow_e hF.e2 hF.e15
  have hm := hF.m
  have hz : isD (fN n) (leastN n) (mostN n) ⟨1, s, false, leastN n, 0⟩ := Or.inl ⟨rfl, rfl, Nat.two_pow_pos _, Int.le_refl _, by show leastN n ≤ mostN n; omega, Or.inr rfl⟩
  unfold rdV rdF
  rw [if_pos rfl, if_pos rfl, pk_fin hb hz]
  simp
theorem r_flag {n : Int} (d : Int) (s : Bool) {N D : Nat} (x : Int) (hb : binN n) (hN : N ≠ 0) (hD : D ≠ 0) : rdF n d s N D x = if tpN n ≤ rP n d s N D x then 10 else if nrR N D (rX n N D x - rQ n N D x) = 0 then 0 else if ld N D + rX n N D x < (fN n : Int) + leastN n then 12 else 8 := by
  obtain ⟨h1, h2⟩ := r_over d s x hb hN hD
  unfold rdF
  rw [if_neg hN]
  by_cases ho : mostN n < rQ' n d s N D x
  · rw [if_pos ho, if_pos (h1.1 ho)]
  · rw [if_neg ho, if_neg (mt h1.2 ho)]
    simp only [decide_eq_true_eq]
end Go.Proofs.YtpfnfaekgaipjaaGreatDoor

namespace Go.Proofs.YtpfnfaekgaipjaaGreatDoor
open Go.RowKit

/-! the other sign -/
/-! a number of the format -/
theorem ld_mul {k b : Nat} (hk : k ≠ 0) (hb : b ≠ 0) : ld (k * b) b = (bl k : Int) - 1 := by
  obtain ⟨k1, k2, k3⟩ := bl_bd hk
  have hkb : k * b ≠ 0 := Nat.mul_ne_zero hk hb
  obtain ⟨K, hK⟩ : ∃ K : Nat, K = bl b + 2 + bl (k * b) := ⟨_, rfl⟩
  obtain ⟨h1, h2⟩ := ld_bd hkb hb K (by omega)
  have hl : (bl (k * b) : Int) - bl b - 1 ≤ ld (k * b) b ∧ ld (k * b) b ≤ (bl (k * b) : Int) - bl b := by
    unfold ld; dsimp only; split <;> omega
  have hbp : 0 < b := Nat.pos_of_ne_zero hb
  rw [Nat.mul_right_comm, Nat.mul_comm (k * 2 ^ K) b] at h1 h2
  have h1' := Nat.le_of_mul_le_mul_left h1 hbp
  have h2' := Nat.lt_of_mul_lt_mul_left h2
  have a1 : 2 ^ ((K : Int) + ld (k * b) b).toNat < 2 ^ (bl k + K) := by
    rw [Nat.pow_add]
    exact Nat.lt_of_le_of_lt h1' (Nat.mul_lt_mul_of_pos_right k2 (Nat.two_pow_pos _))
  have a2 : 2 ^ (bl k - 1 + K) < 2 ^ ((K : Int) + ld (k * b) b + 1).toNat := by
    rw [Nat.pow_add]
    exact Nat.lt_of_le_of_lt (Nat.mul_le_mul_right _ k1) h2'
  have b1 := (Nat.pow_lt_pow_iff_right (by decide : 1 < 2)).1 a1
  have b2 := (Nat.pow_lt_pow_iff_right (by decide : 1 < 2)).1 a2
  omega
theorem keep_eq {n : Int} (d : Int) {s : Bool} {q : Int} {k b : Nat} (hbn : binN n) (h : isD (fN n) (leastN n) (mostN n) ⟨1, s, false, q, k⟩) (hb : b ≠ 0) : rdV n d s (k * b) b q = pkV n ⟨1, s, false, q, k⟩ ∧ rdF n d s (k * b) b q = 0 := by
  rw [pk_fin hbn h]
  have hF := bin_fm hbn
  have hp := pow_e hF.e2 hF.e15
  have hm := hF.m
  rcases h with ⟨_, _, hk1, hx1, hx2, hx3⟩ | ⟨hc, _⟩ | ⟨hc, _⟩
  · dsimp only at hk1 hx1 hx2 hx3
    by_cases hk : k = 0
    · subst hk
      rw [Nat.zero_mul, (r_zero d s b q hbn).1, (r_zero d s b q hbn).2]
      have : q = leastN n := by
        rcases hx3 with h | h
        · have := Nat.two_pow_pos (fN n); omega
        · exact h
      rw [this]; simp
    · have hkb : k * b ≠ 0 := Nat.mul_ne_zero hk hb
      have hL := ld_mul hk hb
      obtain ⟨k1, k2, k3⟩ := bl_bd hk
      have hbl : bl k ≤ fN n + 1 := bl_le.2 hk1
      have hX : rX n (k * b) b q = q := by
        unfold rX wiZ; rw [hL]; omega
      have hQ : rQ n (k * b) b q = q := by
        unfold rQ; rw [hX, hL]
        rcases hx3 with h | h
        · have : fN n < bl k := bl_ge.2 h
          omega
        · omega
      have hq0 : nrQ (k * b) b (q - q) = k ∧ nrR (k * b) b (q - q) = 0 := by
        unfold nrQ nrR
        rw [Int.sub_self]
        simp
        exact Nat.mul_div_cancel _ (Nat.pos_of_ne_zero hb)
      have hFF : nrF d s (k * b) b (q - q) = false := by
        unfold nrF faB; rw [hq0.2]; rfl
      have hPP : rP n d s (k * b) b q = (q - leastN n).toNat * 2 ^ fN n + k := by
        rw [rP_eq]; unfold rB; rw [hX, hQ, hFF, hq0.1]; simp
      have hno : ¬ tpN n ≤ rP n d s (k * b) b q := by
        rw [hPP]
        unfold tpN
        have hpc : ((2 : Int) ^ eN n) = ((2 ^ eN n : Nat) : Int) := by simp
        rw [hpc] at hp hm
        rw [Nat.pow_succ] at hk1
        have h3 : ((q - leastN n).toNat + 2) * 2 ^ fN n ≤ (2 ^ eN n - 1) * 2 ^ fN n := Nat.mul_le_mul_right _ (by omega)
        rw [Nat.add_mul] at h3
        omega
      rw [r_pat d s q hbn hkb hb, r_flag d s q hbn hkb hb]
      unfold capV
      rw [if_neg hno, if_neg hno, hPP, hX, hQ, hq0.2]
      exact ⟨rfl, rfl⟩
  · exact absurd (show (1 : Int) = 2 from hc) (by decide)
  · exact absurd (show (1 : Int) = 3 from hc) (by decide)
end Go.Proofs.YtpfnfaekgaipjaaGreatDoor

namespace Go.Proofs.YtpfnfaekgaipjaaGreatDoor
open Go.RowKit

def whC (d : Int) (s : Bool) (A B : Nat) : Nat := if faB d s (decide (A / B % 2 = 1)) (A % B) B then A / B + 1 else A / B
theorem sc_frac (N D a b : Nat) {n : Int} (h : (a : Int) - b = n) : ∃ κ, N * 2 ^ a = N * 2 ^ n.toNat * 2 ^ κ ∧ D * 2 ^ b = D * 2 ^ (-n).toNat * 2 ^ κ := by
  refine ⟨a - n.toNat, ?_, ?_⟩
  · rw [Nat.mul_assoc, ← Nat.pow_add]; congr 2; omega
  · rw [Nat.mul_assoc, ← Nat.pow_add]; congr 2; omega
theorem fa_sc (d : Int) (s o : Bool) (R D k : Nat) (hk : 0 < k) : faB d s o (R * k) (D * k) = faB d s o R D := by
  have e1 : R * k = 0 ↔ R = 0 := by rw [Nat.mul_eq_zero]; omega
  have e2 : D * k < R * k + R * k ↔ D < R + R := by rw [← Nat.add_mul]; exact Nat.mul_lt_mul_right hk
  have e3 : R * k + R * k = D * k ↔ R + R = D := by rw [← Nat.add_mul]; exact Nat.mul_right_cancel_iff hk
  have e4 : D * k ≤ R * k + R * k ↔ D ≤ R + R := by rw [← Nat.add_mul]; exact Nat.mul_le_mul_right_iff hk
  unfold faB
  simp only [e1, e2, e3, e4]
theorem wh_sc (d : Int) (s : Bool) (N D a b : Nat) {n : Int} (h : (a : Int) - b = n) : whC d s (N * 2 ^ a) (D * 2 ^ b) = nrC d s N D n ∧ (N * 2 ^ a % (D * 2 ^ b) = 0 ↔ nrR N D n = 0) := by
  obtain ⟨κ, e1, e2⟩ := sc_frac N D a b h
  have hk := Nat.two_pow_pos κ
  rw [e1, e2]
  unfold whC nrC nrF nrQ nrR
  rw [Nat.mul_div_mul_right _ _ hk, Nat.mul_mod_mul_right, fa_sc d s _ _ _ _ hk]
  refine ⟨rfl, ?_⟩
  rw [Nat.mul_eq_zero]; omega
theorem bl_shift {V : Nat} (h : V ≠ 0) (a : Nat) : bl (V * 2 ^ a) = bl V + a := by
  obtain ⟨h1, h2, h3⟩ := bl_bd h
  refine bl_eq ?_ ?_
  · rw [show bl V + a - 1 = (bl V - 1) + a by omega, Nat.pow_add]
    exact Nat.mul_le_mul_right _ h1
  · rw [Nat.pow_add]
    exact Nat.mul_lt_mul_of_pos_right h2 (Nat.two_pow_pos _)
theorem ld_shift {N D : Nat} (hN : N ≠ 0) (hD : D ≠ 0) (a b : Nat) : ld (N * 2 ^ a) (D * 2 ^ b) = ld N D + ((a : Int) - b) := by
  unfold ld
  dsimp only
  rw [bl_shift hN, bl_shift hD]
  obtain ⟨p, hp⟩ : ∃ p : Int, (bl N : Int) - bl D = p := ⟨_, rfl⟩
  obtain ⟨p', hp'⟩ : ∃ p' : Int, ((bl N + a : Nat) : Int) - ((bl D + b : Nat) : Int) = p' := ⟨_, rfl⟩
  rw [hp, hp']
  have hpp : p' = p + ((a : Int) - b) := by omega
  obtain ⟨κ, e1, e2⟩ := sc_frac N D (a + (-p').toNat) (b + p'.toNat) (n := -p) (by omega)
  rw [Nat.pow_add, ← Nat.mul_assoc] at e1 e2
  rw [Int.neg_neg] at e2
  rw [e1, e2]
  have hk := Nat.two_pow_pos κ
  by_cases h : N * 2 ^ (-p).toNat < D * 2 ^ p.toNat
  · rw [if_pos h, if_pos (Nat.mul_lt_mul_of_pos_right h hk)]; omega
  · rw [if_neg h, if_neg (fun hh => h (Nat.lt_of_mul_lt_mul_right hh))]; omega
theorem fld_bd {n : Int} (hb : binN n) : -17000 ≤ leastN n ∧ leastN n ≤ mostN n ∧ mostN n ≤ 17000 ∧ fN n ≤ 240 ∧ 1 ≤ fN n := by
  rcases bin_cases hb with rfl | rfl | rfl | rfl | rfl | rfl <;> simp [leastN, mostN, fN, precN]
end Go.Proofs.YtpfnfaekgaipjaaGreatDoor

namespace Go.Proofs.YtpfnfaekgaipjaaGreatDoor
open Go.RowKit

theorem rdir_any (d : Int) (w : World) : Calls Tryz.prog 7 #[.int .i64 d] w fun e w' => e = .returned (.bool (decide (knB d))) ∧ w = w' := by
  by_cases h0 : 0 ≤ d
  · by_cases h4 : d ≤ 4
    · have e : decide (knB d) = true := by unfold knB; simp [h0, h4]
      rw [e]
      go_enter Tryz.func7, Tryz.ntmps7
      go_wp2
      go_ret
      exact ⟨by simp [h0, h4], rfl⟩
    · have e : decide (knB d) = false := by unfold knB; simp [h0, h4]
      rw [e]
      go_enter Tryz.func7, Tryz.ntmps7
      go_wp2
      go_ret
      exact ⟨by simp [h0, h4], rfl⟩
  · have e : decide (knB d) = false := by unfold knB; simp [h0]
    rw [e]
    go_enter Tryz.func7, Tryz.ntmps7
    go_wp2
    go_ret
    exact ⟨by simp [h0], rfl⟩
end Go.Proofs.YtpfnfaekgaipjaaGreatDoor

namespace Go.Proofs.YtpfnfaekgaipjaaGreatDoor
open Go.RowKit
theorem p10_posN (n : Nat) : (0 : Int) < 10 ^ n := Int.pow_pos (by decide)

theorem val_ones : ∀ t, val (fun _ => 18446744073709551615) t = 18446744073709551616 ^ t - 1
  | 0 => by simp [val]
  | t + 1 => by
    show val (fun _ => 18446744073709551615) t + 18446744073709551615 * 18446744073709551616 ^ t = 18446744073709551616 ^ (t + 1) - 1
    rw [val_ones t, Int.pow_succ]; omega
/-- a trimmed number below B^t has t words at most -/
theorem size_bound {z : Nat → Int} (hz : Words z) {k t : Nat} (hs : sizeL z k = k) (hv : val z k < 18446744073709551616 ^ t) : k ≤ t := by
  rcases Nat.lt_or_ge t k with h | h
  · have := val_longer (x := fun _ => 18446744073709551615) (fun _ => (by decide : (0 : Int) ≤ 18446744073709551615 ∧ (18446744073709551615 : Int) ≤ 18446744073709551615)) hz h hs
    rw [val_ones] at this; omega
  · exact h
theorem p19 : ∀ t : Nat, (10 : Int) ^ (19 * t) ≤ 18446744073709551616 ^ t
  | 0 => by simp
  | t + 1 => by
    have ih := p19 t
    have e : (10 : Int) ^ (19 * (t + 1)) = 10 ^ (19 * t) * 10000000000000000000 := by rw [Nat.mul_add, Int.pow_add]; rfl
    rw [e, Int.pow_succ]
    have h0 := pw_pos t
    have h1 := p10_posN (19 * t)
    generalize (18446744073709551616 : Int) ^ t = A at *
    generalize (10 : Int) ^ (19 * t) = B at *
    omega
theorem pow_le10 {b : Int} (hb : 0 ≤ b) (hb2 : b ≤ 10) : ∀ e : Nat, 0 ≤ b ^ e ∧ b ^ e ≤ 10 ^ e
  | 0 => by simp
  | e + 1 => by
    have ih := pow_le10 hb hb2 e
    rw [Int.pow_succ, Int.pow_succ]
    exact ⟨Int.mul_nonneg ih.1 hb, Int.mul_le_mul ih.2 hb2 hb (Int.le_of_lt (p10_posN e))⟩
theorem pow_small {b : Int} (hb : 0 ≤ b) (hb2 : b ≤ 10) {e : Nat} (he : e ≤ 12000) : b ^ e < 18446744073709551616 ^ 632 := by
  have h1 := (pow_le10 hb hb2 e).2
  have h2 := p19 632
  have h3 : (10 : Int) ^ e < 10 ^ (19 * 632) := by
    obtain ⟨k, hk⟩ : ∃ k, 19 * 632 = e + 1 + k := ⟨19 * 632 - (e + 1), by omega⟩
    rw [hk, Int.pow_add, Int.pow_succ]
    have := p10_posN e
    have h4 := p10_posN k
    have h5 : (10 : Int) ^ e * 10 * 1 ≤ 10 ^ e * 10 * 10 ^ k := Int.mul_le_mul_of_nonneg_left (by omega) (by omega)
    omega
  exact Int.lt_of_lt_of_le (Int.lt_of_le_of_lt h1 h3) h2

set_option maxHeartbeats 2000000 in
theorem npow_any (b : Int) (n : Nat) (w : World) (hb : b = 5 ∨ b = 10) (hn : n ≤ 12000) :
    Calls Tryz.prog 50 #[.int .i64 b, .int .i64 n] w fun e w' => ∃ g k cap z, e = .returned (.tuple #[.slice (some ⟨g, 0, none⟩) k cap, .int .i64 0]) ∧ k ≤ 2001 ∧ Num w' (some ⟨g, 0, none⟩) k cap z ∧ val z k = b ^ n ∧ sizeL z k = k ∧ Below w.heap.size w w' := by
  have hb0 : 0 ≤ b ∧ b ≤ 10 := by omega
  have hbc : b = 5 ∨ b = 10 := hb
  have hb2 : (b == 2) = false := by simp; omega
  have hN1 := num_one w 1 (by decide)
  have hBB := below1 w (.cells #[.int .u64 1] 22)
  have hn' : (n : Int) ≤ 12000 := by omega
  have hlen := Tryz.bits_Len n (w.alloc (.cells #[.int .u64 1] 22)) (by omega) (by omega)
  rw [Int.toNat_natCast] at hlen
  obtain ⟨L, hL⟩ : ∃ L, Lib.bitLen n = L := ⟨_, rfl⟩
  have hL64 : L ≤ 64 := by rw [← hL]; exact bitLen64 n
  have HLn : Hid (n / 2 ^ L = 0) := by
    show _ = _
    by_cases h0 : n = 0
    · subst h0; simp
    · have := bitLen_spec n (by omega) (by omega)
      rw [hL] at this
      exact Nat.div_eq_of_lt this.2.2.2
  rw [hL] at hlen
  clear hL
  have HS1 : Hid (sizeL (oneW 1) 1 = 1) := by show _ = _; simp [sizeL, oneW]
  have hne : (b != 2) = true := by simp; omega
  have hpick : (b != 5) = true ∧ (b != 10) = false ∨ (b != 5) = false := by rcases hb with rfl | rfl <;> decide
  have hps : ∀ e, e ≤ 12000 → b ^ e < 18446744073709551616 ^ 632 := fun e he => pow_small hb0.1 hb0.2 he
  have HPS : Hid (∀ e, e ≤ 12000 → b ^ e < 18446744073709551616 ^ 632) := hps
  clear hps hb
  rcases hpick with ⟨h5, h10⟩ | h5
  all_goals
    go_enter Tryz.func50, Tryz.ntmps50
    go_wp2_with (go_at_call 74; refine hlen.mono ?_; rintro e w' ⟨rfl, rfl⟩)
    generalize w.alloc (.cells #[.int .u64 1] 22) = wA at *
    go_loopw [6, 7, 40, 51] (fun pv iv u40 u51 wr => ∃ (k kk g p : Nat) (z : Nat → Int), k ≤ L ∧ iv = .int .i64 ((k : Int) - 1) ∧ pv = .slice (some ⟨g, 0, none⟩) kk p ∧ kk ≤ 632 ∧ Num wr (some ⟨g, 0, none⟩) kk p z ∧ sizeL z kk = kk ∧ Hid (val z kk = b ^ (n / 2 ^ k)) ∧ Below w.heap.size w wr) (fun _ iv _ _ _ => (intOf iv + 1).toNat)
    case atStart => exact ⟨L, 1, w.heap.size, 1, oneW 1, Nat.le_refl _, by go_num, rfl, by omega, hN1, HS1.out, by show _ = _; rw [val_one1, HLn.out, Int.pow_zero], hBB⟩
    case round =>
      clear hN1 hBB hlen
      obtain ⟨k, kk, g, p, z, hk, rfl, rfl, hkk, hN, hs, hv, hB⟩ := hrel
      by_cases h0 : k = 0
      · subst h0
        have HV : Hid (val z kk = b ^ n) := by show _ = _; have := hv.out; simpa using this
        have HN : Hid (Num wr (some ⟨g, 0, none⟩) kk p z) := hN
        have HS : Hid (sizeL z kk = kk) := hs
        clear hN hv hs
        go_wp2
        go_ret2
        exact ⟨g, kk, p, z, rfl, by omega, HN.out, HV.out, HS.out, hB⟩
      · obtain ⟨j, rfl⟩ : ∃ j, k = j + 1 := ⟨k - 1, by omega⟩
        have ej : ((j + 1 : Nat) : Int) - 1 = j := by omega
        rw [ej]
        obtain ⟨e, he⟩ : ∃ e, n / 2 ^ j = e := ⟨_, rfl⟩
        have hcast : (n : Int) / 2 ^ j = (e : Int) := by rw [← he, Int.natCast_ediv, powCast]
        have hen : e ≤ n := by rw [← he]; exact Nat.div_le_self _ _
        have hand := Go.Proofs.and_one e (by omega)
        have hhalf : n / 2 ^ (j + 1) = e / 2 := by rw [Nat.pow_succ, ← Nat.div_div_eq_div_mul, he]
        have m1 := nmul_any (some ⟨g, 0, none⟩) (some ⟨g, 0, none⟩) kk p kk p z z wr (by omega) (by omega) hN hN (by omega)
        have HV1 : Hid (val z kk * val z kk = b ^ (2 * (e / 2))) := by
          show _ = _
          rw [hv.out, hhalf, ← Int.pow_add]; congr 1; omega
        have HJ : Hid (j ≤ L) := by show _ ≤ _; omega
        have HE : Hid (n / 2 ^ j = e) := he
        clear ej he hhalf hN hs hv
        by_cases hodd : e % 2 = 1
        · rw [hodd] at hand
          go_wp2_with (go_at_call 51; refine m1.mono ?_; rintro e' w1 ⟨g1, k1, p1, z1, rfl, hk1, hN1, hv1, hs1, hb1⟩; clear m1)
          rw [HV1.out] at hv1
          have hk1b : k1 ≤ 632 := size_bound hN1.2.2.1 hs1 (by rw [hv1]; exact HPS.out _ (by omega))
          have hB1 := hB.trans (hb1.mono hB.size)
          have hNb := num_one w1 b (by omega)
          have hbb := below1 w1 (.cells #[.int .u64 b] 22)
          have hsb := sizeL_le (oneW b) 1
          have m2 := nmul_any (some ⟨g1, 0, none⟩) (some ⟨w1.heap.size, 0, none⟩) k1 p1 1 1 z1 (oneW b) (w1.alloc (.cells #[.int .u64 b] 22)) (by omega) (by omega) (hN1.next hbb) hNb (by omega)
          have HBB : Hid (Below w.heap.size w (w1.alloc (.cells #[.int .u64 b] 22))) := hB1.trans (hbb.mono hB1.size)
          clear hN1 hNb hbb
          go_wp2_with (go_at_call 51; refine m2.mono ?_; rintro e' w2 ⟨g2, k2, p2, z2, rfl, hk2, hN2, hv2, hs2, hb2⟩; clear m2)
          have hv3 : val z2 k2 = b ^ e := by
            rw [hv2, hv1, val_one1, ← Int.pow_succ]; congr 1; omega
          have hk2b : k2 ≤ 632 := size_bound hN2.2.2.1 hs2 (by rw [hv3]; exact HPS.out _ (by omega))
          have hB2 := HBB.out.trans (hb2.mono HBB.out.size)
          have HN2 : Hid (Num w2 (some ⟨g2, 0, none⟩) k2 p2 z2) := hN2
          clear hN2
          go_roundw
          case rel => exact ⟨j, k2, g2, p2, z2, HJ.out, by go_num, rfl, hk2b, HN2.out, hs2, by show _ = _; rw [HE.out, hv3], hB2⟩
          case measure => simp [intOf]
        · have he0 : e % 2 = 0 := by omega
          rw [he0] at hand
          go_wp2_with (go_at_call 51; refine m1.mono ?_; rintro e' w1 ⟨g1, k1, p1, z1, rfl, hk1, hN1, hv1, hs1, hb1⟩; clear m1)
          have hv3 : val z1 k1 = b ^ e := by
            rw [hv1, HV1.out]; congr 1; omega
          have hk1b : k1 ≤ 632 := size_bound hN1.2.2.1 hs1 (by rw [hv3]; exact HPS.out _ (by omega))
          have hB1 := hB.trans (hb1.mono hB.size)
          have HN1 : Hid (Num w1 (some ⟨g1, 0, none⟩) k1 p1 z1) := hN1
          clear hN1
          go_roundw
          case rel => exact ⟨j, k1, g1, p1, z1, HJ.out, by go_num, rfl, hk1b, HN1.out, hs1, by show _ = _; rw [HE.out, hv3], hB1⟩
          case measure => simp [intOf]
end Go.Proofs.YtpfnfaekgaipjaaGreatDoor

namespace Go.Proofs.YtpfnfaekgaipjaaGreatDoor
open Go.RowKit

/-- byte i of a text -/
def sb (s : ByteArray) (i : Nat) : Int := if h : i < s.size then ((s[i]'h).toNat : Int) else 0
theorem sb_lt {s : ByteArray} {i : Nat} (h : i < s.size) : ((s[i]'h).toNat : Int) = sb s i := by unfold sb; rw [dif_pos h]
theorem sb_bd (s : ByteArray) (i : Nat) : 0 ≤ sb s i ∧ sb s i ≤ 255 := by
  unfold sb; split
  · rename_i h; have := (s[i]'h).toNat_lt; omega
  · omega
/-- are the first k bytes digits? -/
def digB (s : ByteArray) : Nat → Bool
  | 0 => true
  | k + 1 => digB s k && decide (48 ≤ sb s k ∧ sb s k ≤ 57)
def isDigB (s : ByteArray) : Bool := digB s s.size && decide (0 < s.size)
theorem digB_false {s : ByteArray} : ∀ (n : Nat) {k : Nat}, k < n → ¬ (48 ≤ sb s k ∧ sb s k ≤ 57) → digB s n = false
  | 0, k, h, _ => by omega
  | n + 1, k, h, hb => by
    unfold digB
    by_cases e : k = n
    · subst e; simp [hb]
    · rw [digB_false n (by omega) hb]; rfl

set_option maxHeartbeats 1000000 in
theorem allDigits_any (s : ByteArray) (w : World) (hs : s.size < 4294967296) :
    Calls Tryz.prog 102 #[.string s] w fun e w' => e = .returned (.bool (isDigB s)) ∧ w = w' := by
  go_enter Tryz.func102, Tryz.ntmps102
  go_wp2
  go_loop [3, 6] (fun u3 i => ∃ k : Nat, k ≤ s.size ∧ i = .int .i64 k ∧ digB s k = true) (fun _ i => s.size - (intOf i).toNat)
  case atStart => exact ⟨0, Nat.zero_le _, rfl, rfl⟩
  case round =>
    obtain ⟨k, hk, rfl, hd⟩ := hrel
    by_cases hlt : k < s.size
    · have hki : (k : Int) < s.size := by omega
      have hsb := sb_lt hlt
      have hbd := sb_bd s k
      by_cases h1 : sb s k < 48
      · have HF : Hid (isDigB s = false) := by show _ = _; unfold isDigB; rw [digB_false s.size hlt (by omega)]; rfl
        go_wp2
        go_ret
        exact ⟨by rw [HF.out]; rfl, rfl⟩
      · by_cases h2 : 57 < sb s k
        · have HF : Hid (isDigB s = false) := by show _ = _; unfold isDigB; rw [digB_false s.size hlt (by omega)]; rfl
          go_wp2
          go_ret
          exact ⟨by rw [HF.out]; rfl, rfl⟩
        · have HD : Hid (digB s (k + 1) = true) := by show _ = _; unfold digB; rw [hd]; simp; omega
          clear hd
          go_wp2
          go_round
          case rel => exact ⟨k + 1, by omega, by go_num, HD.out⟩
          case measure => simp [intOf]; omega
    · obtain rfl : k = s.size := by omega
      have HF : Hid (isDigB s = decide (0 < s.size)) := by show _ = _; unfold isDigB; rw [hd]; simp
      clear hd
      go_wp2
      go_ret
      exact ⟨by rw [HF.out]; rfl, rfl⟩
end Go.Proofs.YtpfnfaekgaipjaaGreatDoor

namespace Go.Proofs.YtpfnfaekgaipjaaGreatDoor
open Go.RowKit

/-- the number that the first k bytes write -/
def numV (s : ByteArray) : Nat → Int
  | 0 => 0
  | k + 1 => numV s k * 10 + (sb s k - 48)
theorem digB_at {s : ByteArray} : ∀ (n : Nat), digB s n = true → ∀ k, k < n → 48 ≤ sb s k ∧ sb s k ≤ 57
  | 0, _, k, h => by omega
  | n + 1, hd, k, h => by
    unfold digB at hd
    simp at hd
    by_cases e : k = n
    · subst e; exact hd.2
    · exact digB_at n hd.1 k (by omega)
theorem numV_bd {s : ByteArray} : ∀ (n : Nat), digB s n = true → 0 ≤ numV s n ∧ numV s n < 10 ^ n
  | 0, _ => by simp [numV]
  | n + 1, hd => by
    have h1 := digB_at (n + 1) hd n (by omega)
    have h2 := numV_bd n (by unfold digB at hd; simp at hd; exact hd.1)
    simp only [numV]
    rw [Int.pow_succ]
    omega
theorem p10_le {a b : Nat} (h : a ≤ b) : (10 : Int) ^ a ≤ 10 ^ b := by
  have : (10 : Nat) ^ a ≤ 10 ^ b := Nat.pow_le_pow_right (by decide) h
  exact_mod_cast this
theorem wl_set (z : Nat → Int) (n j : Nat) (l : Int) : (wl z n).set j (.int .u64 l) = wl (fun i => if i = j then l else z i) n := by
  apply List.ext_getElem?
  intro i
  unfold wl
  rw [List.getElem?_set]
  by_cases hi : i < n
  · by_cases e : j = i
    · subst e; simp [hi]
    · simp [hi, e, Ne.symm e]
  · by_cases e : j = i
    · subst e; simp [hi]
    · simp [hi, e]
theorem wl_congr {x y : Nat → Int} (n : Nat) (h : ∀ i, i < n → x i = y i) : wl x n = wl y n := by
  unfold wl
  exact List.map_congr_left fun i hi => by rw [h i (by simpa using hi)]
theorem owns_form {w : World} {base n c : Nat} {ao : Option Addr} {xs : List Value} (h : w.ownsRow base 22 1 (.slice ao n c) n xs) : ∀ q, (Value.slice ao n c).ownBlock = some q → base ≤ q := fun q hq => (h.lt q hq).1
theorem owns_some {w : World} {base n c : Nat} {ao : Option Addr} {xs : List Value} (h : w.ownsRow base 22 1 (.slice ao n c) n xs) (hn : 0 < n) : ∃ g, ao = some ⟨g, 0, none⟩ ∧ base ≤ g := by
  obtain ⟨g, cap, e, hb, _⟩ := h.form hn
  cases e
  exact ⟨g, rfl, hb⟩
theorem wl_at (z : Nat → Int) (n j : Nat) (h : j < n) : (wl z n)[j]? = some (.int .u64 (z j)) := by unfold wl; simp [h]

/-- a number in a row of one's own -/
def Row (base : Nat) (ao : Option Addr) (n c : Nat) (x : Nat → Int) (w : World) : Prop :=
  w.ownsRow base 22 1 (.slice ao n c) n (wl x n) ∧ Words x ∧ (∀ i, n ≤ i → x i = 0) ∧ sizeL x n = n ∧ base ≤ w.heap.size

theorem apn_trim {x z : Nat → Int} {n : Nat} {S b : Int} (hx : Words x) (hz : Words z) (ht : sizeL x n = n) (hS : 1 ≤ S) (hb : 0 ≤ b) (hv : val z n = val x n * S + b) : sizeL z n = n := by
  cases n with
  | zero => rfl
  | succ m =>
    by_cases e : z m = 0
    · exfalso
      have h1 : val z m < val x (m + 1) := val_longer (x := z) hz hx (Nat.lt_succ_self m) ht
      have h2 : val z (m + 1) = val z m := by simp [val, e]
      have h3 := (val_bd hx (m + 1)).1
      have h4 : val x (m + 1) * 1 ≤ val x (m + 1) * S := Int.mul_le_mul_of_nonneg_left hS h3
      omega
    · simp [sizeL, e]

set_option maxRecDepth 20000 in
set_option maxHeartbeats 2000000 in
theorem appendPart_any (base : Nat) (a : Option Addr) (n c : Nat) (x : Nat → Int) (s : ByteArray) (w : World) (hn : n < 100000) (hs : s.size ≤ 19) (hd : digB s s.size = true) (h : Row base a n c x w) :
    Calls Tryz.prog 103 #[.slice a n c, .string s] w fun e w' => ∃ ao k cap z, e = .returned (.slice ao k cap) ∧ k ≤ n + 1 ∧ Row base ao k cap z w' ∧ val z k = val x n * 10 ^ s.size + numV s s.size ∧ Below base w w' := by
  obtain ⟨hown, hx, hx0, hxt, hbase⟩ := h
  have hdig := digB_at s.size hd
  have hnv := numV_bd s.size hd
  have hS19 : (10 : Int) ^ s.size ≤ 10 ^ 19 := p10_le hs
  have HX : Hid (Words x) := hx
  have HX0 : Hid (∀ i, n ≤ i → x i = 0) := hx0
  have HXT : Hid (sizeL x n = n) := hxt
  have HNV : Hid (0 ≤ numV s s.size ∧ numV s s.size < 10 ^ s.size) := hnv
  have HS19 : Hid ((10 : Int) ^ s.size ≤ 10 ^ 19) := hS19
  have HOWN : Hid (w.ownsRow base 22 1 (.slice a n c) n (wl x n)) := hown
  have HD : Hid (digB s s.size = true) := hd
  clear hx hx0 hxt hnv hS19 hown hd
  go_enter Tryz.func103, Tryz.ntmps103
  go_wp2
  go_loop [5, 6, 7, 12] (fun sc be u7 i => ∃ (k : Nat) (S b : Int), k ≤ s.size ∧ i = .int .i64 k ∧ sc = .int .u64 S ∧ be = .int .u64 b ∧ Hid (S = 10 ^ k ∧ b = numV s k) ∧ 0 ≤ b ∧ b < S ∧ S ≤ 10000000000000000000) (fun _ _ _ i => s.size - (intOf i).toNat)
  case atStart => exact ⟨0, 1, 0, Nat.zero_le _, rfl, rfl, rfl, ⟨by simp, rfl⟩, by decide, by decide, by decide⟩
  case round =>
    obtain ⟨k, S, b, hk, rfl, rfl, rfl, hSb, hb0, hbS, hS⟩ := hrel
    by_cases hlt : k < s.size
    · have hki : (k : Int) < s.size := by omega
      have hsb := sb_lt hlt
      have hbd := hdig k hlt
      have hS2 : S ≤ 1000000000000000000 := by
        have := p10_le (show k ≤ 18 by omega)
        rw [← hSb.out.1] at this
        exact this
      have HSB : Hid (S * 10 = 10 ^ (k + 1) ∧ b * 10 + (sb s k - 48) = numV s (k + 1)) := by
        show _ ∧ _
        obtain ⟨e1, e2⟩ := hSb.out
        exact ⟨by rw [e1, Int.pow_succ], by rw [e2]; rfl⟩
      clear hdig hSb
      go_wp2
      go_round
      case rel => exact ⟨k + 1, S * 10, b * 10 + (sb s k - 48), by omega, by go_num, by go_num, by go_num, HSB.out, by omega, by omega, by omega⟩
      case measure => simp [intOf]; omega
    · obtain rfl : k = s.size := by omega
      clear hdig hlt
      clear HNV HS19 HD
      go_wp2
      go_loopw [6, 8, 9, 28, 33] (fun be u8 u9 i u33 wr => ∃ (j : Nat) (C : Int) (z : Nat → Int), j ≤ n ∧ i = .int .i64 j ∧ be = .int .u64 C ∧ (0 ≤ C ∧ C ≤ 18446744073709551615) ∧ wr.ownsRow base 22 1 (.slice a n c) n (wl z n) ∧ Words z ∧ Hid (val z n + C * 18446744073709551616 ^ j = val x j * S + b + (val x n - val x j)) ∧ (∀ i, j ≤ i → z i = x i) ∧ Below base w wr) (fun _ _ _ i _ _ => n - (intOf i).toNat)
      case atStart => exact ⟨0, b, x, Nat.zero_le _, rfl, rfl, by omega, HOWN.out, HX.out, by show _ = _; simp [val]; omega, fun _ _ => rfl, Below.refl _ _⟩
      case round =>
        obtain ⟨j, C, z, hj, rfl, rfl, hCb, hO, hzw, hv, hzx, hU⟩ := hrel
        by_cases hlt : j < n
        · have hji : (j : Int) < n := by omega
          obtain ⟨g, rfl, hbg⟩ := owns_some hO (by omega)
          have hcj := (hO.cellAt j (by omega)).trans (wl_at z n j hlt)
          have hfj := hO.frozenAt j
          have hst := fun l => (hO.stored j (.int .u64 l))
          have hma := fun w => mulAdd_any (z j) S 0 C w (hzw j) (by omega) (by decide) hCb
          have HST : Hid (∀ l, (wr.setCell ⟨g, j, none⟩ (.int .u64 l)).ownsRow base 22 1 (.slice (some ⟨g, 0, none⟩) n c) n ((wl z n).set j (.int .u64 l)) ∧ wr.grownBy (wr.setCell ⟨g, j, none⟩ (.int .u64 l)) (some g)) := hst
          have HU : Hid (Below base w wr) := hU
          have HZW : Hid (Words z) := hzw
          have HZX : Hid (∀ i, j ≤ i → z i = x i) := hzx
          clear hO hU hzw hzx hst
          go_wp2_with (go_at_call 106; refine (hma _).mono ?_; rintro e w1 ⟨l, hi, rfl, hlh, hlb, hhb, rfl⟩)
          go_roundw
          case rel =>
            refine ⟨j + 1, hi, fun i => if i = j then l else z i, by omega, by go_num, rfl, hhb, ?_, upd_words HZW.out hlb, ?_, ?_, HU.out.grown (HST.out l).2 (Nat.le_trans hbase HU.out.size) (fun q hq => by cases hq; exact hbg)⟩
            · rw [← wl_set]; exact (HST.out l).1
            · show _ = _
              rw [val_set z j l n (by omega)]
              have e1 := hv.out
              have e3 := HZX.out j (Nat.le_refl _)
              rw [e3] at hlh ⊢
              simp only [val]
              rw [Int.pow_succ]
              generalize (18446744073709551616 : Int) ^ j = P at *
              have e2 : l * P + hi * (P * 18446744073709551616) = (x j * S + 0 + C) * P := by rw [← hlh]; grind
              grind
            · intro i hi2
              exact (if_neg (show ¬ i = j by omega)).trans (HZX.out i (by omega))
          case measure => simp [intOf]; omega
        · obtain rfl : j = n := by omega
          have hv' : val z j + C * 18446744073709551616 ^ j = val x j * S + b := by have := hv.out; omega
          have hz0 : ∀ i, j ≤ i → z i = 0 := fun i hi => (hzx i hi).trans (HX0.out i hi)
          by_cases hC : C = 0
          · subst hC
            have hv2 : val z j = val x j * S + b := by rw [← hv']; simp
            have HR : Hid (Row base a j c z wr) := ⟨hO, hzw, hz0, apn_trim HX.out hzw HXT.out (by omega) hb0 hv2, Nat.le_trans hbase hU.size⟩
            have HV : Hid (val z j = val x j * S + b) := hv2
            have HU : Hid (Below base w wr) := hU
            clear hO hU hzw hzx hz0 hv hv' hv2
            go_wp2
            go_ret
            exact ⟨a, j, c, z, rfl, by omega, HR.out, by rw [HV.out, hSb.out.1, ← hSb.out.2], HU.out⟩
          · have hC0 : 0 < C := by omega
            obtain ⟨i0, hi, hz00, hz1, hz2⟩ := info_parts Tryz.info22
            have HOWN2 : (wr.alloc (.cells #[.int .u64 C] 22)).ownsRow base 22 1 (.slice a j c) j (wl z j) := hO.alloc _
            have HNEWS : ∀ (q : Nat) (u : Value), [Value.int .u64 C][q]? = some u → (wr.alloc (.cells #[.int .u64 C] 22)).cell? ((⟨wr.heap.size, 0, none⟩ : Addr).add q) = some u := by
              intro q u hq
              match q, hq with
              | 0, hq => simp at hq; subst hq; simp [Addr.add]
            have HONE : ∀ u ∈ [Value.int .u64 C], u.oneCell' = true := by
              intro u hu; simp at hu; subst hu; rfl
            have hbs := Nat.le_trans hbase hU.size
            have HOF : Hid (∀ q, (Value.slice a j c).ownBlock = some q → base ≤ q) := owns_form hO
            have HU : Hid (Below base w wr) := hU
            have HZW : Hid (Words z) := hzw
            have HZ0 : Hid (∀ i, j ≤ i → z i = 0) := hz0
            have HV : Hid (val z j + C * 18446744073709551616 ^ j = val x j * S + b) := hv'
            clear hO hU hzw hzx hz0 hv hv'
            go_wp2_with (first | (at_builtin; refine wpList_append_lies _ rfl (.tmp 46) (.tmp 48) 31 rfl base 22 i0 (.int .u64 0) 1 8 Tryz.underlying31 hi hz00 hz1 hz2 rfl (by decide) (.slice a j c) j (wl z j) rfl HOWN2 ⟨wr.heap.size, 0, none⟩ 1 1 [Value.int .u64 C] rfl rfl HNEWS HONE (by omega) (by unfold maxLen; omega) (by omega) (by simp; omega) (wr.heap.size + 1) (by simp) ?_; intro g cap w1 hown1 hgrow hat hlt1; clear HOWN2 HNEWS HONE))
            have HB1 : Below base wr w1 := ((Below.refl _ wr).alloc hbs _).grown hgrow (by simp; omega) HOF.out
            have e1 : wl z j ++ [Value.int .u64 C] = wl (fun i => if i = j then C else z i) (j + 1) := by
              rw [← wl_succ, if_pos rfl, wl_congr (y := fun i => if i = j then C else z i) j fun i hi => (if_neg (show ¬ i = j by omega)).symm]
            rw [e1] at hown1
            have HR : Hid (Row base (some ⟨g, 0, none⟩) (j + 1) cap (fun i => if i = j then C else z i) w1) := by
              refine ⟨hown1, upd_words HZW.out hCb, fun i hi => (if_neg (show ¬ i = j by omega)).trans (HZ0.out i (by omega)), ?_, Nat.le_trans hbs HB1.size⟩
              simp [sizeL]; omega
            have HV2 : Hid (val (fun i => if i = j then C else z i) (j + 1) = val x j * S + b) := by
              show _ = _
              rw [← HV.out]
              simp only [val, if_pos]
              rw [val_congr (y := z) j fun i hi => if_neg (show ¬ i = j by omega)]
            have HB2 : Hid (Below base w w1) := HU.out.trans HB1
            clear hown1 hgrow HB1 e1
            go_wp2
            go_ret
            exact ⟨_, j + 1, cap, _, rfl, by omega, HR.out, by rw [HV2.out, hSb.out.1, ← hSb.out.2], HB2.out⟩
end Go.Proofs.YtpfnfaekgaipjaaGreatDoor
