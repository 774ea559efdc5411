/-
  Texts that the proof leans on.
-/
import Derived.Test.YtpemdcnneabbfaaDoorJ4
set_option linter.unusedVariables false
set_option linter.unusedSectionVars false
set_option linter.unusedSimpArgs false
set_option maxRecDepth 20000
namespace Go.Proofs.YtpemdcnneabbfaaDoor
open Go.RowKit
section
/-- a lies below b, or at it, if the ends count -/
def wiN (c : Bool) (a b : Nat) : Bool := decide (a < b) || (decide (a = b) && c)
/-- what is left ahead of digit k, over Z -/
def rsN (R Z : Nat) : Nat → Nat
  | 0 => R
  | k + 1 => 10 * (rsN R Z k % Z)
def unK (c : Bool) (R d Z k : Nat) : Bool := wiN c (rsN R Z k % Z) (10 ^ k * d)
def ovK (c : Bool) (R u Z k : Nat) : Bool := wiN c (Z - rsN R Z k % Z) (10 ^ k * u)
def stK (c : Bool) (R d u Z k : Nat) : Bool := unK c R d Z k || ovK c R u Z k
section
variable {c : Bool} {R d u Z : Nat} (hZ : 0 < Z)
include hZ
theorem un_big {k : Nat} (h : Z ≤ 10 ^ k * d) : stK c R d u Z k = true := by
  unfold stK unK wiN
  have := Nat.mod_lt (rsN R Z k) hZ
  have : rsN R Z k % Z < 10 ^ k * d := by omega
  simp [this]
theorem st_ex (hd : 0 < d) : ∃ K, stK c R d u Z K = true ∧ ∀ k, k < K → stK c R d u Z k = false := by
  have h1 : ∃ K, stK c R d u Z K = true := ⟨Z, un_big hZ (by
    have h1 : Z < 10 ^ Z := Nat.lt_pow_self (by decide)
    have h2 : 10 ^ Z * 1 ≤ 10 ^ Z * d := Nat.mul_le_mul_left _ hd
    omega)⟩
  obtain ⟨K, hK⟩ := h1
  induction K using Nat.strongRecOn with
  | ind K ih =>
    by_cases h : ∃ k, k < K ∧ stK c R d u Z k = true
    · obtain ⟨k, h1, h2⟩ := h
      exact ih k h1 h2
    · refine ⟨K, hK, fun k hk => ?_⟩
      cases hh : stK c R d u Z k
      · rfl
      · exact absurd ⟨k, hk, hh⟩ h
end
/-- a power of ten isn't above a fraction c times 2^x -/
def zE (x e : Int) : Nat := 4 * 2 ^ (-x).toNat * 10 ^ e.toNat
def oE (x e : Int) : Nat := 2 ^ x.toNat * 10 ^ (-e).toNat
theorem zE_pos (x e : Int) : 0 < zE x e := Nat.mul_pos (Nat.mul_pos (by decide) (Nat.two_pow_pos _)) (Nat.pow_pos (by decide))
theorem oE_pos (x e : Int) : 0 < oE x e := Nat.mul_pos (Nat.two_pow_pos _) (Nat.pow_pos (by decide))
def tnP (c : Nat) (x e : Int) : Prop := zE x e ≤ 4 * c * oE x e
theorem ten_le_two {t p : Nat} (h : 196 * t ≤ 59 * p) : 10 ^ t ≤ 2 ^ p := by
  rcases Nat.lt_or_ge (2 ^ p) (10 ^ t) with h1 | h1
  · exfalso
    have h2 : (2 ^ p) ^ 59 < (10 ^ t) ^ 59 := Nat.pow_lt_pow_left h1 (by decide)
    have h3 : (10 ^ 59) ^ t ≤ (2 ^ 196) ^ t := Nat.pow_le_pow_left (by decide) t
    have h4 : 2 ^ (196 * t) ≤ 2 ^ (59 * p) := Nat.pow_le_pow_right (by decide) h
    have e1 : ((2 : Nat) ^ p) ^ 59 = 2 ^ (59 * p) := by rw [← Nat.pow_mul, Nat.mul_comm]
    have e2 : ((10 : Nat) ^ t) ^ 59 = (10 ^ 59) ^ t := by rw [← Nat.pow_mul, ← Nat.pow_mul, Nat.mul_comm]
    have e3 : ((2 : Nat) ^ 196) ^ t = 2 ^ (196 * t) := by rw [← Nat.pow_mul]
    rw [e1, e2] at h2
    rw [e3] at h3
    omega
  · exact h1
theorem big_ten : (2 : Nat) ^ 100000 ≤ 10 ^ 30103 := by decide +kernel
theorem two_le_ten_n {n m t q : Nat} (hn : n ≠ 0) (hb : (2 : Nat) ^ n ≤ 10 ^ m) (h : m * q ≤ n * t) : 2 ^ q ≤ 10 ^ t := by
  rcases Nat.lt_or_ge (10 ^ t) (2 ^ q) with h1 | h1
  · exfalso
    have h2 : (10 ^ t) ^ n < (2 ^ q) ^ n := Nat.pow_lt_pow_left h1 hn
    have h3 : (2 ^ n) ^ q ≤ (10 ^ m) ^ q := Nat.pow_le_pow_left hb q
    have h4 : 10 ^ (m * q) ≤ 10 ^ (n * t) := Nat.pow_le_pow_right (by decide) h
    have e1 : ((10 : Nat) ^ t) ^ n = 10 ^ (n * t) := by rw [← Nat.pow_mul, Nat.mul_comm]
    have e2 : ((2 : Nat) ^ q) ^ n = (2 ^ n) ^ q := by rw [← Nat.pow_mul, ← Nat.pow_mul, Nat.mul_comm]
    have e3 : ((10 : Nat) ^ m) ^ q = 10 ^ (m * q) := by rw [← Nat.pow_mul]
    rw [e1, e2] at h2
    rw [e3] at h3
    omega
  · exact h1
theorem two_le_ten {t q : Nat} (h : 30103 * q ≤ 100000 * t) : 2 ^ q ≤ 10 ^ t := two_le_ten_n (by decide) big_ten h
/-- the guess is never too high -/
theorem guess_ok {c L : Nat} {x : Int} (hL : 2 ^ L ≤ c) (hb : -20000 ≤ (L : Int) + x ∧ (L : Int) + x ≤ 20000) : tnP c x ((((L : Int) + x) * 30103).tdiv 100000 - 1) := by
  have hq : (((L : Int) + x) * 30103).tdiv 100000 = if 0 ≤ (L : Int) + x then (((L : Int) + x) * 30103) / 100000 else -((-((L : Int) + x) * 30103) / 100000) := by
    split
    · rw [Int.tdiv_eq_ediv_of_nonneg (by omega)]
    · rw [show ((L : Int) + x) * 30103 = -(-((L : Int) + x) * 30103) by omega, Int.neg_tdiv, Int.tdiv_eq_ediv_of_nonneg (by omega)]
  generalize hg : (((L : Int) + x) * 30103).tdiv 100000 - 1 = g at *
  unfold tnP zE oE
  rw [Nat.mul_assoc 4, Nat.mul_assoc 4]
  refine Nat.mul_le_mul_left 4 ?_
  by_cases hg0 : 0 ≤ g
  · have hp : 0 ≤ (L : Int) + x := by
      rcases Int.lt_or_le ((L : Int) + x) 0 with h | h
      · rw [if_neg (by omega)] at hq; omega
      · exact h
    rw [if_pos hp] at hq
    have h1 : 10 ^ g.toNat ≤ 2 ^ ((L : Int) + x).toNat := ten_le_two (by omega)
    rw [show (-g).toNat = 0 by omega, Nat.pow_zero, Nat.mul_one]
    by_cases hx : 0 ≤ x
    · rw [show (-x).toNat = 0 by omega, Nat.pow_zero, Nat.one_mul]
      rw [show ((L : Int) + x).toNat = L + x.toNat by omega, Nat.pow_add] at h1
      exact Nat.le_trans h1 (Nat.mul_le_mul_right _ hL)
    · rw [show x.toNat = 0 by omega, Nat.pow_zero, Nat.mul_one]
      have h2 := Nat.mul_le_mul_left (2 ^ (-x).toNat) h1
      rw [← Nat.pow_add, show (-x).toNat + ((L : Int) + x).toNat = L by omega] at h2
      exact Nat.le_trans h2 hL
  · rw [show g.toNat = 0 by omega, Nat.pow_zero, Nat.mul_one]
    by_cases hp : 0 ≤ (L : Int) + x
    · have h1 : 2 ^ (-x).toNat ≤ c * 2 ^ x.toNat := by
        by_cases hx : 0 ≤ x
        · rw [show (-x).toNat = 0 by omega, Nat.pow_zero]
          have := Nat.two_pow_pos L
          exact Nat.mul_pos (by omega) (Nat.two_pow_pos _)
        · rw [show x.toNat = 0 by omega, Nat.pow_zero, Nat.mul_one]
          exact Nat.le_trans (Nat.pow_le_pow_right (by decide) (by omega)) hL
      rw [← Nat.mul_assoc]
      exact Nat.le_trans h1 (Nat.le_mul_of_pos_right _ (Nat.pow_pos (by decide)))
    · rw [if_neg hp] at hq
      have h1 : 2 ^ (-((L : Int) + x)).toNat ≤ 10 ^ (-g).toNat := two_le_ten (by omega)
      rw [show x.toNat = 0 by omega, Nat.pow_zero, Nat.one_mul]
      rw [show (-x).toNat = L + (-((L : Int) + x)).toNat by omega, Nat.pow_add]
      exact Nat.mul_le_mul hL h1
end
end Go.Proofs.YtpemdcnneabbfaaDoor
