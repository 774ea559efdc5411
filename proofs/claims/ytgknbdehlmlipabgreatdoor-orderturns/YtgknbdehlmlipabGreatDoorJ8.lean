/-
  Texts that the proof leans on.
-/
import Derived.Test.YtgknbdehlmlipabGreatDoorJ2
import Derived.Laws.Externs
set_option maxRecDepth 20000
set_option linter.unusedVariables false
set_option linter.unusedSectionVars false
set_option linter.unusedSimpArgs false
namespace Go.Proofs.YtgknbdehlmlipabGreatDoor
open Go.RowKit

def arrOf (f : Nat → Int) (n : Nat) : Array Value := ((List.range n).map fun i => Value.int .u64 (f i)).toArray
@[simp] theorem arrOf_size (f : Nat → Int) (n : Nat) : (arrOf f n).size = n := by simp [arrOf]
theorem arrOf_get (f : Nat → Int) (n i : Nat) (h : i < (arrOf f n).size) : (arrOf f n)[i]'h = .int .u64 (f i) := by simp [arrOf]
theorem arrOf_get? (f : Nat → Int) (n i : Nat) (h : i < n) : (arrOf f n)[i]? = some (.int .u64 (f i)) := by simp [arrOf, h]
theorem arrOf_set (f : Nat → Int) (n k : Nat) (v : Int) : (arrOf f n).setIfInBounds k (.int .u64 v) = arrOf (fun i => if i = k then v else f i) n := by
  apply Array.ext
  · simp
  · intro i h1 h2
    rw [Array.getElem_setIfInBounds]
    simp only [arrOf_get]
    by_cases h : k = i
    · subst h; simp
    · simp [h, Ne.symm h]; exact arrOf_get _ _ _ _
    simpa using h2
theorem arrOf_congr {f g : Nat → Int} {n : Nat} (h : ∀ i, i < n → f i = g i) : arrOf f n = arrOf g n := by
  apply Array.ext
  · simp
  · intro i h1 h2
    simp only [arrOf_get]
    rw [h i (by simpa using h1)]
theorem arrOf_of (cs : Array Value) (n : Nat) (f : Nat → Int) (hs : cs.size = n) (h : ∀ i, i < n → cs[i]? = some (.int .u64 (f i))) : cs = arrOf f n := by
  apply Array.ext
  · simp [hs]
  · intro i h1 h2
    rw [arrOf_get]
    have := h i (by omega)
    rw [Array.getElem?_eq_getElem h1] at this
    exact Option.some.inj this

theorem add64 (x y c : Int) (hx : 0 ≤ x) (hy : 0 ≤ y) (hc0 : 0 ≤ c) (hc : c ≤ 1) (w : World) : (callFunc 59 #[.int .u64 x, .int .u64 y, .int .u64 c]).run Tryz.prog w =
    .ok (.value (.tuple #[.int .u64 ((x + y + c) % 18446744073709551616), .int .u64 ((x + y + c) / 18446744073709551616)])) w := by
  rw [run_callFunc_extern Tryz.func59 (by kernel_rfl) (by kernel_rfl) (by kernel_rfl) (e := add64Entry) (by kernel_rfl), run_add64 x y c hx hy hc0 hc]
  rfl

def sub64E : Array Value → Sem Value := fun args => do
  let (x, y, b) ← Extern.MathBitsCarry.three "Sub64" args
  pure (Extern.MathBitsCarry.pair ((x + Extern.MathBitsCarry.m64 - y - b) % Extern.MathBitsCarry.m64) (if x < y + b then 1 else 0))
theorem run_sub64E (x y b : Nat) (hb : b ≤ 1) (w : World) :
    (sub64E #[.int .u64 x, .int .u64 y, .int .u64 b]).run Tryz.prog w =
      .ok (.tuple #[.int .u64 (((x + 18446744073709551616 - y - b) % 18446744073709551616 : Nat) : Int), .int .u64 ((if x < y + b then 1 else 0 : Nat) : Int)]) w := by
  have : b = 0 ∨ b = 1 := by omega
  rcases this with rfl | rfl <;> rfl
/-- what is borrowed -/
def bor (x y b : Int) : Int := if x < y + b then 1 else 0
theorem sub64 (x y b : Int) (hx : 0 ≤ x) (hy : 0 ≤ y) (hy' : y < 18446744073709551616) (hb0 : 0 ≤ b) (hb : b ≤ 1) (w : World) : (callFunc 58 #[.int .u64 x, .int .u64 y, .int .u64 b]).run Tryz.prog w =
    .ok (.value (.tuple #[.int .u64 ((x - y - b) % 18446744073709551616), .int .u64 (bor x y b)])) w := by
  obtain ⟨x, rfl⟩ := Int.eq_ofNat_of_zero_le hx
  obtain ⟨y, rfl⟩ := Int.eq_ofNat_of_zero_le hy
  obtain ⟨b, rfl⟩ := Int.eq_ofNat_of_zero_le hb0
  have e1 : (((x + 18446744073709551616 - y - b) % 18446744073709551616 : Nat) : Int) = ((x : Int) - y - b) % 18446744073709551616 := by omega
  have e2 : ((if x < y + b then 1 else 0 : Nat) : Int) = bor x y b := by unfold bor; split <;> split <;> omega
  rw [run_callFunc_extern Tryz.func58 (by kernel_rfl) (by kernel_rfl) (by kernel_rfl) (e := sub64E) (by kernel_rfl), run_sub64E x y b (by omega), ← e1, ← e2]
  rfl
end Go.Proofs.YtgknbdehlmlipabGreatDoor

namespace Go.Proofs.YtgknbdehlmlipabGreatDoor
open Go.RowKit

/-- a lies below b, or at it, if the ends count -/
def wiN (c : Bool) (a b : Nat) : Bool := decide (a < b) || (decide (a = b) && c)
/-- what is left ahead of digit k, over Z -/
def rsN (R Z : Nat) : Nat → Nat
  | 0 => R
  | k + 1 => 10 * (rsN R Z k % Z)
def unK (c : Bool) (R d Z k : Nat) : Bool := wiN c (rsN R Z k % Z) (10 ^ k * d)
def ovK (c : Bool) (R u Z k : Nat) : Bool := wiN c (Z - rsN R Z k % Z) (10 ^ k * u)
def stK (c : Bool) (R d u Z k : Nat) : Bool := unK c R d Z k || ovK c R u Z k
section
variable {c : Bool} {R d u Z : Nat} (hZ : 0 < Z)
include hZ
theorem un_big {k : Nat} (h : Z ≤ 10 ^ k * d) : stK c R d u Z k = true := by
  unfold stK unK wiN
  have := Nat.mod_lt (rsN R Z k) hZ
  have : rsN R Z k % Z < 10 ^ k * d := by omega
  simp [this]
theorem st_ex (hd : 0 < d) : ∃ K, stK c R d u Z K = true ∧ ∀ k, k < K → stK c R d u Z k = false := by
  have h1 : ∃ K, stK c R d u Z K = true := ⟨Z, un_big hZ (by
    have h1 : Z < 10 ^ Z := Nat.lt_pow_self (by decide)
    have h2 : 10 ^ Z * 1 ≤ 10 ^ Z * d := Nat.mul_le_mul_left _ hd
    omega)⟩
  obtain ⟨K, hK⟩ := h1
  induction K using Nat.strongRecOn with
  | ind K ih =>
    by_cases h : ∃ k, k < K ∧ stK c R d u Z k = true
    · obtain ⟨k, h1, h2⟩ := h
      exact ih k h1 h2
    · refine ⟨K, hK, fun k hk => ?_⟩
      cases hh : stK c R d u Z k
      · rfl
      · exact absurd ⟨k, hk, hh⟩ h
end
/-- a power of ten isn't above a fraction c times 2^x -/
def zE (x e : Int) : Nat := 4 * 2 ^ (-x).toNat * 10 ^ e.toNat
def oE (x e : Int) : Nat := 2 ^ x.toNat * 10 ^ (-e).toNat
theorem zE_pos (x e : Int) : 0 < zE x e := Nat.mul_pos (Nat.mul_pos (by decide) (Nat.two_pow_pos _)) (Nat.pow_pos (by decide))
theorem oE_pos (x e : Int) : 0 < oE x e := Nat.mul_pos (Nat.two_pow_pos _) (Nat.pow_pos (by decide))
def tnP (c : Nat) (x e : Int) : Prop := zE x e ≤ 4 * c * oE x e
theorem ten_le_two {t p : Nat} (h : 196 * t ≤ 59 * p) : 10 ^ t ≤ 2 ^ p := by
  rcases Nat.lt_or_ge (2 ^ p) (10 ^ t) with h1 | h1
  · exfalso
    have h2 : (2 ^ p) ^ 59 < (10 ^ t) ^ 59 := Nat.pow_lt_pow_left h1 (by decide)
    have h3 : (10 ^ 59) ^ t ≤ (2 ^ 196) ^ t := Nat.pow_le_pow_left (by decide) t
    have h4 : 2 ^ (196 * t) ≤ 2 ^ (59 * p) := Nat.pow_le_pow_right (by decide) h
    have e1 : ((2 : Nat) ^ p) ^ 59 = 2 ^ (59 * p) := by rw [← Nat.pow_mul, Nat.mul_comm]
    have e2 : ((10 : Nat) ^ t) ^ 59 = (10 ^ 59) ^ t := by rw [← Nat.pow_mul, ← Nat.pow_mul, Nat.mul_comm]
    have e3 : ((2 : Nat) ^ 196) ^ t = 2 ^ (196 * t) := by rw [← Nat.pow_mul]
    rw [e1, e2] at h2
    rw [e3] at h3
    omega
  · exact h1
theorem big_ten : (2 : Nat) ^ 100000 ≤ 10 ^ 30103 := by decide +kernel
theorem two_le_ten_n {n m t q : Nat} (hn : n ≠ 0) (hb : (2 : Nat) ^ n ≤ 10 ^ m) (h : m * q ≤ n * t) : 2 ^ q ≤ 10 ^ t := by
  rcases Nat.lt_or_ge (10 ^ t) (2 ^ q) with h1 | h1
  · exfalso
    have h2 : (10 ^ t) ^ n < (2 ^ q) ^ n := Nat.pow_lt_pow_left h1 hn
    have h3 : (2 ^ n) ^ q ≤ (10 ^ m) ^ q := Nat.pow_le_pow_left hb q
    have h4 : 10 ^ (m * q) ≤ 10 ^ (n * t) := Nat.pow_le_pow_right (by decide) h
    have e1 : ((10 : Nat) ^ t) ^ n = 10 ^ (n * t) := by rw [← Nat.pow_mul, Nat.mul_comm]
    have e2 : ((2 : Nat) ^ q) ^ n = (2 ^ n) ^ q := by rw [← Nat.pow_mul, ← Nat.pow_mul, Nat.mul_comm]
    have e3 : ((10 : Nat) ^ m) ^ q = 10 ^ (m * q) := by rw [← Nat.pow_mul]
    rw [e1, e2] at h2
    rw [e3] at h3
    omega
  · exact h1
theorem two_le_ten {t q : Nat} (h : 30103 * q ≤ 100000 * t) : 2 ^ q ≤ 10 ^ t := two_le_ten_n (by decide) big_ten h
/-- the guess is never too high -/
theorem guess_ok {c L : Nat} {x : Int} (hL : 2 ^ L ≤ c) (hb : -20000 ≤ (L : Int) + x ∧ (L : Int) + x ≤ 20000) : tnP c x ((((L : Int) + x) * 30103).tdiv 100000 - 1) := by
  have hq : (((L : Int) + x) * 30103).tdiv 100000 = if 0 ≤ (L : Int) + x then (((L : Int) + x) * 30103) / 100000 else -((-((L : Int) + x) * 30103) / 100000) := by
    split
    · rw [Int.tdiv_eq_ediv_of_nonneg (by omega)]
    · rw [show ((L : Int) + x) * 30103 = -(-((L : Int) + x) * 30103) by omega, Int.neg_tdiv, Int.tdiv_eq_ediv_of_nonneg (by omega)]
  generalize hg : (((L : Int) + x) * 30103).tdiv 100000 - 1 = g at *
  unfold tnP zE oE
  rw [Nat.mul_assoc 4, Nat.mul_assoc 4]
  refine Nat.mul_le_mul_left 4 ?_
  by_cases hg0 : 0 ≤ g
  · have hp : 0 ≤ (L : Int) + x := by
      rcases Int.lt_or_le ((L : Int) + x) 0 with h | h
      · rw [if_neg (by omega)] at hq; omega
      · exact h
    rw [if_pos hp] at hq
    have h1 : 10 ^ g.toNat ≤ 2 ^ ((L : Int) + x).toNat := ten_le_two (by omega)
    rw [show (-g).toNat = 0 by omega, Nat.pow_zero, Nat.mul_one]
    by_cases hx : 0 ≤ x
    · rw [show (-x).toNat = 0 by omega, Nat.pow_zero, Nat.one_mul]
      rw [show ((L : Int) + x).toNat = L + x.toNat by omega, Nat.pow_add] at h1
      exact Nat.le_trans h1 (Nat.mul_le_mul_right _ hL)
    · rw [show x.toNat = 0 by omega, Nat.pow_zero, Nat.mul_one]
      have h2 := Nat.mul_le_mul_left (2 ^ (-x).toNat) h1
      rw [← Nat.pow_add, show (-x).toNat + ((L : Int) + x).toNat = L by omega] at h2
      exact Nat.le_trans h2 hL
  · rw [show g.toNat = 0 by omega, Nat.pow_zero, Nat.mul_one]
    by_cases hp : 0 ≤ (L : Int) + x
    · have h1 : 2 ^ (-x).toNat ≤ c * 2 ^ x.toNat := by
        by_cases hx : 0 ≤ x
        · rw [show (-x).toNat = 0 by omega, Nat.pow_zero]
          have := Nat.two_pow_pos L
          exact Nat.mul_pos (by omega) (Nat.two_pow_pos _)
        · rw [show x.toNat = 0 by omega, Nat.pow_zero, Nat.mul_one]
          exact Nat.le_trans (Nat.pow_le_pow_right (by decide) (by omega)) hL
      rw [← Nat.mul_assoc]
      exact Nat.le_trans h1 (Nat.le_mul_of_pos_right _ (Nat.pow_pos (by decide)))
    · rw [if_neg hp] at hq
      have h1 : 2 ^ (-((L : Int) + x)).toNat ≤ 10 ^ (-g).toNat := two_le_ten (by omega)
      rw [show x.toNat = 0 by omega, Nat.pow_zero, Nat.one_mul]
      rw [show (-x).toNat = L + (-((L : Int) + x)).toNat by omega, Nat.pow_add]
      exact Nat.mul_le_mul hL h1
end Go.Proofs.YtgknbdehlmlipabGreatDoor
