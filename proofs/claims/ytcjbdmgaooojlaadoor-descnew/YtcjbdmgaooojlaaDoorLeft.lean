/-
  What the document's own Left does: a contract.
-/
import Derived.Test.YtcjbdmgaooojlaaDoorRadd
import Derived.Deep.RegionHeld3
import Derived.BigRegion
import Derived.Deep.DrawnRows
set_option linter.unusedVariables false
set_option linter.unusedSimpArgs false
set_option maxRecDepth 20000
namespace Go.Proofs.YtcjbdmgaooojlaaDoor
open Go.RowKit
attribute [local go_sem ↓] Go.wp_at_zero Go.wp_at_succ
attribute [local go_sem] setCell_drewN alloc_drewN

/-- 'or' of two words -/
def orW (a b : Int) : Int := bits BinOp.or IntKind.u64 a b
theorem orW_eq (a b : Int) (ha : 0 ≤ a ∧ a ≤ 18446744073709551615) (hb : 0 ≤ b ∧ b ≤ 18446744073709551615) : orW a b = ((a.toNat ||| b.toNat : Nat) : Int) := u64_or a b ha.1 (by omega) hb.1 (by omega)
theorem orW_comm (a b : Int) (ha : 0 ≤ a ∧ a ≤ 18446744073709551615) (hb : 0 ≤ b ∧ b ≤ 18446744073709551615) : orW a b = orW b a := by
  rw [orW_eq a b ha hb, orW_eq b a hb ha, Nat.or_comm]
theorem orW_zero (a : Int) (ha : 0 ≤ a ∧ a ≤ 18446744073709551615) : orW a 0 = a := by
  rw [orW_eq a 0 ha (by decide)]; simp; omega
theorem zero_orW (a : Int) (ha : 0 ≤ a ∧ a ≤ 18446744073709551615) : orW 0 a = a := by
  rw [orW_eq 0 a (by decide) ha]; simp; omega
theorem orW_word (a b : Int) (ha : 0 ≤ a ∧ a ≤ 18446744073709551615) (hb : 0 ≤ b ∧ b ≤ 18446744073709551615) : 0 ≤ orW a b ∧ orW a b ≤ 18446744073709551615 := by
  rw [orW_eq a b ha hb]
  have : a.toNat ||| b.toNat < 2 ^ 64 := Nat.or_lt_two_pow (by omega) (by omega)
  omega
theorem wrap_word (a : Int) : 0 ≤ IntKind.u64.wrap a ∧ IntKind.u64.wrap a ≤ 18446744073709551615 := by
  simp only [IntKind.wrap, IntKind.bits, IntKind.signed]
  have h1 := Int.emod_nonneg a (b := 18446744073709551616) (by decide)
  have h2 := Int.emod_lt_of_pos a (b := 18446744073709551616) (by decide)
  simp; omega
theorem wrap_id (a : Int) (ha : 0 ≤ a ∧ a ≤ 18446744073709551615) : IntKind.u64.wrap a = a := by
  simp only [IntKind.wrap, IntKind.bits, IntKind.signed]
  simp; omega
theorem div_word (a : Int) (e : Nat) (ha : 0 ≤ a ∧ a ≤ 18446744073709551615) : 0 ≤ a / 2 ^ e ∧ a / 2 ^ e ≤ 18446744073709551615 := by
  have hp : (0 : Int) < 2 ^ e := Int.pow_pos (by decide)
  have h1 := Int.ediv_nonneg ha.1 (Int.le_of_lt hp)
  have h2 := Int.ediv_le_self (2 ^ e) ha.1
  omega

/-- the bits that come in from the word below -/
def lowp (x : Nat → Int) (q r j : Nat) : Int := if q + 1 ≤ j ∧ 0 < r then x (j - q - 1) / 2 ^ (64 - r) else 0
/-- the words of x times 2^(64 q + r) -/
def finL (x : Nat → Int) (q r j : Nat) : Int := if q ≤ j then orW (lowp x q r j) (IntKind.u64.wrap (x (j - q) * 2 ^ r)) else 0
def stL (x : Nat → Int) (q r k j : Nat) : Int := if j < q + k then finL x q r j else if j = q + k then lowp x q r j else 0
theorem lowp_word {x : Nat → Int} (hx : Words x) (q r j : Nat) : 0 ≤ lowp x q r j ∧ lowp x q r j ≤ 18446744073709551615 := by
  unfold lowp; split
  · exact div_word _ _ (hx _)
  · decide
theorem finL_words {x : Nat → Int} (hx : Words x) (q r : Nat) : Words (finL x q r) := fun j => by
  unfold finL; split
  · exact orW_word _ _ (lowp_word hx q r j) (wrap_word _)
  · decide
theorem finL_zero {x : Nat → Int} {n : Nat} (hx : Words x) (zx : ∀ i, n ≤ i → x i = 0) (q r : Nat) (hr : r < 64) : ∀ j, n + q + 1 ≤ j → finL x q r j = 0 := by
  intro j hj
  unfold finL
  rw [if_pos (by omega), zx (j - q) (by omega)]
  have : lowp x q r j = 0 := by
    unfold lowp; split
    · rw [zx (j - q - 1) (by omega)]; simp
    · rfl
  rw [this, Int.zero_mul, wrap_id 0 (by decide), orW_zero 0 (by decide)]
theorem stL_end {x : Nat → Int} {n : Nat} (hx : Words x) (zx : ∀ i, n ≤ i → x i = 0) (q r j : Nat) (hj : j < n + q + 1) : stL x q r n j = finL x q r j := by
  unfold stL
  by_cases h : j < q + n
  · rw [if_pos h]
  · obtain rfl : j = q + n := by omega
    rw [if_neg h, if_pos rfl]
    unfold finL
    rw [if_pos (by omega), zx (q + n - q) (by omega), Int.zero_mul, wrap_id 0 (by decide), orW_zero _ (lowp_word hx q r _)]
theorem stL_step0 {x : Nat → Int} {q k : Nat} {ss : Array Value} (hss : ∀ j h, ss[j]'h = Value.int .u64 (stL x q 0 k j)) (j : Nat) (h : j < (ss.setIfInBounds (k + q) (.int .u64 (finL x q 0 (q + k)))).size) : (ss.setIfInBounds (k + q) (.int .u64 (finL x q 0 (q + k))))[j]'h = Value.int .u64 (stL x q 0 (k + 1) j) := by
  have h' : j < ss.size := by simpa using h
  rw [Array.getElem_setIfInBounds]
  by_cases e : k + q = j
  · subst e; rw [if_pos rfl]; unfold stL; rw [if_pos (by omega), Nat.add_comm]
  · rw [if_neg e, hss j h']
    unfold stL
    by_cases e2 : j < q + k
    · rw [if_pos e2, if_pos (by omega)]
    · rw [if_neg e2, if_neg (by omega), if_neg (by omega)]
      have : lowp x q 0 j = 0 := by unfold lowp; rw [if_neg (by omega)]
      rw [this]; split <;> rfl
  exact h'
theorem stL_step1 {x : Nat → Int} {q r k : Nat} (hr : 0 < r) {ss : Array Value} (hss : ∀ j h, ss[j]'h = Value.int .u64 (stL x q r k j)) (j : Nat) (h : j < ((ss.setIfInBounds (k + q) (.int .u64 (finL x q r (q + k)))).setIfInBounds (k + q + 1) (.int .u64 (x k / 2 ^ (64 - r)))).size) : ((ss.setIfInBounds (k + q) (.int .u64 (finL x q r (q + k)))).setIfInBounds (k + q + 1) (.int .u64 (x k / 2 ^ (64 - r))))[j]'h = Value.int .u64 (stL x q r (k + 1) j) := by
  have h' : j < ss.size := by simpa using h
  rw [Array.getElem_setIfInBounds (by simpa using h')]
  by_cases e0 : k + q + 1 = j
  · subst e0; rw [if_pos rfl]; unfold stL; rw [if_neg (by omega), if_pos (by omega)]; unfold lowp; rw [if_pos ⟨by omega, hr⟩, show k + q + 1 - q - 1 = k by omega]
  · rw [if_neg e0, Array.getElem_setIfInBounds h']
    by_cases e : k + q = j
    · subst e; rw [if_pos rfl]; unfold stL; rw [if_pos (by omega), Nat.add_comm]
    · rw [if_neg e, hss j h']
      unfold stL
      by_cases e2 : j < q + k
      · rw [if_pos e2, if_pos (by omega)]
      · rw [if_neg e2, if_neg (by omega), if_neg (by omega), if_neg (by omega)]

end Go.Proofs.YtcjbdmgaooojlaaDoor
