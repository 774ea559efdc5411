/-
  A quotient times the divisor, and the rest, is the number: the plain arithmetic; what limbs.Of does; what limbs.Div does by 0.
-/
import Derived.Test.YtkbplchgaploeabDoorDw
import Derived.Test.YtkbplchgaploeabDoorLmul
import Derived.Test.YtkbplchgaploeabDoorKp
import Derived.ChangeKeysEq
set_option linter.unusedVariables false
set_option linter.unusedSimpArgs false
namespace Go.Proofs.YtkbplchgaploeabDoor
open Go.RowKit
attribute [local go_sem] setCell_drewN alloc_drewN

theorem quoW_words {x : Nat → Int} {d : Int} (hx : Words x) (hd : 0 < d) (n : Nat) : Words (quoW x d n) := fun j => by
  have hr := remJ_bd x d n (n - 1 - j) hd
  have hb := hx j
  unfold quoW
  refine ⟨Int.ediv_nonneg (by omega) (by omega), ?_⟩
  have : (remJ x d n (n - 1 - j) * 18446744073709551616 + x j) / d < 18446744073709551616 := by
    apply Int.ediv_lt_of_lt_mul hd
    rw [Int.mul_comm 18446744073709551616 d]
    have : (remJ x d n (n - 1 - j) + 1) * 18446744073709551616 ≤ d * 18446744073709551616 := Int.mul_le_mul_of_nonneg_right (by omega) (by decide)
    omega
  omega
theorem div_val (x : Nat → Int) (d : Int) (n : Nat) : ∀ j, j ≤ n → val x (n - j) + remJ x d n j * 18446744073709551616 ^ (n - j) + d * (val (quoW x d n) n - val (quoW x d n) (n - j)) = val x n
  | 0, _ => by simp [remJ]
  | j + 1, h => by
    have ih := div_val x d n j (by omega)
    obtain ⟨k, hk⟩ : ∃ k, n - j = k + 1 := ⟨n - j - 1, by omega⟩
    have hk2 : n - (j + 1) = k := by omega
    have hk3 : n - 1 - j = k := by omega
    have hk4 : n - 1 - k = j := by omega
    rw [hk] at ih
    rw [hk2]
    have hq : quoW x d n k = (remJ x d n j * 18446744073709551616 + x k) / d := by unfold quoW; rw [hk4]
    have hr : remJ x d n (j + 1) = (remJ x d n j * 18446744073709551616 + x k) % d := by simp only [remJ]; rw [hk3]
    have hdm := Int.mul_ediv_add_emod (remJ x d n j * 18446744073709551616 + x k) d
    rw [← hq, ← hr] at hdm
    simp only [val] at ih
    rw [Int.pow_succ] at ih
    generalize (18446744073709551616 : Int) ^ k = p at *
    generalize remJ x d n (j + 1) = r' at *
    generalize remJ x d n j = r at *
    generalize quoW x d n k = q at *
    have e1 : x k = d * q + r' - r * 18446744073709551616 := by omega
    rw [e1] at ih
    grind
theorem sum_val {x y : Nat → Int} : ∀ n, val (sumW x y) n + carryW x y n * 18446744073709551616 ^ n = val x n + val y n
  | 0 => by simp [val, carryW]
  | n + 1 => by
    have ih := sum_val (x := x) (y := y) n
    have e1 : sumW x y n + carryW x y (n + 1) * 18446744073709551616 = x n + y n + carryW x y n := by simp only [sumW, carryW]; omega
    simp only [val]
    rw [Int.pow_succ]
    generalize (18446744073709551616 : Int) ^ n = p at *
    generalize carryW x y (n + 1) = c' at *
    have e2 : sumW x y n = x n + y n + carryW x y n - c' * 18446744073709551616 := by omega
    rw [e2]
    grind
theorem val_one (r : Int) : ∀ n, 0 < n → val (oneW r) n = r
  | 0, h => by omega
  | 1, _ => by simp [val, oneW]
  | n + 2, _ => by
    have ih := val_one r (n + 1) (by omega)
    show val (oneW r) (n + 1) + oneW r (n + 1) * _ = r
    rw [ih]; simp [oneW]
/-- the quotient times the divisor and the rest -/
theorem div_back {x : Nat → Int} {d : Int} (hx : Words x) (hd : 0 < d ∧ d ≤ 18446744073709551615) (n : Nat) (hn : 0 < n) :
    mulC (quoW x d n) d n = 0 ∧ carryW (mulP (quoW x d n) d) (oneW (remJ x d n n)) n = 0 ∧ ∀ i, i < n → sumW (mulP (quoW x d n) d) (oneW (remJ x d n n)) i = x i := by
  have hq := quoW_words hx hd.1 n
  have hr := remJ_bd x d n n hd.1
  have h1 := div_val x d n n (Nat.le_refl _)
  simp only [Nat.sub_self, val, Int.pow_zero, Int.mul_one, Int.sub_zero, Int.zero_add] at h1
  have h2 := mul_val (quoW x d n) d n
  have h3 := sum_val (x := mulP (quoW x d n) d) (y := oneW (remJ x d n n)) n
  rw [val_one _ n hn] at h3
  have ho : Words (oneW (remJ x d n n)) := fun i => by unfold oneW; split; exact ⟨hr.1, by omega⟩; decide
  have c1 := (mulC_word hq ⟨Int.le_of_lt hd.1, hd.2⟩ n).1
  have c2 := (carryW_01 (mulP_words (quoW x d n) d) ho n).1
  have b1 := val_bd hx n
  have b2 := val_bd (sumW_words (mulP (quoW x d n) d) (oneW (remJ x d n n))) n
  have hp := pw_pos n
  generalize hM : mulC (quoW x d n) d n = M at *
  generalize hC : carryW (mulP (quoW x d n) d) (oneW (remJ x d n n)) n = C at *
  have h4 : d * val (quoW x d n) n = val (quoW x d n) n * d := Int.mul_comm ..
  have h5 : val (sumW (mulP (quoW x d n) d) (oneW (remJ x d n n))) n + (C + M) * 18446744073709551616 ^ n = val x n := by rw [Int.add_mul]; omega
  have h6 : C + M = 0 := by
    rcases Int.lt_or_le 0 (C + M) with h | h
    · exfalso
      have : 1 * 18446744073709551616 ^ n ≤ (C + M) * 18446744073709551616 ^ n := Int.mul_le_mul_of_nonneg_right (by omega) (Int.le_of_lt hp)
      omega
    · omega
  refine ⟨by omega, by omega, ?_⟩
  rw [h6, Int.zero_mul, Int.add_zero] at h5
  exact val_inj (sumW_words _ _) hx n h5

set_option maxHeartbeats 400000 in
theorem limDiv_ok (x : Nat → Int) (d : Int) (n : Nat) (hx : Words x) (hd : 0 < d ∧ d ≤ 18446744073709551615) (j : Nat) (hj : j < n) (w : World) : Calls Tryd.prog 29 #[.int .u64 (remJ x d n (n - 1 - j)), .int .u64 (x j), .int .u64 d] w fun e w' => e = .returned (.tuple #[.int .u64 (quoW x d n j), .int .u64 (remJ x d n (n - j))]) ∧ ∃ m, w' = w.drewN m := by
  have hr := remJ_bd x d n (n - 1 - j) hd.1
  have h := div64_all (remJ x d n (n - 1 - j)) (x j) d w hr.1 hr.2 hd.2 (hx j)
  have e1 : remJ x d n (n - j) = (remJ x d n (n - 1 - j) * 18446744073709551616 + x j) % d := by
    obtain ⟨k, hk⟩ : ∃ k, n - j = k + 1 := ⟨n - j - 1, by omega⟩
    rw [hk, show n - 1 - j = k by omega]
    simp only [remJ]; rw [show n - 1 - k = j by omega]
  rw [e1]; exact h
theorem eqInt (d : Nat) (a : Int) (w : World) : (Op.equalIn (d + 1) 34 (.int .u64 a) (.int .u64 a)).run Tryd.prog w = .ok true w := by
  rw [run_equalIn_int w d 34 .u64 .u64 a a Tryd.underlying34]; simp
end Go.Proofs.YtkbplchgaploeabDoor
