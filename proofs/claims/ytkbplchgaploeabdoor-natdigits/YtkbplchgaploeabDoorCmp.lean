/-
  Comparing: what cmp.Compare, nat's Cmp, the document's Cmp, Same, Trimmed and the statements' same and few do: contracts.
-/
import Derived.Test.YtkbplchgaploeabDoorAwk
set_option linter.unusedVariables false
set_option linter.unusedSimpArgs false
namespace Go.Proofs.YtkbplchgaploeabDoor
open Go.RowKit

/-- -1, 0, 1 -/
def sgn (a b : Int) : Int := if a < b then -1 else if b < a then 1 else 0
theorem sgn_neg (a b : Int) : sgn b a = - sgn a b := by unfold sgn; split <;> split <;> first | omega | (split <;> omega) | rfl
theorem sgn_add (a b t : Int) : sgn (a + t) (b + t) = sgn a b := by
  unfold sgn
  by_cases h : a < b
  · rw [if_pos h, if_pos (by omega)]
  · rw [if_neg h, if_neg (by omega)]
    by_cases h' : b < a
    · rw [if_pos h', if_pos (by omega)]
    · rw [if_neg h', if_neg (by omega)]
theorem sgn_bd (a b : Int) : -1 ≤ sgn a b ∧ sgn a b ≤ 1 := by unfold sgn; split <;> (try split) <;> omega

theorem drw2 (w : World) (m a b : Nat) : ∃ k, w.drewN k = ((w.drewN m).drewN a).drewN b := ⟨m + a + b, by simp [World.drewN, Nat.add_assoc]⟩
/-- comparing words from the highest on is comparing values -/
theorem cmpL_val {x y : Nat → Int} (hx : Words x) (hy : Words y) : ∀ n, cmpL x y n = sgn (val x n) (val y n)
  | 0 => by simp [cmpL, sgn, val]
  | n + 1 => by
    have hxb := val_bd hx n
    have hyb := val_bd hy n
    have ih := cmpL_val hx hy n
    have hp := pw_pos n
    have e1 : val x (n + 1) = val x n + x n * 18446744073709551616 ^ n := rfl
    have e2 : val y (n + 1) = val y n + y n * 18446744073709551616 ^ n := rfl
    rw [e1, e2]
    simp only [cmpL]
    generalize (18446744073709551616 : Int) ^ n = P at *
    by_cases h1 : x n < y n
    · rw [if_pos h1]
      have : (x n + 1) * P ≤ y n * P := Int.mul_le_mul_of_nonneg_right (by omega) (by omega)
      rw [Int.add_mul, Int.one_mul] at this
      unfold sgn; rw [if_pos (by omega)]
    · rw [if_neg h1]
      by_cases h2 : y n < x n
      · rw [if_pos h2]
        have : (y n + 1) * P ≤ x n * P := Int.mul_le_mul_of_nonneg_right (by omega) (by omega)
        rw [Int.add_mul, Int.one_mul] at this
        unfold sgn; rw [if_neg (by omega), if_pos (by omega)]
      · have e : x n = y n := by omega
        rw [if_neg h2, ih, e, sgn_add]
/-- the longer one of two trimmed numbers is the greater -/
theorem val_longer {x y : Nat → Int} (hx : Words x) (hy : Words y) {n m : Nat} (h : n < m) (hm : sizeL y m = m) : val x n < val y m := by
  obtain ⟨k, rfl⟩ : ∃ k, m = k + 1 := ⟨m - 1, by omega⟩
  have hne : y k ≠ 0 := by
    intro e
    have : sizeL y (k + 1) = sizeL y k := by simp [sizeL, e]
    have := sizeL_le y k
    omega
  have h1 := (val_bd hx n).2
  have h2 := (val_bd hy k).1
  have h3 := pw_pos k
  have h4 := hy k
  have h5 : (18446744073709551616 : Int) ^ n ≤ 18446744073709551616 ^ k := by
    obtain ⟨q, rfl⟩ : ∃ q, k = n + q := ⟨k - n, by omega⟩
    rw [Int.pow_add]
    have := pw_pos n
    have := pw_pos q
    have : (18446744073709551616 : Int) ^ n * 1 ≤ 18446744073709551616 ^ n * 18446744073709551616 ^ q := Int.mul_le_mul_of_nonneg_left (by omega) (by omega)
    omega
  show _ < val y k + y k * 18446744073709551616 ^ k
  have : 1 * 18446744073709551616 ^ k ≤ y k * 18446744073709551616 ^ k := Int.mul_le_mul_of_nonneg_right (by omega) (by omega)
  omega

set_option maxHeartbeats 1000000 in
theorem rcmp_any (a a' : Option Addr) (n c n' c' : Nat) (x y : Nat → Int) (w : World) (hn : n < 4294967296) (hn' : n' < 4294967296) (h : Num w a n c x) (h' : Num w a' n' c' y) :
    Calls Tryd.prog 40 #[.slice a n c, .slice a' n' c'] w fun e w' => e = .returned (.int .i64 (sgn (val x n) (val y n'))) ∧ w = w' := by
  refine (cmp_any a a' n c n' c' x y w hn hn' h h').mono fun e w' hw => ⟨?_, hw.2.symm⟩
  rw [hw.1, cmpL_val h.2.2.1 h'.2.2.1, val_more h.2.2.2.1 _ (Nat.le_max_left n n'), val_more h'.2.2.2.1 _ (Nat.le_max_right n n')]
theorem sgn_self (a : Int) : sgn a a = 0 := by unfold sgn; rw [if_neg (by omega), if_neg (by omega)]
theorem size_num (a : Option Addr) (n c : Nat) (x : Nat → Int) (w : World) (hn : n < 4294967296) (h : Num w a n c x) :
    Calls Tryd.prog 18 #[.slice a n c] w fun e w' => e = .returned (.int .i64 (sizeL x n)) ∧ w = w' := by
  have h' := h
  obtain ⟨h1, h2, h3, h4, h5⟩ := h'
  rcases h5 with ⟨rfl, rfl⟩ | ⟨b, off, rfl, hb, hc⟩
  · obtain rfl : n = 0 := by omega
    exact (size_nil w).mono fun e w' hw => ⟨hw.1, hw.2.symm⟩
  · exact (size_any b off n c x w (by omega) hc).mono fun e w' hw => ⟨hw.1, hw.2.symm⟩

set_option maxHeartbeats 400000 in
theorem rsame_any (a a' : Option Addr) (n c n' c' : Nat) (x y : Nat → Int) (w : World) (hn : n < 4294967296) (hn' : n' < 4294967296) (h : Num w a n c x) (h' : Num w a' n' c' y) (hv : val x n = val y n') :
    Calls Tryd.prog 24 #[.slice a n c, .slice a' n' c'] w fun e w' => e = .returned (.bool true) ∧ w = w' := by
  have hc := rcmp_any a a' n c n' c' x y w hn hn' h h'
  rw [hv, sgn_self] at hc
  clear h h' hv
  go_enter Tryd.func24, Tryd.ntmps24
  go_wp2_with (go_at_call 40; refine hc.mono ?_; rintro e w' ⟨rfl, rfl⟩)
  go_ret
  exact ⟨rfl, rfl⟩
set_option maxHeartbeats 400000 in
theorem rtrimmed_any (a : Option Addr) (n c : Nat) (x : Nat → Int) (w : World) (hn : n < 4294967296) (h : Num w a n c x) (hs : sizeL x n = n) :
    Calls Tryd.prog 25 #[.slice a n c] w fun e w' => e = .returned (.bool true) ∧ w = w' := by
  have hc := size_num a n c x w hn h
  rw [hs] at hc
  clear h hs
  go_enter Tryd.func25, Tryd.ntmps25
  go_wp2_with (go_at_call 18; refine hc.mono ?_; rintro e w' ⟨rfl, rfl⟩)
  go_ret
  exact ⟨rfl, rfl⟩
set_option maxHeartbeats 400000 in
theorem lsame_any (a a' : Option Addr) (n c n' c' : Nat) (x y : Nat → Int) (w : World) (hn : n < 4294967296) (hn' : n' < 4294967296) (h : Num w a n c x) (h' : Num w a' n' c' y) (hv : val x n = val y n') (hs : sizeL x n = n) :
    Calls Tryd.prog 10 #[.slice a n c, .slice a' n' c'] w fun e w' => e = .returned (.bool true) ∧ w = w' := by
  have hc := rsame_any a a' n c n' c' x y w hn hn' h h' hv
  have ht := rtrimmed_any a n c x w hn h hs
  clear h h' hv hs
  go_enter Tryd.func10, Tryd.ntmps10
  go_wp2_with (first | (go_at_call 24; refine hc.mono ?_; rintro e w' ⟨rfl, rfl⟩) | (go_at_call 25; refine ht.mono ?_; rintro e w' ⟨rfl, rfl⟩))
  go_ret
  exact ⟨rfl, rfl⟩
end Go.Proofs.YtkbplchgaploeabDoor
