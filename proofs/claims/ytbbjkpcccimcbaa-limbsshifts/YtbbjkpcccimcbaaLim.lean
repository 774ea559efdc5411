/-
  What limbs.Len does at the widths: contracts.
-/
import Derived.Test.YtbbjkpcccimcbaaRef
namespace Go.Proofs.Ytbbjkpcccimcbaa
open Go.RowKit

theorem lenL_succ (x : Nat → Int) (n : Nat) : lenL x (n + 1) = if x n = 0 then lenL x n else 64 * (n : Int) + Lib.bitLen (x n).toNat := by
  by_cases h : x n = 0
  · simp [lenL, sizeL, h]
  · simp [lenL, sizeL, h]; omega

set_option maxHeartbeats 400000 in
theorem limLen8 (cs : Array Value) (x : Nat → Int) (w : World) (hx : ∀ i, 0 ≤ x i ∧ x i ≤ 18446744073709551615) (hsz : cs.size = 8) (hc : ∀ i, i < 8 → cs[i]? = some (.int .u64 (x i))) :
    Calls Try.prog 36 #[.agg cs] w fun e w' => e = .returned (.int .i64 (lenL x 8)) ∧ w' = w.alloc (.cells cs 23) := by
  go_enter Try.func36, Try.ntmps36
  go_wp2
  go_loop [3] (fun t => ∃ k : Nat, k ≤ 8 ∧ lenL x k = lenL x 8 ∧ t = .int .i64 ((k : Int) - 1)) (fun t => (intOf t + 1).toNat)
  case atStart => exact ⟨8, Nat.le_refl _, rfl, rfl⟩
  case round =>
    obtain ⟨k, hk, hs, rfl⟩ := hrel
    by_cases h0 : k = 0
    · subst h0
      have HS : Hid (lenL x 8 = 0) := hs.symm
      clear hs
      go_wp2
      go_ret
      exact ⟨ret_int HS.out.symm, rfl⟩
    · obtain ⟨j, rfl⟩ : ∃ j, k = j + 1 := ⟨k - 1, by omega⟩
      have hcj := hc j (by omega)
      have hb := hx j
      have hbl := bitLen64 (x j).toNat
      have hj8 : (j : Int) < 8 := by omega
      have ej : ((j + 1 : Nat) : Int) - 1 = j := by omega
      rw [ej]
      by_cases hz : x j = 0
      · have HS : Hid (lenL x j = lenL x 8) := by
          have := lenL_succ x j
          rw [if_pos hz] at this
          exact this.symm.trans hs
        clear hs hc hx
        go_wp2
        go_round
        case rel => exact ⟨j, by omega, HS.out, by go_num⟩
        case measure => simp [intOf]
      · have HS : Hid (64 * (j : Int) + Lib.bitLen (x j).toNat = lenL x 8) := by
          have := lenL_succ x j
          rw [if_neg hz] at this
          exact this.symm.trans hs
        have hcl := Try.bits_Len64 (x j) (w.alloc (.cells cs 23)) hb.1 hb.2
        clear hs hc hx
        generalize Lib.bitLen (x j).toNat = L at *
        go_wp2_with (go_at_call 60; refine hcl.mono ?_; rintro e w' ⟨rfl, rfl⟩)
        go_ret
        exact ⟨ret_int (by rw [← HS.out]; omega), rfl⟩

set_option maxHeartbeats 400000 in
theorem limLen2 (cs : Array Value) (x : Nat → Int) (w : World) (hx : ∀ i, 0 ≤ x i ∧ x i ≤ 18446744073709551615) (hsz : cs.size = 2) (hc : ∀ i, i < 2 → cs[i]? = some (.int .u64 (x i))) :
    Calls Try.prog 38 #[.agg cs] w fun e w' => e = .returned (.int .i64 (lenL x 2)) ∧ w' = w.alloc (.cells cs 28) := by
  go_enter Try.func38, Try.ntmps38
  go_wp2
  go_loop [3] (fun t => ∃ k : Nat, k ≤ 2 ∧ lenL x k = lenL x 2 ∧ t = .int .i64 ((k : Int) - 1)) (fun t => (intOf t + 1).toNat)
  case atStart => exact ⟨2, Nat.le_refl _, rfl, rfl⟩
  case round =>
    obtain ⟨k, hk, hs, rfl⟩ := hrel
    by_cases h0 : k = 0
    · subst h0
      have HS : Hid (lenL x 2 = 0) := hs.symm
      clear hs
      go_wp2
      go_ret
      exact ⟨ret_int HS.out.symm, rfl⟩
    · obtain ⟨j, rfl⟩ : ∃ j, k = j + 1 := ⟨k - 1, by omega⟩
      have hcj := hc j (by omega)
      have hb := hx j
      have hbl := bitLen64 (x j).toNat
      have hj8 : (j : Int) < 2 := by omega
      have ej : ((j + 1 : Nat) : Int) - 1 = j := by omega
      rw [ej]
      by_cases hz : x j = 0
      · have HS : Hid (lenL x j = lenL x 2) := by
          have := lenL_succ x j
          rw [if_pos hz] at this
          exact this.symm.trans hs
        clear hs hc hx
        go_wp2
        go_round
        case rel => exact ⟨j, by omega, HS.out, by go_num⟩
        case measure => simp [intOf]
      · have HS : Hid (64 * (j : Int) + Lib.bitLen (x j).toNat = lenL x 2) := by
          have := lenL_succ x j
          rw [if_neg hz] at this
          exact this.symm.trans hs
        have hcl := Try.bits_Len64 (x j) (w.alloc (.cells cs 28)) hb.1 hb.2
        clear hs hc hx
        generalize Lib.bitLen (x j).toNat = L at *
        go_wp2_with (go_at_call 60; refine hcl.mono ?_; rintro e w' ⟨rfl, rfl⟩)
        go_ret
        exact ⟨ret_int (by rw [← HS.out]; omega), rfl⟩

set_option maxHeartbeats 400000 in
theorem limLen1 (cs : Array Value) (x : Nat → Int) (w : World) (hx : ∀ i, 0 ≤ x i ∧ x i ≤ 18446744073709551615) (hsz : cs.size = 1) (hc : ∀ i, i < 1 → cs[i]? = some (.int .u64 (x i))) :
    Calls Try.prog 39 #[.agg cs] w fun e w' => e = .returned (.int .i64 (lenL x 1)) ∧ w' = w.alloc (.cells cs 25) := by
  go_enter Try.func39, Try.ntmps39
  go_wp2
  go_loop [3] (fun t => ∃ k : Nat, k ≤ 1 ∧ lenL x k = lenL x 1 ∧ t = .int .i64 ((k : Int) - 1)) (fun t => (intOf t + 1).toNat)
  case atStart => exact ⟨1, Nat.le_refl _, rfl, rfl⟩
  case round =>
    obtain ⟨k, hk, hs, rfl⟩ := hrel
    by_cases h0 : k = 0
    · subst h0
      have HS : Hid (lenL x 1 = 0) := hs.symm
      clear hs
      go_wp2
      go_ret
      exact ⟨ret_int HS.out.symm, rfl⟩
    · obtain ⟨j, rfl⟩ : ∃ j, k = j + 1 := ⟨k - 1, by omega⟩
      have hcj := hc j (by omega)
      have hb := hx j
      have hbl := bitLen64 (x j).toNat
      have hj8 : (j : Int) < 1 := by omega
      have ej : ((j + 1 : Nat) : Int) - 1 = j := by omega
      rw [ej]
      by_cases hz : x j = 0
      · have HS : Hid (lenL x j = lenL x 1) := by
          have := lenL_succ x j
          rw [if_pos hz] at this
          exact this.symm.trans hs
        clear hs hc hx
        go_wp2
        go_round
        case rel => exact ⟨j, by omega, HS.out, by go_num⟩
        case measure => simp [intOf]
      · have HS : Hid (64 * (j : Int) + Lib.bitLen (x j).toNat = lenL x 1) := by
          have := lenL_succ x j
          rw [if_neg hz] at this
          exact this.symm.trans hs
        have hcl := Try.bits_Len64 (x j) (w.alloc (.cells cs 25)) hb.1 hb.2
        clear hs hc hx
        generalize Lib.bitLen (x j).toNat = L at *
        go_wp2_with (go_at_call 60; refine hcl.mono ?_; rintro e w' ⟨rfl, rfl⟩)
        go_ret
        exact ⟨ret_int (by rw [← HS.out]; omega), rfl⟩
end Go.Proofs.Ytbbjkpcccimcbaa
