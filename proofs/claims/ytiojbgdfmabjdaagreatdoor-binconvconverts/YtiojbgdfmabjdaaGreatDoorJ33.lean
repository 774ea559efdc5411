/-
  Texts that the proof leans on.
-/
import Derived.Test.YtiojbgdfmabjdaaGreatDoorJ28
set_option linter.unusedVariables false
set_option linter.unusedSectionVars false
set_option linter.unusedSimpArgs false
set_option maxRecDepth 20000
namespace Go.Proofs.YtiojbgdfmabjdaaGreatDoor
open Go.RowKit
section
theorem val_odd {z : Nat → Int} {k V : Nat} (hk : 0 < k) (hv : val z k = (V : Int)) : (V : Int) % 2 = z 0 % 2 := by
  have key : ∀ j, val z (j + 1) % 2 = z 0 % 2 := by
    intro j
    induction j with
    | zero => simp [val]
    | succ j ih =>
      have : val z (j + 1 + 1) = val z (j + 1) + z (j + 1) * 18446744073709551616 ^ (j + 1) := rfl
      rw [this, Int.pow_succ, show z (j + 1) * (18446744073709551616 ^ j * 18446744073709551616) = 2 * (z (j + 1) * 18446744073709551616 ^ j * 9223372036854775808) by grind, Int.add_mul_emod_self_left]
      exact ih
  obtain ⟨j, rfl⟩ : ∃ j, k = j + 1 := ⟨k - 1, by omega⟩
  rw [← hv]; exact key j
set_option maxHeartbeats 400000 in
theorem q2_nv {K V : Nat} {v : Value} {w : World} (hK : K < 1000000) (h : NV K V v w) :
    Calls Tryz.prog 104 #[v] w fun e w' => e = .returned (.bool (decide (V % 2 = 1))) ∧ w = w' := by
  obtain ⟨g, k, cap, z, rfl, hk, hN, hv⟩ := h
  by_cases hk0 : k = 0
  · subst hk0
    obtain rfl : V = 0 := by have : val z 0 = 0 := rfl; omega
    go_enter Tryz.func104, Tryz.ntmps104
    go_wp2
    go_ret
    exact ⟨by simp, rfl⟩
  · have ho := val_odd (by omega) hv
    have hc : g < w.heap.size ∧ w.cell? ⟨g, 0, none⟩ = some (.int .u64 (z 0)) := by
      rcases hN.2.2.2.2 with ⟨h, _⟩ | ⟨b', off', h, hbs, hc⟩
      · cases h
      · cases h; exact ⟨hbs, hc 0 (by omega)⟩
    obtain ⟨hgb, hcc⟩ := hc
    have hz := hN.2.2.1 0
    have hki : (0 : Int) < k := by omega
    have hcap := hN.1
    have HO : Hid (decide (V % 2 = 1) = (z 0 % 2 == 1)) := by
      show _ = _
      by_cases h : z 0 % 2 = 1
      · rw [h]; simp; omega
      · rw [decide_eq_false (by omega)]; simp [h]
    clear hN ho hv
    go_enter Tryz.func104, Tryz.ntmps104
    go_wp2
    go_ret
    exact ⟨by rw [HO.out]; simp, rfl⟩
attribute [local irreducible] NV NT
section
variable (d hv : Int) (s odd : Bool) (va vb : Value) (Q : Nat) (w : World)
  (c99 : Calls Tryz.prog 103 #[va, vb] w fun e w1 => ∃ q g k cap, e = .returned (.tuple #[q, .slice (some ⟨g, 0, none⟩) k cap]) ∧ k ≠ 0 ∧ NV 41000 Q q w1 ∧ Below w.heap.size w w1 ∧ Calls Tryz.prog 73 #[.slice (some ⟨g, 0, none⟩) k cap, .int .i64 1] w1 fun e w2 => ∃ r2, e = .returned r2 ∧ Below w1.heap.size w1 w2 ∧ Calls Tryz.prog 101 #[r2, vb] w2 fun e w3 => e = .returned (.int .i64 hv) ∧ w2 = w3)
  (c100 : ∀ W q, NV 41000 Q q W → Calls Tryz.prog 104 #[q] W fun e w' => e = .returned (.bool odd) ∧ W = w')
  (c24 : ∀ W q v, NV 41000 Q q W → NV 1 1 v W → Calls Tryz.prog 37 #[q, v] W fun e w' => ∃ r, e = .returned r ∧ NV 41002 (Q + 1) r w' ∧ Below W.heap.size W w')
include c99 c100 c24
set_option maxHeartbeats 1000000 in
theorem wh_0g (h : 0 < hv) : Calls Tryz.prog 82 #[.int .i64 0, .bool s, va, vb] w fun e w' => ∃ q, e = .returned (.tuple #[q, .bool false]) ∧ NV 41002 (Q + 1) q w' ∧ Below w.heap.size w w' := by
  go_enter Tryz.func82, Tryz.ntmps82
  go_wp2_with (first
    | (go_at_call 103; refine c99.mono ?_; rintro e w1 ⟨q, g, k, cap, rfl, hk, hq, hb1, c84⟩; have hki : ((k : Int) == 0) = false := by simp; omega)
    | (go_at_call 73; refine c84.mono ?_; rintro e w2 ⟨r2, rfl, hb2, c21⟩; have hq2 := hq.next hb2; have hB2 := hb1.trans (hb2.mono hb1.size))
    | (go_at_call 101; refine c21.mono ?_; rintro e w3 ⟨rfl, rfl⟩)
    | (go_at_call 104; refine (c100 _ _ hq2).mono ?_; rintro e w4 ⟨rfl, rfl⟩)
    | (go_at_call 37; refine (c24 _ _ _ (hq2.next (below1 _ _)) (nv_uno rfl rfl (by decide))).mono ?_; rintro e w5 ⟨r5, rfl, hr5, hb5⟩))
  have hB3 := hB2.trans ((below1 w2 (.cells #[.int .u64 1] 22)).mono hB2.size)
  exact bodyPost_ret (v := .tuple #[r5, .bool false]) (by simp only [results, Tryz.results82]; go_simp) rfl ⟨_, rfl, hr5, hB3.trans (hb5.mono hB3.size)⟩
set_option maxHeartbeats 1000000 in
theorem wh_0eo (h : hv = 0) (h1 : odd = true) : Calls Tryz.prog 82 #[.int .i64 0, .bool s, va, vb] w fun e w' => ∃ q, e = .returned (.tuple #[q, .bool false]) ∧ NV 41002 (Q + 1) q w' ∧ Below w.heap.size w w' := by
  subst h h1
  go_enter Tryz.func82, Tryz.ntmps82
  go_wp2_with (first
    | (go_at_call 103; refine c99.mono ?_; rintro e w1 ⟨q, g, k, cap, rfl, hk, hq, hb1, c84⟩; have hki : ((k : Int) == 0) = false := by simp; omega)
    | (go_at_call 73; refine c84.mono ?_; rintro e w2 ⟨r2, rfl, hb2, c21⟩; have hq2 := hq.next hb2; have hB2 := hb1.trans (hb2.mono hb1.size))
    | (go_at_call 101; refine c21.mono ?_; rintro e w3 ⟨rfl, rfl⟩)
    | (go_at_call 104; refine (c100 _ _ hq2).mono ?_; rintro e w4 ⟨rfl, rfl⟩)
    | (go_at_call 37; refine (c24 _ _ _ (hq2.next (below1 _ _)) (nv_uno rfl rfl (by decide))).mono ?_; rintro e w5 ⟨r5, rfl, hr5, hb5⟩))
  have hB3 := hB2.trans ((below1 w2 (.cells #[.int .u64 1] 22)).mono hB2.size)
  exact bodyPost_ret (v := .tuple #[r5, .bool false]) (by simp only [results, Tryz.results82]; go_simp) rfl ⟨_, rfl, hr5, hB3.trans (hb5.mono hB3.size)⟩
set_option maxHeartbeats 1000000 in
theorem wh_0en (h : hv = 0) (h1 : odd = false) : Calls Tryz.prog 82 #[.int .i64 0, .bool s, va, vb] w fun e w' => ∃ q, e = .returned (.tuple #[q, .bool false]) ∧ NV 41002 (Q) q w' ∧ Below w.heap.size w w' := by
  subst h h1
  go_enter Tryz.func82, Tryz.ntmps82
  go_wp2_with (first
    | (go_at_call 103; refine c99.mono ?_; rintro e w1 ⟨q, g, k, cap, rfl, hk, hq, hb1, c84⟩; have hki : ((k : Int) == 0) = false := by simp; omega)
    | (go_at_call 73; refine c84.mono ?_; rintro e w2 ⟨r2, rfl, hb2, c21⟩; have hq2 := hq.next hb2; have hB2 := hb1.trans (hb2.mono hb1.size))
    | (go_at_call 101; refine c21.mono ?_; rintro e w3 ⟨rfl, rfl⟩)
    | (go_at_call 104; refine (c100 _ _ hq2).mono ?_; rintro e w4 ⟨rfl, rfl⟩)
    | (go_at_call 37; refine (c24 _ _ _ (hq2.next (below1 _ _)) (nv_uno rfl rfl (by decide))).mono ?_; rintro e w5 ⟨r5, rfl, hr5, hb5⟩))
  exact bodyPost_ret (v := .tuple #[q, .bool false]) (by simp only [results, Tryz.results82]; go_simp) rfl ⟨_, rfl, hq2.more (by decide), hB2⟩
set_option maxHeartbeats 1000000 in
theorem wh_0l (h : ¬ 0 < hv) (h1 : (hv == 0) = false) : Calls Tryz.prog 82 #[.int .i64 0, .bool s, va, vb] w fun e w' => ∃ q, e = .returned (.tuple #[q, .bool false]) ∧ NV 41002 (Q) q w' ∧ Below w.heap.size w w' := by
  go_enter Tryz.func82, Tryz.ntmps82
  go_wp2_with (first
    | (go_at_call 103; refine c99.mono ?_; rintro e w1 ⟨q, g, k, cap, rfl, hk, hq, hb1, c84⟩; have hki : ((k : Int) == 0) = false := by simp; omega)
    | (go_at_call 73; refine c84.mono ?_; rintro e w2 ⟨r2, rfl, hb2, c21⟩; have hq2 := hq.next hb2; have hB2 := hb1.trans (hb2.mono hb1.size))
    | (go_at_call 101; refine c21.mono ?_; rintro e w3 ⟨rfl, rfl⟩)
    | (go_at_call 104; refine (c100 _ _ hq2).mono ?_; rintro e w4 ⟨rfl, rfl⟩)
    | (go_at_call 37; refine (c24 _ _ _ (hq2.next (below1 _ _)) (nv_uno rfl rfl (by decide))).mono ?_; rintro e w5 ⟨r5, rfl, hr5, hb5⟩))
  exact bodyPost_ret (v := .tuple #[q, .bool false]) (by simp only [results, Tryz.results82]; go_simp) rfl ⟨_, rfl, hq2.more (by decide), hB2⟩
set_option maxHeartbeats 1000000 in
theorem wh_1g (h : 0 ≤ hv) : Calls Tryz.prog 82 #[.int .i64 1, .bool s, va, vb] w fun e w' => ∃ q, e = .returned (.tuple #[q, .bool false]) ∧ NV 41002 (Q + 1) q w' ∧ Below w.heap.size w w' := by
  go_enter Tryz.func82, Tryz.ntmps82
  go_wp2_with (first
    | (go_at_call 103; refine c99.mono ?_; rintro e w1 ⟨q, g, k, cap, rfl, hk, hq, hb1, c84⟩; have hki : ((k : Int) == 0) = false := by simp; omega)
    | (go_at_call 73; refine c84.mono ?_; rintro e w2 ⟨r2, rfl, hb2, c21⟩; have hq2 := hq.next hb2; have hB2 := hb1.trans (hb2.mono hb1.size))
    | (go_at_call 101; refine c21.mono ?_; rintro e w3 ⟨rfl, rfl⟩)
    | (go_at_call 104; refine (c100 _ _ hq2).mono ?_; rintro e w4 ⟨rfl, rfl⟩)
    | (go_at_call 37; refine (c24 _ _ _ (hq2.next (below1 _ _)) (nv_uno rfl rfl (by decide))).mono ?_; rintro e w5 ⟨r5, rfl, hr5, hb5⟩))
  have hB3 := hB2.trans ((below1 w2 (.cells #[.int .u64 1] 22)).mono hB2.size)
  exact bodyPost_ret (v := .tuple #[r5, .bool false]) (by simp only [results, Tryz.results82]; go_simp) rfl ⟨_, rfl, hr5, hB3.trans (hb5.mono hB3.size)⟩
set_option maxHeartbeats 1000000 in
theorem wh_1l (h : ¬ 0 ≤ hv) : Calls Tryz.prog 82 #[.int .i64 1, .bool s, va, vb] w fun e w' => ∃ q, e = .returned (.tuple #[q, .bool false]) ∧ NV 41002 (Q) q w' ∧ Below w.heap.size w w' := by
  go_enter Tryz.func82, Tryz.ntmps82
  go_wp2_with (first
    | (go_at_call 103; refine c99.mono ?_; rintro e w1 ⟨q, g, k, cap, rfl, hk, hq, hb1, c84⟩; have hki : ((k : Int) == 0) = false := by simp; omega)
    | (go_at_call 73; refine c84.mono ?_; rintro e w2 ⟨r2, rfl, hb2, c21⟩; have hq2 := hq.next hb2; have hB2 := hb1.trans (hb2.mono hb1.size))
    | (go_at_call 101; refine c21.mono ?_; rintro e w3 ⟨rfl, rfl⟩)
    | (go_at_call 104; refine (c100 _ _ hq2).mono ?_; rintro e w4 ⟨rfl, rfl⟩)
    | (go_at_call 37; refine (c24 _ _ _ (hq2.next (below1 _ _)) (nv_uno rfl rfl (by decide))).mono ?_; rintro e w5 ⟨r5, rfl, hr5, hb5⟩))
  exact bodyPost_ret (v := .tuple #[q, .bool false]) (by simp only [results, Tryz.results82]; go_simp) rfl ⟨_, rfl, hq2.more (by decide), hB2⟩
set_option maxHeartbeats 1000000 in
theorem wh_2  : Calls Tryz.prog 82 #[.int .i64 2, .bool s, va, vb] w fun e w' => ∃ q, e = .returned (.tuple #[q, .bool false]) ∧ NV 41002 (Q) q w' ∧ Below w.heap.size w w' := by
  go_enter Tryz.func82, Tryz.ntmps82
  go_wp2_with (first
    | (go_at_call 103; refine c99.mono ?_; rintro e w1 ⟨q, g, k, cap, rfl, hk, hq, hb1, c84⟩; have hki : ((k : Int) == 0) = false := by simp; omega)
    | (go_at_call 73; refine c84.mono ?_; rintro e w2 ⟨r2, rfl, hb2, c21⟩; have hq2 := hq.next hb2; have hB2 := hb1.trans (hb2.mono hb1.size))
    | (go_at_call 101; refine c21.mono ?_; rintro e w3 ⟨rfl, rfl⟩)
    | (go_at_call 104; refine (c100 _ _ hq2).mono ?_; rintro e w4 ⟨rfl, rfl⟩)
    | (go_at_call 37; refine (c24 _ _ _ (hq2.next (below1 _ _)) (nv_uno rfl rfl (by decide))).mono ?_; rintro e w5 ⟨r5, rfl, hr5, hb5⟩))
  exact bodyPost_ret (v := .tuple #[q, .bool false]) (by simp only [results, Tryz.results82]; go_simp) rfl ⟨_, rfl, hq2.more (by decide), hB2⟩
set_option maxHeartbeats 1000000 in
theorem wh_3f  : Calls Tryz.prog 82 #[.int .i64 3, .bool false, va, vb] w fun e w' => ∃ q, e = .returned (.tuple #[q, .bool false]) ∧ NV 41002 (Q + 1) q w' ∧ Below w.heap.size w w' := by
  go_enter Tryz.func82, Tryz.ntmps82
  go_wp2_with (first
    | (go_at_call 103; refine c99.mono ?_; rintro e w1 ⟨q, g, k, cap, rfl, hk, hq, hb1, c84⟩; have hki : ((k : Int) == 0) = false := by simp; omega)
    | (go_at_call 73; refine c84.mono ?_; rintro e w2 ⟨r2, rfl, hb2, c21⟩; have hq2 := hq.next hb2; have hB2 := hb1.trans (hb2.mono hb1.size))
    | (go_at_call 101; refine c21.mono ?_; rintro e w3 ⟨rfl, rfl⟩)
    | (go_at_call 104; refine (c100 _ _ hq2).mono ?_; rintro e w4 ⟨rfl, rfl⟩)
    | (go_at_call 37; refine (c24 _ _ _ (hq2.next (below1 _ _)) (nv_uno rfl rfl (by decide))).mono ?_; rintro e w5 ⟨r5, rfl, hr5, hb5⟩))
  have hB3 := hB2.trans ((below1 w2 (.cells #[.int .u64 1] 22)).mono hB2.size)
  exact bodyPost_ret (v := .tuple #[r5, .bool false]) (by simp only [results, Tryz.results82]; go_simp) rfl ⟨_, rfl, hr5, hB3.trans (hb5.mono hB3.size)⟩
set_option maxHeartbeats 1000000 in
theorem wh_3t  : Calls Tryz.prog 82 #[.int .i64 3, .bool true, va, vb] w fun e w' => ∃ q, e = .returned (.tuple #[q, .bool false]) ∧ NV 41002 (Q) q w' ∧ Below w.heap.size w w' := by
  go_enter Tryz.func82, Tryz.ntmps82
  go_wp2_with (first
    | (go_at_call 103; refine c99.mono ?_; rintro e w1 ⟨q, g, k, cap, rfl, hk, hq, hb1, c84⟩; have hki : ((k : Int) == 0) = false := by simp; omega)
    | (go_at_call 73; refine c84.mono ?_; rintro e w2 ⟨r2, rfl, hb2, c21⟩; have hq2 := hq.next hb2; have hB2 := hb1.trans (hb2.mono hb1.size))
    | (go_at_call 101; refine c21.mono ?_; rintro e w3 ⟨rfl, rfl⟩)
    | (go_at_call 104; refine (c100 _ _ hq2).mono ?_; rintro e w4 ⟨rfl, rfl⟩)
    | (go_at_call 37; refine (c24 _ _ _ (hq2.next (below1 _ _)) (nv_uno rfl rfl (by decide))).mono ?_; rintro e w5 ⟨r5, rfl, hr5, hb5⟩))
  exact bodyPost_ret (v := .tuple #[q, .bool false]) (by simp only [results, Tryz.results82]; go_simp) rfl ⟨_, rfl, hq2.more (by decide), hB2⟩
set_option maxHeartbeats 1000000 in
theorem wh_4t  : Calls Tryz.prog 82 #[.int .i64 4, .bool true, va, vb] w fun e w' => ∃ q, e = .returned (.tuple #[q, .bool false]) ∧ NV 41002 (Q + 1) q w' ∧ Below w.heap.size w w' := by
  go_enter Tryz.func82, Tryz.ntmps82
  go_wp2_with (first
    | (go_at_call 103; refine c99.mono ?_; rintro e w1 ⟨q, g, k, cap, rfl, hk, hq, hb1, c84⟩; have hki : ((k : Int) == 0) = false := by simp; omega)
    | (go_at_call 73; refine c84.mono ?_; rintro e w2 ⟨r2, rfl, hb2, c21⟩; have hq2 := hq.next hb2; have hB2 := hb1.trans (hb2.mono hb1.size))
    | (go_at_call 101; refine c21.mono ?_; rintro e w3 ⟨rfl, rfl⟩)
    | (go_at_call 104; refine (c100 _ _ hq2).mono ?_; rintro e w4 ⟨rfl, rfl⟩)
    | (go_at_call 37; refine (c24 _ _ _ (hq2.next (below1 _ _)) (nv_uno rfl rfl (by decide))).mono ?_; rintro e w5 ⟨r5, rfl, hr5, hb5⟩))
  have hB3 := hB2.trans ((below1 w2 (.cells #[.int .u64 1] 22)).mono hB2.size)
  exact bodyPost_ret (v := .tuple #[r5, .bool false]) (by simp only [results, Tryz.results82]; go_simp) rfl ⟨_, rfl, hr5, hB3.trans (hb5.mono hB3.size)⟩
set_option maxHeartbeats 1000000 in
theorem wh_4f  : Calls Tryz.prog 82 #[.int .i64 4, .bool false, va, vb] w fun e w' => ∃ q, e = .returned (.tuple #[q, .bool false]) ∧ NV 41002 (Q) q w' ∧ Below w.heap.size w w' := by
  go_enter Tryz.func82, Tryz.ntmps82
  go_wp2_with (first
    | (go_at_call 103; refine c99.mono ?_; rintro e w1 ⟨q, g, k, cap, rfl, hk, hq, hb1, c84⟩; have hki : ((k : Int) == 0) = false := by simp; omega)
    | (go_at_call 73; refine c84.mono ?_; rintro e w2 ⟨r2, rfl, hb2, c21⟩; have hq2 := hq.next hb2; have hB2 := hb1.trans (hb2.mono hb1.size))
    | (go_at_call 101; refine c21.mono ?_; rintro e w3 ⟨rfl, rfl⟩)
    | (go_at_call 104; refine (c100 _ _ hq2).mono ?_; rintro e w4 ⟨rfl, rfl⟩)
    | (go_at_call 37; refine (c24 _ _ _ (hq2.next (below1 _ _)) (nv_uno rfl rfl (by decide))).mono ?_; rintro e w5 ⟨r5, rfl, hr5, hb5⟩))
  exact bodyPost_ret (v := .tuple #[q, .bool false]) (by simp only [results, Tryz.results82]; go_simp) rfl ⟨_, rfl, hq2.more (by decide), hB2⟩
end
set_option maxHeartbeats 400000 in
theorem wh_z (d : Int) (s : Bool) (va vb : Value) (Q : Nat) (w : World)
    (c99 : Calls Tryz.prog 103 #[va, vb] w fun e w1 => ∃ q g cap, e = .returned (.tuple #[q, .slice (some ⟨g, 0, none⟩) 0 cap]) ∧ NV 41000 Q q w1 ∧ Below w.heap.size w w1) :
    Calls Tryz.prog 82 #[.int .i64 d, .bool s, va, vb] w fun e w' => ∃ q, e = .returned (.tuple #[q, .bool true]) ∧ NV 41002 Q q w' ∧ Below w.heap.size w w' := by
  go_enter Tryz.func82, Tryz.ntmps82
  go_wp2_with (go_at_call 103; refine c99.mono ?_; rintro e w1 ⟨q, g, cap, rfl, hq, hb1⟩)
  exact bodyPost_ret (v := .tuple #[q, .bool true]) (by simp only [results, Tryz.results82]; go_simp) rfl ⟨_, rfl, hq.more (by decide), hb1⟩
/-- the whole number that a direction takes -/
theorem whole_nt {K A B : Nat} {va vb : Value} {w : World} (d : Int) (s : Bool) (hkn : knB d) (hK : K ≤ 20000) (h : NT K A va w) (h' : NT K B vb w) (hB : B ≠ 0) :
    Calls Tryz.prog 82 #[.int .i64 d, .bool s, va, vb] w fun e w' => ∃ q, e = .returned (.tuple #[q, .bool (decide (A % B = 0))]) ∧ NV 41002 (whC d s A B) q w' ∧ Below w.heap.size w w' := by
  have c99 := rover_nt hK h h' hB
  unfold whC
  by_cases hR : A % B = 0
  · rw [decide_eq_true hR, hR, show faB d s (decide (A / B % 2 = 1)) 0 B = false from if_pos rfl]
    rw [hR] at c99
    refine wh_z d s va vb _ w (c99.mono fun e w1 ⟨q, r, e1, e2, e3, e4⟩ => ?_)
    obtain ⟨g, k, cap, rfl, _, hz⟩ := e3.zero
    obtain rfl := hz.2 rfl
    exact ⟨q, g, cap, e1, e2, e4⟩
  · rw [decide_eq_false hR]
    have c99' : Calls Tryz.prog 103 #[va, vb] w fun e w1 => ∃ q g k cap, e = .returned (.tuple #[q, .slice (some ⟨g, 0, none⟩) k cap]) ∧ k ≠ 0 ∧ NV 41000 (A / B) q w1 ∧ Below w.heap.size w w1 ∧ Calls Tryz.prog 73 #[.slice (some ⟨g, 0, none⟩) k cap, .int .i64 1] w1 fun e w2 => ∃ r2, e = .returned r2 ∧ Below w1.heap.size w1 w2 ∧ Calls Tryz.prog 101 #[r2, vb] w2 fun e w3 => e = .returned (.int .i64 (sgn ((A % B + A % B : Nat) : Int) (B : Int))) ∧ w2 = w3 := by
      refine c99.mono fun e w1 ⟨q, r, e1, e2, e3, e4⟩ => ?_
      have c84 := rleft_nt 1 (by decide) (by decide) e3.nv
      obtain ⟨g, k, cap, rfl, _, hz⟩ := e3.zero
      refine ⟨q, g, k, cap, e1, fun hk => hR (hz.1 hk), e2, e4, c84.mono fun e w2 ⟨r2, f1, f2, f3⟩ => ⟨r2, f1, f3, ?_⟩⟩
      have := rcmp_nv (by decide) (by omega) f2.nv ((h'.next e4).next f3).nv
      rw [Nat.pow_one, Nat.mul_two] at this
      exact this
    have c100 := fun W q (hq : NV 41000 (A / B) q W) => q2_nv (by decide) hq
    have c24 := fun W q v (hq : NV 41000 (A / B) q W) (h1 : NV 1 1 v W) => radd_nv (by decide) (by decide) hq h1
    have hd : d = 0 ∨ d = 1 ∨ d = 2 ∨ d = 3 ∨ d = 4 := by unfold knB at hkn; omega
    have sw := sgn_ways ((A % B + A % B : Nat) : Int) (B : Int)
    unfold faB
    rw [if_neg hR]
    rcases hd with rfl | rfl | rfl | rfl | rfl
    · rw [if_pos rfl]
      rcases sw with ⟨a, e⟩ | ⟨a, e⟩ | ⟨a, e⟩
      · rw [decide_eq_false (show ¬ B < A % B + A % B by omega), decide_eq_false (show ¬ A % B + A % B = B by omega)]
        exact wh_0l _ s _ va vb _ w c99' c100 c24 (by omega) (by rw [e]; rfl)
      · rw [decide_eq_false (show ¬ B < A % B + A % B by omega), decide_eq_true (show A % B + A % B = B by omega)]
        cases ho : decide (A / B % 2 = 1)
        · exact wh_0en _ s _ va vb _ w c99' c100 c24 e ho
        · exact wh_0eo _ s _ va vb _ w c99' c100 c24 e ho
      · rw [decide_eq_true (show B < A % B + A % B by omega)]
        exact wh_0g _ s _ va vb _ w c99' c100 c24 (by omega)
    · rw [if_neg (show ¬ (1 : Int) = 0 by decide), if_pos (show (1 : Int) = 1 from rfl)]
      rcases sw with ⟨a, e⟩ | ⟨a, e⟩ | ⟨a, e⟩
      · rw [decide_eq_false (show ¬ B ≤ A % B + A % B by omega)]
        exact wh_1l _ s _ va vb _ w c99' c100 c24 (by omega)
      · rw [decide_eq_true (show B ≤ A % B + A % B by omega)]
        exact wh_1g _ s _ va vb _ w c99' c100 c24 (by omega)
      · rw [decide_eq_true (show B ≤ A % B + A % B by omega)]
        exact wh_1g _ s _ va vb _ w c99' c100 c24 (by omega)
    · exact wh_2 _ s _ va vb _ w c99' c100 c24
    · cases s
      · exact wh_3f _ _ va vb _ w c99' c100 c24
      · exact wh_3t _ _ va vb _ w c99' c100 c24
    · cases s
      · exact wh_4f _ _ va vb _ w c99' c100 c24
      · exact wh_4t _ _ va vb _ w c99' c100 c24
end
end Go.Proofs.YtiojbgdfmabjdaaGreatDoor
