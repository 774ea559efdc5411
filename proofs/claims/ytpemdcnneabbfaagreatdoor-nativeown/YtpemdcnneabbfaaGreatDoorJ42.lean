/-
  Texts that the proof leans on.
-/
import Derived.Test.YtpemdcnneabbfaaGreatDoorJ41
import Derived.Test.YtpemdcnneabbfaaGreatDoorJ35
import Derived.Test.YtpemdcnneabbfaaGreatDoorJ40
import Derived.Deep.RegionWith
import Derived.Test.YtpemdcnneabbfaaGreatDoorJ3
set_option linter.unusedVariables false
set_option linter.unusedSectionVars false
set_option linter.unusedSimpArgs false
set_option maxRecDepth 20000
namespace Go.Proofs.YtpemdcnneabbfaaGreatDoor
open Go.RowKit
section
theorem val_odd {z : Nat → Int} {k V : Nat} (hk : 0 < k) (hv : val z k = (V : Int)) : (V : Int) % 2 = z 0 % 2 := by
  have key : ∀ j, val z (j + 1) % 2 = z 0 % 2 := by
    intro j
    induction j with
    | zero => simp [val]
    | succ j ih =>
      have : val z (j + 1 + 1) = val z (j + 1) + z (j + 1) * 18446744073709551616 ^ (j + 1) := rfl
      rw [this, Int.pow_succ, show z (j + 1) * (18446744073709551616 ^ j * 18446744073709551616) = 2 * (z (j + 1) * 18446744073709551616 ^ j * 9223372036854775808) by grind, Int.add_mul_emod_self_left]
      exact ih
  obtain ⟨j, rfl⟩ : ∃ j, k = j + 1 := ⟨k - 1, by omega⟩
  rw [← hv]; exact key j
set_option maxHeartbeats 400000 in
theorem q2_nv {K V : Nat} {v : Value} {w : World} (hK : K < 1000000) (h : NV K V v w) :
    Calls Tryz.prog 72 #[v] w fun e w' => e = .returned (.bool (decide (V % 2 = 1))) ∧ w = w' := by
  obtain ⟨g, k, cap, z, rfl, hk, hN, hv⟩ := h
  by_cases hk0 : k = 0
  · subst hk0
    obtain rfl : V = 0 := by have : val z 0 = 0 := rfl; omega
    go_enter Tryz.func72, Tryz.ntmps72
    go_wp2
    go_ret
    exact ⟨by simp, rfl⟩
  · have ho := val_odd (by omega) hv
    have hc : g < w.heap.size ∧ w.cell? ⟨g, 0, none⟩ = some (.int .u64 (z 0)) := by
      rcases hN.2.2.2.2 with ⟨h, _⟩ | ⟨b', off', h, hbs, hc⟩
      · cases h
      · cases h; exact ⟨hbs, hc 0 (by omega)⟩
    obtain ⟨hgb, hcc⟩ := hc
    have hz := hN.2.2.1 0
    have hki : (0 : Int) < k := by omega
    have hcap := hN.1
    have HO : Hid (decide (V % 2 = 1) = (z 0 % 2 == 1)) := by
      show _ = _
      by_cases h : z 0 % 2 = 1
      · rw [h]; simp; omega
      · rw [decide_eq_false (by omega)]; simp [h]
    clear hN ho hv
    go_enter Tryz.func72, Tryz.ntmps72
    go_wp2
    go_ret
    exact ⟨by rw [HO.out]; simp, rfl⟩
attribute [local irreducible] NV NT
section
variable (d hv : Int) (s odd : Bool) (va vb : Value) (Q : Nat) (w : World)
  (c99 : Calls Tryz.prog 70 #[va, vb] w fun e w1 => ∃ q g k cap, e = .returned (.tuple #[q, .slice (some ⟨g, 0, none⟩) k cap]) ∧ k ≠ 0 ∧ NV 41000 Q q w1 ∧ Below w.heap.size w w1 ∧ Calls Tryz.prog 71 #[.slice (some ⟨g, 0, none⟩) k cap, .int .i64 1] w1 fun e w2 => ∃ r2, e = .returned r2 ∧ Below w1.heap.size w1 w2 ∧ Calls Tryz.prog 69 #[r2, vb] w2 fun e w3 => e = .returned (.int .i64 hv) ∧ w2 = w3)
  (c100 : ∀ W q, NV 41000 Q q W → Calls Tryz.prog 72 #[q] W fun e w' => e = .returned (.bool odd) ∧ W = w')
  (c24 : ∀ W q v, NV 41000 Q q W → NV 1 1 v W → Calls Tryz.prog 73 #[q, v] W fun e w' => ∃ r, e = .returned r ∧ NV 41002 (Q + 1) r w' ∧ Below W.heap.size W w')
include c99 c100 c24
set_option maxHeartbeats 1000000 in
theorem wh_0g (h : 0 < hv) : Calls Tryz.prog 32 #[.int .i64 0, .bool s, va, vb] w fun e w' => ∃ q, e = .returned (.tuple #[q, .bool false]) ∧ NV 41002 (Q + 1) q w' ∧ Below w.heap.size w w' := by
  go_enter Tryz.func32, Tryz.ntmps32
  go_wp2_with (first
    | (go_at_call 70; refine c99.mono ?_; rintro e w1 ⟨q, g, k, cap, rfl, hk, hq, hb1, c84⟩; have hki : ((k : Int) == 0) = false := by simp; omega)
    | (go_at_call 71; refine c84.mono ?_; rintro e w2 ⟨r2, rfl, hb2, c21⟩; have hq2 := hq.next hb2; have hB2 := hb1.trans (hb2.mono hb1.size))
    | (go_at_call 69; refine c21.mono ?_; rintro e w3 ⟨rfl, rfl⟩)
    | (go_at_call 72; refine (c100 _ _ hq2).mono ?_; rintro e w4 ⟨rfl, rfl⟩)
    | (go_at_call 73; refine (c24 _ _ _ (hq2.next (below1 _ _)) (nv_uno rfl rfl (by decide))).mono ?_; rintro e w5 ⟨r5, rfl, hr5, hb5⟩))
  have hB3 := hB2.trans ((below1 w2 (.cells #[.int .u64 1] 23)).mono hB2.size)
  exact bodyPost_ret (v := .tuple #[r5, .bool false]) (by simp only [results, Tryz.results32]; go_simp) rfl ⟨_, rfl, hr5, hB3.trans (hb5.mono hB3.size)⟩
set_option maxHeartbeats 1000000 in
theorem wh_0eo (h : hv = 0) (h1 : odd = true) : Calls Tryz.prog 32 #[.int .i64 0, .bool s, va, vb] w fun e w' => ∃ q, e = .returned (.tuple #[q, .bool false]) ∧ NV 41002 (Q + 1) q w' ∧ Below w.heap.size w w' := by
  subst h h1
  go_enter Tryz.func32, Tryz.ntmps32
  go_wp2_with (first
    | (go_at_call 70; refine c99.mono ?_; rintro e w1 ⟨q, g, k, cap, rfl, hk, hq, hb1, c84⟩; have hki : ((k : Int) == 0) = false := by simp; omega)
    | (go_at_call 71; refine c84.mono ?_; rintro e w2 ⟨r2, rfl, hb2, c21⟩; have hq2 := hq.next hb2; have hB2 := hb1.trans (hb2.mono hb1.size))
    | (go_at_call 69; refine c21.mono ?_; rintro e w3 ⟨rfl, rfl⟩)
    | (go_at_call 72; refine (c100 _ _ hq2).mono ?_; rintro e w4 ⟨rfl, rfl⟩)
    | (go_at_call 73; refine (c24 _ _ _ (hq2.next (below1 _ _)) (nv_uno rfl rfl (by decide))).mono ?_; rintro e w5 ⟨r5, rfl, hr5, hb5⟩))
  have hB3 := hB2.trans ((below1 w2 (.cells #[.int .u64 1] 23)).mono hB2.size)
  exact bodyPost_ret (v := .tuple #[r5, .bool false]) (by simp only [results, Tryz.results32]; go_simp) rfl ⟨_, rfl, hr5, hB3.trans (hb5.mono hB3.size)⟩
set_option maxHeartbeats 1000000 in
theorem wh_0en (h : hv = 0) (h1 : odd = false) : Calls Tryz.prog 32 #[.int .i64 0, .bool s, va, vb] w fun e w' => ∃ q, e = .returned (.tuple #[q, .bool false]) ∧ NV 41002 (Q) q w' ∧ Below w.heap.size w w' := by
  subst h h1
  go_enter Tryz.func32, Tryz.ntmps32
  go_wp2_with (first
    | (go_at_call 70; refine c99.mono ?_; rintro e w1 ⟨q, g, k, cap, rfl, hk, hq, hb1, c84⟩; have hki : ((k : Int) == 0) = false := by simp; omega)
    | (go_at_call 71; refine c84.mono ?_; rintro e w2 ⟨r2, rfl, hb2, c21⟩; have hq2 := hq.next hb2; have hB2 := hb1.trans (hb2.mono hb1.size))
    | (go_at_call 69; refine c21.mono ?_; rintro e w3 ⟨rfl, rfl⟩)
    | (go_at_call 72; refine (c100 _ _ hq2).mono ?_; rintro e w4 ⟨rfl, rfl⟩)
    | (go_at_call 73; refine (c24 _ _ _ (hq2.next (below1 _ _)) (nv_uno rfl rfl (by decide))).mono ?_; rintro e w5 ⟨r5, rfl, hr5, hb5⟩))
  exact bodyPost_ret (v := .tuple #[q, .bool false]) (by simp only [results, Tryz.results32]; go_simp) rfl ⟨_, rfl, hq2.more (by decide), hB2⟩
set_option maxHeartbeats 1000000 in
theorem wh_0l (h : ¬ 0 < hv) (h1 : (hv == 0) = false) : Calls Tryz.prog 32 #[.int .i64 0, .bool s, va, vb] w fun e w' => ∃ q, e = .returned (.tuple #[q, .bool false]) ∧ NV 41002 (Q) q w' ∧ Below w.heap.size w w' := by
  go_enter Tryz.func32, Tryz.ntmps32
  go_wp2_with (first
    | (go_at_call 70; refine c99.mono ?_; rintro e w1 ⟨q, g, k, cap, rfl, hk, hq, hb1, c84⟩; have hki : ((k : Int) == 0) = false := by simp; omega)
    | (go_at_call 71; refine c84.mono ?_; rintro e w2 ⟨r2, rfl, hb2, c21⟩; have hq2 := hq.next hb2; have hB2 := hb1.trans (hb2.mono hb1.size))
    | (go_at_call 69; refine c21.mono ?_; rintro e w3 ⟨rfl, rfl⟩)
    | (go_at_call 72; refine (c100 _ _ hq2).mono ?_; rintro e w4 ⟨rfl, rfl⟩)
    | (go_at_call 73; refine (c24 _ _ _ (hq2.next (below1 _ _)) (nv_uno rfl rfl (by decide))).mono ?_; rintro e w5 ⟨r5, rfl, hr5, hb5⟩))
  exact bodyPost_ret (v := .tuple #[q, .bool false]) (by simp only [results, Tryz.results32]; go_simp) rfl ⟨_, rfl, hq2.more (by decide), hB2⟩
set_option maxHeartbeats 1000000 in
theorem wh_1g (h : 0 ≤ hv) : Calls Tryz.prog 32 #[.int .i64 1, .bool s, va, vb] w fun e w' => ∃ q, e = .returned (.tuple #[q, .bool false]) ∧ NV 41002 (Q + 1) q w' ∧ Below w.heap.size w w' := by
  go_enter Tryz.func32, Tryz.ntmps32
  go_wp2_with (first
    | (go_at_call 70; refine c99.mono ?_; rintro e w1 ⟨q, g, k, cap, rfl, hk, hq, hb1, c84⟩; have hki : ((k : Int) == 0) = false := by simp; omega)
    | (go_at_call 71; refine c84.mono ?_; rintro e w2 ⟨r2, rfl, hb2, c21⟩; have hq2 := hq.next hb2; have hB2 := hb1.trans (hb2.mono hb1.size))
    | (go_at_call 69; refine c21.mono ?_; rintro e w3 ⟨rfl, rfl⟩)
    | (go_at_call 72; refine (c100 _ _ hq2).mono ?_; rintro e w4 ⟨rfl, rfl⟩)
    | (go_at_call 73; refine (c24 _ _ _ (hq2.next (below1 _ _)) (nv_uno rfl rfl (by decide))).mono ?_; rintro e w5 ⟨r5, rfl, hr5, hb5⟩))
  have hB3 := hB2.trans ((below1 w2 (.cells #[.int .u64 1] 23)).mono hB2.size)
  exact bodyPost_ret (v := .tuple #[r5, .bool false]) (by simp only [results, Tryz.results32]; go_simp) rfl ⟨_, rfl, hr5, hB3.trans (hb5.mono hB3.size)⟩
set_option maxHeartbeats 1000000 in
theorem wh_1l (h : ¬ 0 ≤ hv) : Calls Tryz.prog 32 #[.int .i64 1, .bool s, va, vb] w fun e w' => ∃ q, e = .returned (.tuple #[q, .bool false]) ∧ NV 41002 (Q) q w' ∧ Below w.heap.size w w' := by
  go_enter Tryz.func32, Tryz.ntmps32
  go_wp2_with (first
    | (go_at_call 70; refine c99.mono ?_; rintro e w1 ⟨q, g, k, cap, rfl, hk, hq, hb1, c84⟩; have hki : ((k : Int) == 0) = false := by simp; omega)
    | (go_at_call 71; refine c84.mono ?_; rintro e w2 ⟨r2, rfl, hb2, c21⟩; have hq2 := hq.next hb2; have hB2 := hb1.trans (hb2.mono hb1.size))
    | (go_at_call 69; refine c21.mono ?_; rintro e w3 ⟨rfl, rfl⟩)
    | (go_at_call 72; refine (c100 _ _ hq2).mono ?_; rintro e w4 ⟨rfl, rfl⟩)
    | (go_at_call 73; refine (c24 _ _ _ (hq2.next (below1 _ _)) (nv_uno rfl rfl (by decide))).mono ?_; rintro e w5 ⟨r5, rfl, hr5, hb5⟩))
  exact bodyPost_ret (v := .tuple #[q, .bool false]) (by simp only [results, Tryz.results32]; go_simp) rfl ⟨_, rfl, hq2.more (by decide), hB2⟩
set_option maxHeartbeats 1000000 in
theorem wh_2  : Calls Tryz.prog 32 #[.int .i64 2, .bool s, va, vb] w fun e w' => ∃ q, e = .returned (.tuple #[q, .bool false]) ∧ NV 41002 (Q) q w' ∧ Below w.heap.size w w' := by
  go_enter Tryz.func32, Tryz.ntmps32
  go_wp2_with (first
    | (go_at_call 70; refine c99.mono ?_; rintro e w1 ⟨q, g, k, cap, rfl, hk, hq, hb1, c84⟩; have hki : ((k : Int) == 0) = false := by simp; omega)
    | (go_at_call 71; refine c84.mono ?_; rintro e w2 ⟨r2, rfl, hb2, c21⟩; have hq2 := hq.next hb2; have hB2 := hb1.trans (hb2.mono hb1.size))
    | (go_at_call 69; refine c21.mono ?_; rintro e w3 ⟨rfl, rfl⟩)
    | (go_at_call 72; refine (c100 _ _ hq2).mono ?_; rintro e w4 ⟨rfl, rfl⟩)
    | (go_at_call 73; refine (c24 _ _ _ (hq2.next (below1 _ _)) (nv_uno rfl rfl (by decide))).mono ?_; rintro e w5 ⟨r5, rfl, hr5, hb5⟩))
  exact bodyPost_ret (v := .tuple #[q, .bool false]) (by simp only [results, Tryz.results32]; go_simp) rfl ⟨_, rfl, hq2.more (by decide), hB2⟩
set_option maxHeartbeats 1000000 in
theorem wh_3f  : Calls Tryz.prog 32 #[.int .i64 3, .bool false, va, vb] w fun e w' => ∃ q, e = .returned (.tuple #[q, .bool false]) ∧ NV 41002 (Q + 1) q w' ∧ Below w.heap.size w w' := by
  go_enter Tryz.func32, Tryz.ntmps32
  go_wp2_with (first
    | (go_at_call 70; refine c99.mono ?_; rintro e w1 ⟨q, g, k, cap, rfl, hk, hq, hb1, c84⟩; have hki : ((k : Int) == 0) = false := by simp; omega)
    | (go_at_call 71; refine c84.mono ?_; rintro e w2 ⟨r2, rfl, hb2, c21⟩; have hq2 := hq.next hb2; have hB2 := hb1.trans (hb2.mono hb1.size))
    | (go_at_call 69; refine c21.mono ?_; rintro e w3 ⟨rfl, rfl⟩)
    | (go_at_call 72; refine (c100 _ _ hq2).mono ?_; rintro e w4 ⟨rfl, rfl⟩)
    | (go_at_call 73; refine (c24 _ _ _ (hq2.next (below1 _ _)) (nv_uno rfl rfl (by decide))).mono ?_; rintro e w5 ⟨r5, rfl, hr5, hb5⟩))
  have hB3 := hB2.trans ((below1 w2 (.cells #[.int .u64 1] 23)).mono hB2.size)
  exact bodyPost_ret (v := .tuple #[r5, .bool false]) (by simp only [results, Tryz.results32]; go_simp) rfl ⟨_, rfl, hr5, hB3.trans (hb5.mono hB3.size)⟩
set_option maxHeartbeats 1000000 in
theorem wh_3t  : Calls Tryz.prog 32 #[.int .i64 3, .bool true, va, vb] w fun e w' => ∃ q, e = .returned (.tuple #[q, .bool false]) ∧ NV 41002 (Q) q w' ∧ Below w.heap.size w w' := by
  go_enter Tryz.func32, Tryz.ntmps32
  go_wp2_with (first
    | (go_at_call 70; refine c99.mono ?_; rintro e w1 ⟨q, g, k, cap, rfl, hk, hq, hb1, c84⟩; have hki : ((k : Int) == 0) = false := by simp; omega)
    | (go_at_call 71; refine c84.mono ?_; rintro e w2 ⟨r2, rfl, hb2, c21⟩; have hq2 := hq.next hb2; have hB2 := hb1.trans (hb2.mono hb1.size))
    | (go_at_call 69; refine c21.mono ?_; rintro e w3 ⟨rfl, rfl⟩)
    | (go_at_call 72; refine (c100 _ _ hq2).mono ?_; rintro e w4 ⟨rfl, rfl⟩)
    | (go_at_call 73; refine (c24 _ _ _ (hq2.next (below1 _ _)) (nv_uno rfl rfl (by decide))).mono ?_; rintro e w5 ⟨r5, rfl, hr5, hb5⟩))
  exact bodyPost_ret (v := .tuple #[q, .bool false]) (by simp only [results, Tryz.results32]; go_simp) rfl ⟨_, rfl, hq2.more (by decide), hB2⟩
set_option maxHeartbeats 1000000 in
theorem wh_4t  : Calls Tryz.prog 32 #[.int .i64 4, .bool true, va, vb] w fun e w' => ∃ q, e = .returned (.tuple #[q, .bool false]) ∧ NV 41002 (Q + 1) q w' ∧ Below w.heap.size w w' := by
  go_enter Tryz.func32, Tryz.ntmps32
  go_wp2_with (first
    | (go_at_call 70; refine c99.mono ?_; rintro e w1 ⟨q, g, k, cap, rfl, hk, hq, hb1, c84⟩; have hki : ((k : Int) == 0) = false := by simp; omega)
    | (go_at_call 71; refine c84.mono ?_; rintro e w2 ⟨r2, rfl, hb2, c21⟩; have hq2 := hq.next hb2; have hB2 := hb1.trans (hb2.mono hb1.size))
    | (go_at_call 69; refine c21.mono ?_; rintro e w3 ⟨rfl, rfl⟩)
    | (go_at_call 72; refine (c100 _ _ hq2).mono ?_; rintro e w4 ⟨rfl, rfl⟩)
    | (go_at_call 73; refine (c24 _ _ _ (hq2.next (below1 _ _)) (nv_uno rfl rfl (by decide))).mono ?_; rintro e w5 ⟨r5, rfl, hr5, hb5⟩))
  have hB3 := hB2.trans ((below1 w2 (.cells #[.int .u64 1] 23)).mono hB2.size)
  exact bodyPost_ret (v := .tuple #[r5, .bool false]) (by simp only [results, Tryz.results32]; go_simp) rfl ⟨_, rfl, hr5, hB3.trans (hb5.mono hB3.size)⟩
set_option maxHeartbeats 1000000 in
theorem wh_4f  : Calls Tryz.prog 32 #[.int .i64 4, .bool false, va, vb] w fun e w' => ∃ q, e = .returned (.tuple #[q, .bool false]) ∧ NV 41002 (Q) q w' ∧ Below w.heap.size w w' := by
  go_enter Tryz.func32, Tryz.ntmps32
  go_wp2_with (first
    | (go_at_call 70; refine c99.mono ?_; rintro e w1 ⟨q, g, k, cap, rfl, hk, hq, hb1, c84⟩; have hki : ((k : Int) == 0) = false := by simp; omega)
    | (go_at_call 71; refine c84.mono ?_; rintro e w2 ⟨r2, rfl, hb2, c21⟩; have hq2 := hq.next hb2; have hB2 := hb1.trans (hb2.mono hb1.size))
    | (go_at_call 69; refine c21.mono ?_; rintro e w3 ⟨rfl, rfl⟩)
    | (go_at_call 72; refine (c100 _ _ hq2).mono ?_; rintro e w4 ⟨rfl, rfl⟩)
    | (go_at_call 73; refine (c24 _ _ _ (hq2.next (below1 _ _)) (nv_uno rfl rfl (by decide))).mono ?_; rintro e w5 ⟨r5, rfl, hr5, hb5⟩))
  exact bodyPost_ret (v := .tuple #[q, .bool false]) (by simp only [results, Tryz.results32]; go_simp) rfl ⟨_, rfl, hq2.more (by decide), hB2⟩
end
set_option maxHeartbeats 400000 in
theorem wh_z (d : Int) (s : Bool) (va vb : Value) (Q : Nat) (w : World)
    (c99 : Calls Tryz.prog 70 #[va, vb] w fun e w1 => ∃ q g cap, e = .returned (.tuple #[q, .slice (some ⟨g, 0, none⟩) 0 cap]) ∧ NV 41000 Q q w1 ∧ Below w.heap.size w w1) :
    Calls Tryz.prog 32 #[.int .i64 d, .bool s, va, vb] w fun e w' => ∃ q, e = .returned (.tuple #[q, .bool true]) ∧ NV 41002 Q q w' ∧ Below w.heap.size w w' := by
  go_enter Tryz.func32, Tryz.ntmps32
  go_wp2_with (go_at_call 70; refine c99.mono ?_; rintro e w1 ⟨q, g, cap, rfl, hq, hb1⟩)
  exact bodyPost_ret (v := .tuple #[q, .bool true]) (by simp only [results, Tryz.results32]; go_simp) rfl ⟨_, rfl, hq.more (by decide), hb1⟩
/-- the whole number that a direction takes -/
theorem whole_nt {K A B : Nat} {va vb : Value} {w : World} (d : Int) (s : Bool) (hkn : knB d) (hK : K ≤ 20000) (h : NT K A va w) (h' : NT K B vb w) (hB : B ≠ 0) :
    Calls Tryz.prog 32 #[.int .i64 d, .bool s, va, vb] w fun e w' => ∃ q, e = .returned (.tuple #[q, .bool (decide (A % B = 0))]) ∧ NV 41002 (whC d s A B) q w' ∧ Below w.heap.size w w' := by
  have c99 := rover_nt hK h h' hB
  unfold whC
  by_cases hR : A % B = 0
  · rw [decide_eq_true hR, hR, show faB d s (decide (A / B % 2 = 1)) 0 B = false from if_pos rfl]
    rw [hR] at c99
    refine wh_z d s va vb _ w (c99.mono fun e w1 ⟨q, r, e1, e2, e3, e4⟩ => ?_)
    obtain ⟨g, k, cap, rfl, _, hz⟩ := e3.zero
    obtain rfl := hz.2 rfl
    exact ⟨q, g, cap, e1, e2, e4⟩
  · rw [decide_eq_false hR]
    have c99' : Calls Tryz.prog 70 #[va, vb] w fun e w1 => ∃ q g k cap, e = .returned (.tuple #[q, .slice (some ⟨g, 0, none⟩) k cap]) ∧ k ≠ 0 ∧ NV 41000 (A / B) q w1 ∧ Below w.heap.size w w1 ∧ Calls Tryz.prog 71 #[.slice (some ⟨g, 0, none⟩) k cap, .int .i64 1] w1 fun e w2 => ∃ r2, e = .returned r2 ∧ Below w1.heap.size w1 w2 ∧ Calls Tryz.prog 69 #[r2, vb] w2 fun e w3 => e = .returned (.int .i64 (sgn ((A % B + A % B : Nat) : Int) (B : Int))) ∧ w2 = w3 := by
      refine c99.mono fun e w1 ⟨q, r, e1, e2, e3, e4⟩ => ?_
      have c84 := rleft_nt 1 (by decide) (by decide) e3.nv
      obtain ⟨g, k, cap, rfl, _, hz⟩ := e3.zero
      refine ⟨q, g, k, cap, e1, fun hk => hR (hz.1 hk), e2, e4, c84.mono fun e w2 ⟨r2, f1, f2, f3⟩ => ⟨r2, f1, f3, ?_⟩⟩
      have := rcmp_nv (by decide) (by omega) f2.nv ((h'.next e4).next f3).nv
      rw [Nat.pow_one, Nat.mul_two] at this
      exact this
    have c100 := fun W q (hq : NV 41000 (A / B) q W) => q2_nv (by decide) hq
    have c24 := fun W q v (hq : NV 41000 (A / B) q W) (h1 : NV 1 1 v W) => radd_nv (by decide) (by decide) hq h1
    have hd : d = 0 ∨ d = 1 ∨ d = 2 ∨ d = 3 ∨ d = 4 := by unfold knB at hkn; omega
    have sw := sgn_ways ((A % B + A % B : Nat) : Int) (B : Int)
    unfold faB
    rw [if_neg hR]
    rcases hd with rfl | rfl | rfl | rfl | rfl
    · rw [if_pos rfl]
      rcases sw with ⟨a, e⟩ | ⟨a, e⟩ | ⟨a, e⟩
      · rw [decide_eq_false (show ¬ B < A % B + A % B by omega), decide_eq_false (show ¬ A % B + A % B = B by omega)]
        exact wh_0l _ s _ va vb _ w c99' c100 c24 (by omega) (by rw [e]; rfl)
      · rw [decide_eq_false (show ¬ B < A % B + A % B by omega), decide_eq_true (show A % B + A % B = B by omega)]
        cases ho : decide (A / B % 2 = 1)
        · exact wh_0en _ s _ va vb _ w c99' c100 c24 e ho
        · exact wh_0eo _ s _ va vb _ w c99' c100 c24 e ho
      · rw [decide_eq_true (show B < A % B + A % B by omega)]
        exact wh_0g _ s _ va vb _ w c99' c100 c24 (by omega)
    · rw [if_neg (show ¬ (1 : Int) = 0 by decide), if_pos (show (1 : Int) = 1 from rfl)]
      rcases sw with ⟨a, e⟩ | ⟨a, e⟩ | ⟨a, e⟩
      · rw [decide_eq_false (show ¬ B ≤ A % B + A % B by omega)]
        exact wh_1l _ s _ va vb _ w c99' c100 c24 (by omega)
      · rw [decide_eq_true (show B ≤ A % B + A % B by omega)]
        exact wh_1g _ s _ va vb _ w c99' c100 c24 (by omega)
      · rw [decide_eq_true (show B ≤ A % B + A % B by omega)]
        exact wh_1g _ s _ va vb _ w c99' c100 c24 (by omega)
    · exact wh_2 _ s _ va vb _ w c99' c100 c24
    · cases s
      · exact wh_3f _ _ va vb _ w c99' c100 c24
      · exact wh_3t _ _ va vb _ w c99' c100 c24
    · cases s
      · exact wh_4f _ _ va vb _ w c99' c100 c24
      · exact wh_4t _ _ va vb _ w c99' c100 c24
end
section
attribute [local irreducible] W4 NT NV

section
variable (n d x : Int) (s : Bool) (gn kn cn : Nat) (vd : Value) (w : World)
variable (nm : ByteArray) (wd : Int) (f e : Nat) (l m : Int) (A B A' B' C : Nat) (K K' : Nat) (RZ RI RL RF : Nat) (E2 E3 E4 E5 : Int) (low q0 : Int) (ex inf : Bool)
  (c47 : ∀ W, Calls Tryz.prog 28 #[.int .i64 n] W fun r w' => r = .returned (.tuple #[IV n nm wd f e l m, .int .i64 0]) ∧ Below W.heap.size W w')
include c47
set_option maxHeartbeats 1000000 in
theorem round_z
    (c66 : ∀ W, Calls Tryz.prog 29 #[.int .i64 n, .agg #[.int .i64 1, .bool s, .bool false, .int .i64 l, .int .u64 0, .int .u64 0, .int .u64 0, .int .u64 0]] W fun r w' => r = .returned (.tuple #[A4 RZ, .int .i64 E2]) ∧ Below W.heap.size W w') :
    Calls Tryz.prog 17 #[.int .i64 n, .int .i64 d, .bool s, .slice (some ⟨gn, 0, none⟩) 0 cn, vd, .int .i64 x] w fun r w' => r = .returned (.tuple #[A4 RZ, .int .i64 0]) ∧ Below w.heap.size w w' := by
  have hsm := cell_set_map
  go_enter Tryz.func17, Tryz.ntmps17
  go_wp2_with (first
    | (go_at_call 28; refine (c47 _).mono ?_; rintro r w1 ⟨rfl, hb1⟩; obtain ⟨hc1, hf1⟩ := bcell hb1; have hz1_0 : w.heap.size < w1.heap.size := lt_below hb1 ltg; have hl1_0 := Nat.le_of_lt hz1_0; have hA1 := bnext (w0 := w) bgo hb1; have hs1 := hA1.size; clear hb1)
    | (go_at_call 29; refine (c66 _).mono ?_; rintro r w2 ⟨rfl, hb2⟩; obtain ⟨hc2, hf2⟩ := bcell hb2; have hz2_0 : w.heap.size < w2.heap.size := lt_below hb2 ltg; have hl2_0 := Nat.le_of_lt hz2_0; have hz2_1 : w1.heap.size < w2.heap.size := lt_below hb2 ltg; have hl2_1 := Nat.le_of_lt hz2_1; have hA2 := bnext (w0 := w) bgo hb2; have hs2 := hA2.size; clear hb2))
  exact bodyPost_ret (v := .tuple #[A4 RZ, .int .i64 0]) (by simp only [results, Tryz.results17]; go_simp) rfl ⟨rfl, bgo⟩
variable (hf : f ≤ 300) (hl : -100000 ≤ l ∧ l ≤ 100000) (hm : -100000 ≤ m ∧ m ≤ 100000) (hld : -3000000 ≤ low ∧ low ≤ 3000000) (hq0 : q0 = max l (low - ((f : Int) + 1) + 1))
  (hkn : ((kn : Int) == 0) = false)
  (c67 : ∀ W, Below w.heap.size w W → Calls Tryz.prog 30 #[.slice (some ⟨gn, 0, none⟩) kn cn, vd, .int .u64 2, .int .i64 x] W fun r w' => ∃ a b, r = .returned (.tuple #[a, b]) ∧ NT K A a w' ∧ NT K B b w' ∧ Below W.heap.size W w')
  (c68 : ∀ W a b, NT K A a W → NT K B b W → Calls Tryz.prog 31 #[a, b] W fun r w' => r = .returned (.int .i64 low) ∧ Below W.heap.size W w')
  (c67b : ∀ W a b k, k = -q0 → NT K A a W → NT K B b W → Calls Tryz.prog 30 #[a, b, .int .u64 2, .int .i64 k] W fun r w' => ∃ a' b', r = .returned (.tuple #[a', b']) ∧ NT K' A' a' w' ∧ NT K' B' b' w' ∧ Below W.heap.size W w')
  (c69 : ∀ W a b, NT K' A' a W → NT K' B' b W → Calls Tryz.prog 32 #[.int .i64 d, .bool s, a, b] W fun r w' => ∃ v, r = .returned (.tuple #[v, .bool ex]) ∧ NV 41002 C v w' ∧ Below W.heap.size W w')
  (c70 : ∀ W v, NV 41002 C v W → Calls Tryz.prog 33 #[v] W fun r w' => r = .returned (.int .i64 (bl C : Int)) ∧ W = w')
  (c71 : ∀ W v, NV 41002 C v W → Calls Tryz.prog 34 #[v, .int .i64 1] W fun r w' => ∃ v' b, r = .returned (.tuple #[v', .bool b]) ∧ NV 41002 (C / 2) v' w' ∧ Below W.heap.size W w')
include hf hl hm hld hq0 hkn c67 c68 c67b c69 c70 c71
set_option maxHeartbeats 8000000 in
theorem round_w (C' : Nat) (q' : Int) (hup : (f : Int) + 1 < (bl C : Int) → C' = C / 2 ∧ q' = q0 + 1) (hno : ¬ (f : Int) + 1 < (bl C : Int) → C' = C ∧ q' = q0)
    (R : Nat) (fl : Int)
    (ho : m < q' → R = (if inf then RI else RL) ∧ fl = 10) (hn : ¬ m < q' → R = RF ∧ fl = if ex then 0 else if low < l + ((f : Int) + 1) - 1 then 12 else 8)
    (c72 : ∀ W, Calls Tryz.prog 35 #[.int .i64 n, .bool s] W fun r w' => r = .returned (.tuple #[A4 RL, .int .i64 E3]) ∧ Below W.heap.size W w')
    (c73 : ∀ W, Calls Tryz.prog 36 #[.int .i64 d, .bool s] W fun r w' => r = .returned (.bool inf) ∧ W = w')
    (c66i : ∀ W, Calls Tryz.prog 29 #[.int .i64 n, .agg #[.int .i64 2, .bool s, .bool false, .int .i64 0, .int .u64 0, .int .u64 0, .int .u64 0, .int .u64 0]] W fun r w' => r = .returned (.tuple #[A4 RI, .int .i64 E4]) ∧ Below W.heap.size W w')
    (c66f : ¬ m < q' → ∀ W, Calls Tryz.prog 29 #[.int .i64 n, DV 1 s false q' C'] W fun r w' => r = .returned (.tuple #[A4 RF, .int .i64 E5]) ∧ Below W.heap.size W w') :
    Calls Tryz.prog 17 #[.int .i64 n, .int .i64 d, .bool s, .slice (some ⟨gn, 0, none⟩) kn cn, vd, .int .i64 x] w fun r w' => r = .returned (.tuple #[A4 R, .int .i64 fl]) ∧ Below w.heap.size w w' := by
  have hsm := cell_set_map
  have hds : ∀ W : World, W.drew.heap.size = W.heap.size := fun W => by simp
  have hqb : -4000000 ≤ q0 ∧ q0 ≤ 4000000 := by omega
  go_enter Tryz.func17, Tryz.ntmps17
  go_upto_region 10 with (first
    | (go_at_call 28; refine (c47 _).mono ?_; rintro r w1 ⟨rfl, hb1⟩; obtain ⟨hc1, hf1⟩ := bcell hb1; have hz1_0 : w.heap.size < w1.heap.size := lt_below hb1 ltg; have hl1_0 := Nat.le_of_lt hz1_0; have hA1 := bnext (w0 := w) bgo hb1; have hs1 := hA1.size; clear hb1)
    | (go_at_call 30; refine (c67b _ _ _ _ (by omega) (nA2.next hb3') (nB2.next hb3')).mono ?_; rintro r w4 ⟨a4, b4, rfl, nA4, nB4, hb4⟩; obtain ⟨hc4, hf4⟩ := bcell hb4; have hz4_0 : w.heap.size < w4.heap.size := lt_below hb4 ltg; have hl4_0 := Nat.le_of_lt hz4_0; have hz4_1 : w1.heap.size < w4.heap.size := lt_below hb4 ltg; have hl4_1 := Nat.le_of_lt hz4_1; have hA4 := bnext (w0 := w) bgo hb4; have hs4 := hA4.size; clear hb4)
    | (go_at_call 30; refine (c67 _ bgo).mono ?_; rintro r w2 ⟨a2, b2, rfl, nA2, nB2, hb2⟩; obtain ⟨hc2, hf2⟩ := bcell hb2; have hz2_0 : w.heap.size < w2.heap.size := lt_below hb2 ltg; have hl2_0 := Nat.le_of_lt hz2_0; have hz2_1 : w1.heap.size < w2.heap.size := lt_below hb2 ltg; have hl2_1 := Nat.le_of_lt hz2_1; have hA2 := bnext (w0 := w) bgo hb2; have hs2 := hA2.size; clear hb2)
    | (go_at_call 31; refine (c68 _ _ _ nA2 nB2).mono ?_; rintro r w3 ⟨rfl, hb3⟩; have hb3' := hb3; obtain ⟨hc3, hf3⟩ := bcell hb3; have hz3_0 : w.heap.size < w3.heap.size := lt_below hb3 ltg; have hl3_0 := Nat.le_of_lt hz3_0; have hz3_1 : w1.heap.size < w3.heap.size := lt_below hb3 ltg; have hl3_1 := Nat.le_of_lt hz3_1; have hA3 := bnext (w0 := w) bgo hb3; have hs3 := hA3.size; clear hb3)
    | (go_at_call 32; refine (c69 _ _ _ nA4 nB4).mono ?_; rintro r w5 ⟨vc, rfl, hvc, hb5⟩; obtain ⟨hc5, hf5⟩ := bcell hb5; have hz5_0 : w.heap.size < w5.heap.size := lt_below hb5 ltg; have hl5_0 := Nat.le_of_lt hz5_0; have hz5_1 : w1.heap.size < w5.heap.size := lt_below hb5 ltg; have hl5_1 := Nat.le_of_lt hz5_1; have hA5 := bnext (w0 := w) bgo hb5; have hs5 := hA5.size; clear hb5))
  go_cut [84] from 28 (fun t wc => t = .bool (decide ((f : Int) + 1 < (bl C : Int))) ∧ NV 41002 C vc wc ∧ Ib wc w1.heap.size n nm wd f e l m ∧ (∀ i, i < 4 → wc.cell? ⟨w.heap.size, i, none⟩ = some (.int .u64 0)) ∧ (∀ i, wc.frozen? ⟨w.heap.size, i, none⟩ = false) ∧ Below w.heap.size w wc ∧ w1.heap.size < wc.heap.size)
  case first =>
    go_region_with (go_at_call 33; refine (c70 _ _ (hvc.next bgo)).mono ?_; rintro r w6 ⟨rfl, rfl⟩)
    all_goals (
      go_wp2_with fail
      go_meet
      exact ⟨rfl, hvc.next bgo, ⟨by go_simp, by go_simp, by go_simp, by go_simp, by go_simp, by go_simp, by go_simp, by go_simp, by go_simp, by go_simp⟩, zeros4 (by go_simp) (by go_simp) (by go_simp) (by go_simp), fun i => by go_simp, bgo, by first | assumption | (simp; done) | (simp; omega) | omega⟩)
  case rest =>
    obtain ⟨ht, hvc', fI, fz, ffr, hbw, hsz⟩ := hcut
    obtain ⟨y0, y1, y2, y3, y4, y5, y6, y7, y8, y9⟩ := fI
    have hl0 : w.heap.size < wc.heap.size := by omega
    have hle0 := Nat.le_of_lt hl0
    have hle1 := Nat.le_of_lt hsz
    have z0 := fz 0 (by decide)
    have z1 := fz 1 (by decide)
    have z2 := fz 2 (by decide)
    have z3 := fz 3 (by decide)
    go_upto_if 84 with fail
    go_cut [19, 22] from 28 (fun t19 t22 wc => t19 = .int .i64 q' ∧ NV 41002 C' t22 wc ∧ Ib wc w1.heap.size n nm wd f e l m ∧ (∀ i, i < 4 → wc.cell? ⟨w.heap.size, i, none⟩ = some (.int .u64 0)) ∧ (∀ i, wc.frozen? ⟨w.heap.size, i, none⟩ = false) ∧ Below w.heap.size w wc ∧ w1.heap.size < wc.heap.size)
    case first =>
      clear ho hn c72 c73 c66i c66f
      by_cases hu : (f : Int) + 1 < (bl C : Int)
      · obtain ⟨rfl, rfl⟩ := hup (by omega)
        rw [decide_eq_true hu] at ht
        subst ht
        clear hup hno
        go_wp2_with (go_at_call 34; refine (c71 _ _ hvc').mono ?_; rintro r w7 ⟨v7, b7, rfl, h7, hb7⟩; obtain ⟨hc7, hf7⟩ := bcell hb7; have hz7_0 : w.heap.size < w7.heap.size := lt_below hb7 ltg; have hl7_0 := Nat.le_of_lt hz7_0; have hz7_1 : w1.heap.size < w7.heap.size := lt_below hb7 ltg; have hl7_1 := Nat.le_of_lt hz7_1; have hA7 := bnext (w0 := w) bgo hb7; have hs7 := hA7.size; clear hb7)
        go_meet
        exact ⟨by first | rfl | (congr 1; omega), h7, ⟨by go_simp, by go_simp, by go_simp, by go_simp, by go_simp, by go_simp, by go_simp, by go_simp, by go_simp, by go_simp⟩, zeros4 (by go_simp) (by go_simp) (by go_simp) (by go_simp), fun i => by go_simp, bgo, by first | assumption | (simp; done) | (simp; omega) | omega⟩
      · obtain ⟨rfl, rfl⟩ := hno (by omega)
        rw [decide_eq_false hu] at ht
        subst ht
        clear hup hno
        go_wp2
        go_meet
        exact ⟨by first | rfl | (congr 1; omega), hvc', ⟨by go_simp, by go_simp, by go_simp, by go_simp, by go_simp, by go_simp, by go_simp, by go_simp, by go_simp, by go_simp⟩, zeros4 (by go_simp) (by go_simp) (by go_simp) (by go_simp), fun i => by go_simp, bgo, by first | assumption | (simp; done) | (simp; omega) | omega⟩
    case rest =>
      clear fz ffr hbw hsz y0 y1 y2 y3 y4 y5 y6 y7 y8 y9 hl0 hle0 hle1 z0 z1 z2 z3 ht hvc' hup hno
      obtain ⟨rfl, hv', fI, fz, ffr, hbw, hsz⟩ := hcut
      obtain ⟨y0, y1, y2, y3, y4, y5, y6, y7, y8, y9⟩ := fI
      have hl0 : w.heap.size < wc.heap.size := by omega
      have hle0 := Nat.le_of_lt hl0
      have hle1 := Nat.le_of_lt hsz
      have z0 := fz 0 (by decide)
      have z1 := fz 1 (by decide)
      have z2 := fz 2 (by decide)
      have z3 := fz 3 (by decide)
      by_cases hov : m < q'
      · obtain ⟨hR, rfl⟩ := ho (by omega)
        clear ho hn c66f
        cases inf with
        | true =>
          have hR' : R = RI := hR
          subst hR'
          clear hR
          go_wp2_with (first
            | (go_at_call 35; refine (c72 _).mono ?_; rintro r w8 ⟨rfl, hb8⟩; obtain ⟨hc8, hf8⟩ := bcell hb8; have hz8_0 : w.heap.size < w8.heap.size := lt_below hb8 ltg; have hl8_0 := Nat.le_of_lt hz8_0; have hz8_1 : w1.heap.size < w8.heap.size := lt_below hb8 ltg; have hl8_1 := Nat.le_of_lt hz8_1; have hA8 := bnext (w0 := w) bgo hb8; have hs8 := hA8.size; clear hb8)
            | (go_at_call 36; refine (c73 _).mono ?_; rintro r w9 ⟨rfl, rfl⟩)
            | (go_at_call 29; refine (c66i _).mono ?_; rintro r w10 ⟨rfl, hb10⟩; obtain ⟨hc10, hf10⟩ := bcell hb10; have hz10_0 : w.heap.size < w10.heap.size := lt_below hb10 ltg; have hl10_0 := Nat.le_of_lt hz10_0; have hz10_1 : w1.heap.size < w10.heap.size := lt_below hb10 ltg; have hl10_1 := Nat.le_of_lt hz10_1; have hz10_2 : w8.heap.size < w10.heap.size := lt_below hb10 ltg; have hl10_2 := Nat.le_of_lt hz10_2; have hA10 := bnext (w0 := w) bgo hb10; have hs10 := hA10.size; clear hb10))
          exact bodyPost_ret (v := .tuple #[A4 R, .int .i64 10]) (by simp only [results, Tryz.results17]; go_simp) rfl ⟨rfl, bgo⟩
        | false =>
          have hR' : R = RL := hR
          subst hR'
          clear hR
          go_wp2_with (first
            | (go_at_call 35; refine (c72 _).mono ?_; rintro r w8 ⟨rfl, hb8⟩; obtain ⟨hc8, hf8⟩ := bcell hb8; have hz8_0 : w.heap.size < w8.heap.size := lt_below hb8 ltg; have hl8_0 := Nat.le_of_lt hz8_0; have hz8_1 : w1.heap.size < w8.heap.size := lt_below hb8 ltg; have hl8_1 := Nat.le_of_lt hz8_1; have hA8 := bnext (w0 := w) bgo hb8; have hs8 := hA8.size; clear hb8)
            | (go_at_call 36; refine (c73 _).mono ?_; rintro r w9 ⟨rfl, rfl⟩))
          exact bodyPost_ret (v := .tuple #[A4 R, .int .i64 10]) (by simp only [results, Tryz.results17]; go_simp) rfl ⟨rfl, bgo⟩
      · obtain ⟨rfl, hfl⟩ := hn (by omega)
        have c66 := c66f (by omega)
        clear ho hn c66f c66i
        cases ex with
        | true =>
          have hfl' : fl = 0 := hfl
          subst hfl'
          clear hfl
          go_wp2_with (first
            | (go_at_call 37; refine (bits_nv hv').mono ?_; rintro r w8 ⟨rfl, hb8⟩; obtain ⟨hc8, hf8⟩ := bcell hb8; have hz8_0 : w.heap.size < w8.heap.size := lt_below hb8 ltg; have hl8_0 := Nat.le_of_lt hz8_0; have hz8_1 : w1.heap.size < w8.heap.size := lt_below hb8 ltg; have hl8_1 := Nat.le_of_lt hz8_1; have hA8 := bnext (w0 := w) bgo hb8; have hs8 := hA8.size; clear hb8)
            | (go_at_call 29; refine (c66 _).mono ?_; rintro r w9 ⟨rfl, hb9⟩; obtain ⟨hc9, hf9⟩ := bcell hb9; have hz9_0 : w.heap.size < w9.heap.size := lt_below hb9 ltg; have hl9_0 := Nat.le_of_lt hz9_0; have hz9_1 : w1.heap.size < w9.heap.size := lt_below hb9 ltg; have hl9_1 := Nat.le_of_lt hz9_1; have hA9 := bnext (w0 := w) bgo hb9; have hs9 := hA9.size; clear hb9))
          exact bodyPost_ret (v := .tuple #[A4 R, .int .i64 0]) (by simp only [results, Tryz.results17]; go_simp) rfl ⟨rfl, bgo⟩
        | false =>
          by_cases hsm' : low < l + ((f : Int) + 1) - 1
          · have hfl' : fl = 12 := by rw [hfl, if_neg (by decide), if_pos hsm']
            subst hfl'
            clear hfl
            go_wp2_with (first
              | (go_at_call 37; refine (bits_nv hv').mono ?_; rintro r w8 ⟨rfl, hb8⟩; obtain ⟨hc8, hf8⟩ := bcell hb8; have hz8_0 : w.heap.size < w8.heap.size := lt_below hb8 ltg; have hl8_0 := Nat.le_of_lt hz8_0; have hz8_1 : w1.heap.size < w8.heap.size := lt_below hb8 ltg; have hl8_1 := Nat.le_of_lt hz8_1; have hA8 := bnext (w0 := w) bgo hb8; have hs8 := hA8.size; clear hb8)
              | (go_at_call 29; refine (c66 _).mono ?_; rintro r w9 ⟨rfl, hb9⟩; obtain ⟨hc9, hf9⟩ := bcell hb9; have hz9_0 : w.heap.size < w9.heap.size := lt_below hb9 ltg; have hl9_0 := Nat.le_of_lt hz9_0; have hz9_1 : w1.heap.size < w9.heap.size := lt_below hb9 ltg; have hl9_1 := Nat.le_of_lt hz9_1; have hA9 := bnext (w0 := w) bgo hb9; have hs9 := hA9.size; clear hb9))
            exact bodyPost_ret (v := .tuple #[A4 R, .int .i64 12]) (by simp only [results, Tryz.results17]; go_simp) rfl ⟨rfl, bgo⟩
          · have hfl' : fl = 8 := by rw [hfl, if_neg (by decide), if_neg hsm']
            subst hfl'
            clear hfl
            go_wp2_with (first
              | (go_at_call 37; refine (bits_nv hv').mono ?_; rintro r w8 ⟨rfl, hb8⟩; obtain ⟨hc8, hf8⟩ := bcell hb8; have hz8_0 : w.heap.size < w8.heap.size := lt_below hb8 ltg; have hl8_0 := Nat.le_of_lt hz8_0; have hz8_1 : w1.heap.size < w8.heap.size := lt_below hb8 ltg; have hl8_1 := Nat.le_of_lt hz8_1; have hA8 := bnext (w0 := w) bgo hb8; have hs8 := hA8.size; clear hb8)
              | (go_at_call 29; refine (c66 _).mono ?_; rintro r w9 ⟨rfl, hb9⟩; obtain ⟨hc9, hf9⟩ := bcell hb9; have hz9_0 : w.heap.size < w9.heap.size := lt_below hb9 ltg; have hl9_0 := Nat.le_of_lt hz9_0; have hz9_1 : w1.heap.size < w9.heap.size := lt_below hb9 ltg; have hl9_1 := Nat.le_of_lt hz9_1; have hA9 := bnext (w0 := w) bgo hb9; have hs9 := hA9.size; clear hb9))
            exact bodyPost_ret (v := .tuple #[A4 R, .int .i64 8]) (by simp only [results, Tryz.results17]; go_simp) rfl ⟨rfl, bgo⟩
end
end
end Go.Proofs.YtpemdcnneabbfaaGreatDoor
