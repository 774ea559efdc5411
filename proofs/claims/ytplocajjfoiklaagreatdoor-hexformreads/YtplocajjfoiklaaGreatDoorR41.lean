/-
  Texts that the proof leans on, joined: Wc, Ri, Rv.
-/
import Derived.Test.YtplocajjfoiklaaGreatDoorR36
import Derived.Test.YtplocajjfoiklaaGreatDoorR39
import Derived.Test.YtplocajjfoiklaaGreatDoorR30
import Derived.Test.YtplocajjfoiklaaGreatDoorR1
set_option maxHeartbeats 8000000
set_option linter.unusedVariables false
set_option linter.unusedSectionVars false
set_option linter.unusedSimpArgs false
set_option maxRecDepth 20000
namespace Go.Proofs.YtplocajjfoiklaaGreatDoor
open Go.RowKit
section
theorem val_odd {z : Nat → Int} {k V : Nat} (hk : 0 < k) (hv : val z k = (V : Int)) : (V : Int) % 2 = z 0 % 2 := by
 have key : ∀ j, val z (j + 1) % 2 = z 0 % 2 := by
  intro j
  induction j with
  | zero => simp [val]
  | succ j ih =>
   have : val z (j + 1 + 1) = val z (j + 1) + z (j + 1) * 18446744073709551616 ^ (j + 1) := rfl
   rw [this, Int.pow_succ, show z (j + 1) * (18446744073709551616 ^ j * 18446744073709551616) = 2 * (z (j + 1) * 18446744073709551616 ^ j * 9223372036854775808) by grind, Int.add_mul_emod_self_left]
   exact ih
 obtain ⟨j, rfl⟩ : ∃ j, k = j + 1 := ⟨k - 1, by omega⟩
 rw [← hv]; exact key j
theorem q2_nv {K V : Nat} {v : Value} {w : World} (hK : K < 1000000) (h : NV K V v w) :
  Calls Tryz.prog 157 #[v] w fun e w' => e = .returned (.bool (decide (V % 2 = 1))) ∧ w = w' := by
 obtain ⟨g, k, cap, z, rfl, hk, hN, hv⟩ := h
 by_cases hk0 : k = 0
 ·subst hk0
  obtain rfl : V = 0 := by have : val z 0 = 0 := rfl; omega
  go_enter Tryz.func157, Tryz.ntmps157
  go_wp2
  go_ret
  exact ⟨by simp, rfl⟩
 ·have ho := val_odd (by omega) hv
  have hc : g < w.heap.size ∧ w.cell? ⟨g, 0, none⟩ = some (.int .u64 (z 0)) := by
   rcases hN.2.2.2.2 with ⟨h, _⟩ | ⟨b', off', h, hbs, hc⟩
   ·cases h
   ·cases h; exact ⟨hbs, hc 0 (by omega)⟩
  obtain ⟨hgb, hcc⟩ := hc
  have hz := hN.2.2.1 0
  have hki : (0 : Int) < k := by omega
  have hcap := hN.1
  have HO : Hid (decide (V % 2 = 1) = (z 0 % 2 == 1)) := by
   show _ = _
   by_cases h : z 0 % 2 = 1
   ·rw [h]; simp; omega
   ·rw [decide_eq_false (by omega)]; simp [h]
  clear hN ho hv
  go_enter Tryz.func157, Tryz.ntmps157
  go_wp2
  go_ret
  exact ⟨by rw [HO.out]; simp, rfl⟩
attribute [local irreducible] NV NT
section
variable (d hv : Int) (s odd : Bool) (va vb : Value) (Q : Nat) (w : World)
 (c99 : Calls Tryz.prog 156 #[va, vb] w fun e w1 => ∃ q g k cap, e = .returned (.tuple #[q, .slice (some ⟨g, 0, none⟩) k cap]) ∧ k ≠ 0 ∧ NV 41000 Q q w1 ∧ Below w.heap.size w w1 ∧ Calls Tryz.prog 28 #[.slice (some ⟨g, 0, none⟩) k cap, .int .i64 1] w1 fun e w2 => ∃ r2, e = .returned r2 ∧ Below w1.heap.size w1 w2 ∧ Calls Tryz.prog 154 #[r2, vb] w2 fun e w3 => e = .returned (.int .i64 hv) ∧ w2 = w3)
 (c100 : ∀ W q, NV 41000 Q q W → Calls Tryz.prog 157 #[q] W fun e w' => e = .returned (.bool odd) ∧ W = w')
 (c24 : ∀ W q v, NV 41000 Q q W → NV 1 1 v W → Calls Tryz.prog 44 #[q, v] W fun e w' => ∃ r, e = .returned r ∧ NV 41002 (Q + 1) r w' ∧ Below W.heap.size W w')
include c99 c100 c24
theorem wh_0g (h : 0 < hv) : Calls Tryz.prog 105 #[.int .i64 0, .bool s, va, vb] w fun e w' => ∃ q, e = .returned (.tuple #[q, .bool false]) ∧ NV 41002 (Q + 1) q w' ∧ Below w.heap.size w w' := by
 go_enter Tryz.func105, Tryz.ntmps105
 go_wp2_with (first
  | (go_at_call 156; refine c99.mono ?_; rintro e w1 ⟨q, g, k, cap, rfl, hk, hq, hb1, c84⟩; have hki : ((k : Int) == 0) = false := by simp; omega)
  | (go_at_call 28; refine c84.mono ?_; rintro e w2 ⟨r2, rfl, hb2, c21⟩; have hq2 := hq.next hb2; have hB2 := hb1.trans (hb2.mono hb1.size))
  | (go_at_call 154; refine c21.mono ?_; rintro e w3 ⟨rfl, rfl⟩)
  | (go_at_call 157; refine (c100 _ _ hq2).mono ?_; rintro e w4 ⟨rfl, rfl⟩)
  | (go_at_call 44; refine (c24 _ _ _ (hq2.next (below1 _ _)) (nv_uno rfl rfl (by decide))).mono ?_; rintro e w5 ⟨r5, rfl, hr5, hb5⟩))
 have hB3 := hB2.trans ((below1 w2 (.cells #[.int .u64 1] 22)).mono hB2.size)
 exact bodyPost_ret (v := .tuple #[r5, .bool false]) (by simp only [results, Tryz.results105]; go_simp) rfl ⟨_, rfl, hr5, hB3.trans (hb5.mono hB3.size)⟩
theorem wh_0eo (h : hv = 0) (h1 : odd = true) : Calls Tryz.prog 105 #[.int .i64 0, .bool s, va, vb] w fun e w' => ∃ q, e = .returned (.tuple #[q, .bool false]) ∧ NV 41002 (Q + 1) q w' ∧ Below w.heap.size w w' := by
 subst h h1
 go_enter Tryz.func105, Tryz.ntmps105
 go_wp2_with (first
  | (go_at_call 156; refine c99.mono ?_; rintro e w1 ⟨q, g, k, cap, rfl, hk, hq, hb1, c84⟩; have hki : ((k : Int) == 0) = false := by simp; omega)
  | (go_at_call 28; refine c84.mono ?_; rintro e w2 ⟨r2, rfl, hb2, c21⟩; have hq2 := hq.next hb2; have hB2 := hb1.trans (hb2.mono hb1.size))
  | (go_at_call 154; refine c21.mono ?_; rintro e w3 ⟨rfl, rfl⟩)
  | (go_at_call 157; refine (c100 _ _ hq2).mono ?_; rintro e w4 ⟨rfl, rfl⟩)
  | (go_at_call 44; refine (c24 _ _ _ (hq2.next (below1 _ _)) (nv_uno rfl rfl (by decide))).mono ?_; rintro e w5 ⟨r5, rfl, hr5, hb5⟩))
 have hB3 := hB2.trans ((below1 w2 (.cells #[.int .u64 1] 22)).mono hB2.size)
 exact bodyPost_ret (v := .tuple #[r5, .bool false]) (by simp only [results, Tryz.results105]; go_simp) rfl ⟨_, rfl, hr5, hB3.trans (hb5.mono hB3.size)⟩
theorem wh_0en (h : hv = 0) (h1 : odd = false) : Calls Tryz.prog 105 #[.int .i64 0, .bool s, va, vb] w fun e w' => ∃ q, e = .returned (.tuple #[q, .bool false]) ∧ NV 41002 (Q) q w' ∧ Below w.heap.size w w' := by
 subst h h1
 go_enter Tryz.func105, Tryz.ntmps105
 go_wp2_with (first
  | (go_at_call 156; refine c99.mono ?_; rintro e w1 ⟨q, g, k, cap, rfl, hk, hq, hb1, c84⟩; have hki : ((k : Int) == 0) = false := by simp; omega)
  | (go_at_call 28; refine c84.mono ?_; rintro e w2 ⟨r2, rfl, hb2, c21⟩; have hq2 := hq.next hb2; have hB2 := hb1.trans (hb2.mono hb1.size))
  | (go_at_call 154; refine c21.mono ?_; rintro e w3 ⟨rfl, rfl⟩)
  | (go_at_call 157; refine (c100 _ _ hq2).mono ?_; rintro e w4 ⟨rfl, rfl⟩)
  | (go_at_call 44; refine (c24 _ _ _ (hq2.next (below1 _ _)) (nv_uno rfl rfl (by decide))).mono ?_; rintro e w5 ⟨r5, rfl, hr5, hb5⟩))
 exact bodyPost_ret (v := .tuple #[q, .bool false]) (by simp only [results, Tryz.results105]; go_simp) rfl ⟨_, rfl, hq2.more (by decide), hB2⟩
theorem wh_0l (h : ¬ 0 < hv) (h1 : (hv == 0) = false) : Calls Tryz.prog 105 #[.int .i64 0, .bool s, va, vb] w fun e w' => ∃ q, e = .returned (.tuple #[q, .bool false]) ∧ NV 41002 (Q) q w' ∧ Below w.heap.size w w' := by
 go_enter Tryz.func105, Tryz.ntmps105
 go_wp2_with (first
  | (go_at_call 156; refine c99.mono ?_; rintro e w1 ⟨q, g, k, cap, rfl, hk, hq, hb1, c84⟩; have hki : ((k : Int) == 0) = false := by simp; omega)
  | (go_at_call 28; refine c84.mono ?_; rintro e w2 ⟨r2, rfl, hb2, c21⟩; have hq2 := hq.next hb2; have hB2 := hb1.trans (hb2.mono hb1.size))
  | (go_at_call 154; refine c21.mono ?_; rintro e w3 ⟨rfl, rfl⟩)
  | (go_at_call 157; refine (c100 _ _ hq2).mono ?_; rintro e w4 ⟨rfl, rfl⟩)
  | (go_at_call 44; refine (c24 _ _ _ (hq2.next (below1 _ _)) (nv_uno rfl rfl (by decide))).mono ?_; rintro e w5 ⟨r5, rfl, hr5, hb5⟩))
 exact bodyPost_ret (v := .tuple #[q, .bool false]) (by simp only [results, Tryz.results105]; go_simp) rfl ⟨_, rfl, hq2.more (by decide), hB2⟩
theorem wh_1g (h : 0 ≤ hv) : Calls Tryz.prog 105 #[.int .i64 1, .bool s, va, vb] w fun e w' => ∃ q, e = .returned (.tuple #[q, .bool false]) ∧ NV 41002 (Q + 1) q w' ∧ Below w.heap.size w w' := by
 go_enter Tryz.func105, Tryz.ntmps105
 go_wp2_with (first
  | (go_at_call 156; refine c99.mono ?_; rintro e w1 ⟨q, g, k, cap, rfl, hk, hq, hb1, c84⟩; have hki : ((k : Int) == 0) = false := by simp; omega)
  | (go_at_call 28; refine c84.mono ?_; rintro e w2 ⟨r2, rfl, hb2, c21⟩; have hq2 := hq.next hb2; have hB2 := hb1.trans (hb2.mono hb1.size))
  | (go_at_call 154; refine c21.mono ?_; rintro e w3 ⟨rfl, rfl⟩)
  | (go_at_call 157; refine (c100 _ _ hq2).mono ?_; rintro e w4 ⟨rfl, rfl⟩)
  | (go_at_call 44; refine (c24 _ _ _ (hq2.next (below1 _ _)) (nv_uno rfl rfl (by decide))).mono ?_; rintro e w5 ⟨r5, rfl, hr5, hb5⟩))
 have hB3 := hB2.trans ((below1 w2 (.cells #[.int .u64 1] 22)).mono hB2.size)
 exact bodyPost_ret (v := .tuple #[r5, .bool false]) (by simp only [results, Tryz.results105]; go_simp) rfl ⟨_, rfl, hr5, hB3.trans (hb5.mono hB3.size)⟩
theorem wh_1l (h : ¬ 0 ≤ hv) : Calls Tryz.prog 105 #[.int .i64 1, .bool s, va, vb] w fun e w' => ∃ q, e = .returned (.tuple #[q, .bool false]) ∧ NV 41002 (Q) q w' ∧ Below w.heap.size w w' := by
 go_enter Tryz.func105, Tryz.ntmps105
 go_wp2_with (first
  | (go_at_call 156; refine c99.mono ?_; rintro e w1 ⟨q, g, k, cap, rfl, hk, hq, hb1, c84⟩; have hki : ((k : Int) == 0) = false := by simp; omega)
  | (go_at_call 28; refine c84.mono ?_; rintro e w2 ⟨r2, rfl, hb2, c21⟩; have hq2 := hq.next hb2; have hB2 := hb1.trans (hb2.mono hb1.size))
  | (go_at_call 154; refine c21.mono ?_; rintro e w3 ⟨rfl, rfl⟩)
  | (go_at_call 157; refine (c100 _ _ hq2).mono ?_; rintro e w4 ⟨rfl, rfl⟩)
  | (go_at_call 44; refine (c24 _ _ _ (hq2.next (below1 _ _)) (nv_uno rfl rfl (by decide))).mono ?_; rintro e w5 ⟨r5, rfl, hr5, hb5⟩))
 exact bodyPost_ret (v := .tuple #[q, .bool false]) (by simp only [results, Tryz.results105]; go_simp) rfl ⟨_, rfl, hq2.more (by decide), hB2⟩
theorem wh_2  : Calls Tryz.prog 105 #[.int .i64 2, .bool s, va, vb] w fun e w' => ∃ q, e = .returned (.tuple #[q, .bool false]) ∧ NV 41002 (Q) q w' ∧ Below w.heap.size w w' := by
 go_enter Tryz.func105, Tryz.ntmps105
 go_wp2_with (first
  | (go_at_call 156; refine c99.mono ?_; rintro e w1 ⟨q, g, k, cap, rfl, hk, hq, hb1, c84⟩; have hki : ((k : Int) == 0) = false := by simp; omega)
  | (go_at_call 28; refine c84.mono ?_; rintro e w2 ⟨r2, rfl, hb2, c21⟩; have hq2 := hq.next hb2; have hB2 := hb1.trans (hb2.mono hb1.size))
  | (go_at_call 154; refine c21.mono ?_; rintro e w3 ⟨rfl, rfl⟩)
  | (go_at_call 157; refine (c100 _ _ hq2).mono ?_; rintro e w4 ⟨rfl, rfl⟩)
  | (go_at_call 44; refine (c24 _ _ _ (hq2.next (below1 _ _)) (nv_uno rfl rfl (by decide))).mono ?_; rintro e w5 ⟨r5, rfl, hr5, hb5⟩))
 exact bodyPost_ret (v := .tuple #[q, .bool false]) (by simp only [results, Tryz.results105]; go_simp) rfl ⟨_, rfl, hq2.more (by decide), hB2⟩
theorem wh_3f  : Calls Tryz.prog 105 #[.int .i64 3, .bool false, va, vb] w fun e w' => ∃ q, e = .returned (.tuple #[q, .bool false]) ∧ NV 41002 (Q + 1) q w' ∧ Below w.heap.size w w' := by
 go_enter Tryz.func105, Tryz.ntmps105
 go_wp2_with (first
  | (go_at_call 156; refine c99.mono ?_; rintro e w1 ⟨q, g, k, cap, rfl, hk, hq, hb1, c84⟩; have hki : ((k : Int) == 0) = false := by simp; omega)
  | (go_at_call 28; refine c84.mono ?_; rintro e w2 ⟨r2, rfl, hb2, c21⟩; have hq2 := hq.next hb2; have hB2 := hb1.trans (hb2.mono hb1.size))
  | (go_at_call 154; refine c21.mono ?_; rintro e w3 ⟨rfl, rfl⟩)
  | (go_at_call 157; refine (c100 _ _ hq2).mono ?_; rintro e w4 ⟨rfl, rfl⟩)
  | (go_at_call 44; refine (c24 _ _ _ (hq2.next (below1 _ _)) (nv_uno rfl rfl (by decide))).mono ?_; rintro e w5 ⟨r5, rfl, hr5, hb5⟩))
 have hB3 := hB2.trans ((below1 w2 (.cells #[.int .u64 1] 22)).mono hB2.size)
 exact bodyPost_ret (v := .tuple #[r5, .bool false]) (by simp only [results, Tryz.results105]; go_simp) rfl ⟨_, rfl, hr5, hB3.trans (hb5.mono hB3.size)⟩
theorem wh_3t  : Calls Tryz.prog 105 #[.int .i64 3, .bool true, va, vb] w fun e w' => ∃ q, e = .returned (.tuple #[q, .bool false]) ∧ NV 41002 (Q) q w' ∧ Below w.heap.size w w' := by
 go_enter Tryz.func105, Tryz.ntmps105
 go_wp2_with (first
  | (go_at_call 156; refine c99.mono ?_; rintro e w1 ⟨q, g, k, cap, rfl, hk, hq, hb1, c84⟩; have hki : ((k : Int) == 0) = false := by simp; omega)
  | (go_at_call 28; refine c84.mono ?_; rintro e w2 ⟨r2, rfl, hb2, c21⟩; have hq2 := hq.next hb2; have hB2 := hb1.trans (hb2.mono hb1.size))
  | (go_at_call 154; refine c21.mono ?_; rintro e w3 ⟨rfl, rfl⟩)
  | (go_at_call 157; refine (c100 _ _ hq2).mono ?_; rintro e w4 ⟨rfl, rfl⟩)
  | (go_at_call 44; refine (c24 _ _ _ (hq2.next (below1 _ _)) (nv_uno rfl rfl (by decide))).mono ?_; rintro e w5 ⟨r5, rfl, hr5, hb5⟩))
 exact bodyPost_ret (v := .tuple #[q, .bool false]) (by simp only [results, Tryz.results105]; go_simp) rfl ⟨_, rfl, hq2.more (by decide), hB2⟩
theorem wh_4t  : Calls Tryz.prog 105 #[.int .i64 4, .bool true, va, vb] w fun e w' => ∃ q, e = .returned (.tuple #[q, .bool false]) ∧ NV 41002 (Q + 1) q w' ∧ Below w.heap.size w w' := by
 go_enter Tryz.func105, Tryz.ntmps105
 go_wp2_with (first
  | (go_at_call 156; refine c99.mono ?_; rintro e w1 ⟨q, g, k, cap, rfl, hk, hq, hb1, c84⟩; have hki : ((k : Int) == 0) = false := by simp; omega)
  | (go_at_call 28; refine c84.mono ?_; rintro e w2 ⟨r2, rfl, hb2, c21⟩; have hq2 := hq.next hb2; have hB2 := hb1.trans (hb2.mono hb1.size))
  | (go_at_call 154; refine c21.mono ?_; rintro e w3 ⟨rfl, rfl⟩)
  | (go_at_call 157; refine (c100 _ _ hq2).mono ?_; rintro e w4 ⟨rfl, rfl⟩)
  | (go_at_call 44; refine (c24 _ _ _ (hq2.next (below1 _ _)) (nv_uno rfl rfl (by decide))).mono ?_; rintro e w5 ⟨r5, rfl, hr5, hb5⟩))
 have hB3 := hB2.trans ((below1 w2 (.cells #[.int .u64 1] 22)).mono hB2.size)
 exact bodyPost_ret (v := .tuple #[r5, .bool false]) (by simp only [results, Tryz.results105]; go_simp) rfl ⟨_, rfl, hr5, hB3.trans (hb5.mono hB3.size)⟩
theorem wh_4f  : Calls Tryz.prog 105 #[.int .i64 4, .bool false, va, vb] w fun e w' => ∃ q, e = .returned (.tuple #[q, .bool false]) ∧ NV 41002 (Q) q w' ∧ Below w.heap.size w w' := by
 go_enter Tryz.func105, Tryz.ntmps105
 go_wp2_with (first
  | (go_at_call 156; refine c99.mono ?_; rintro e w1 ⟨q, g, k, cap, rfl, hk, hq, hb1, c84⟩; have hki : ((k : Int) == 0) = false := by simp; omega)
  | (go_at_call 28; refine c84.mono ?_; rintro e w2 ⟨r2, rfl, hb2, c21⟩; have hq2 := hq.next hb2; have hB2 := hb1.trans (hb2.mono hb1.size))
  | (go_at_call 154; refine c21.mono ?_; rintro e w3 ⟨rfl, rfl⟩)
  | (go_at_call 157; refine (c100 _ _ hq2).mono ?_; rintro e w4 ⟨rfl, rfl⟩)
  | (go_at_call 44; refine (c24 _ _ _ (hq2.next (below1 _ _)) (nv_uno rfl rfl (by decide))).mono ?_; rintro e w5 ⟨r5, rfl, hr5, hb5⟩))
 exact bodyPost_ret (v := .tuple #[q, .bool false]) (by simp only [results, Tryz.results105]; go_simp) rfl ⟨_, rfl, hq2.more (by decide), hB2⟩
end
theorem wh_z (d : Int) (s : Bool) (va vb : Value) (Q : Nat) (w : World)
  (c99 : Calls Tryz.prog 156 #[va, vb] w fun e w1 => ∃ q g cap, e = .returned (.tuple #[q, .slice (some ⟨g, 0, none⟩) 0 cap]) ∧ NV 41000 Q q w1 ∧ Below w.heap.size w w1) :
  Calls Tryz.prog 105 #[.int .i64 d, .bool s, va, vb] w fun e w' => ∃ q, e = .returned (.tuple #[q, .bool true]) ∧ NV 41002 Q q w' ∧ Below w.heap.size w w' := by
 go_enter Tryz.func105, Tryz.ntmps105
 go_wp2_with (go_at_call 156; refine c99.mono ?_; rintro e w1 ⟨q, g, cap, rfl, hq, hb1⟩)
 exact bodyPost_ret (v := .tuple #[q, .bool true]) (by simp only [results, Tryz.results105]; go_simp) rfl ⟨_, rfl, hq.more (by decide), hb1⟩
theorem whole_nt {K A B : Nat} {va vb : Value} {w : World} (d : Int) (s : Bool) (hkn : knB d) (hK : K ≤ 20000) (h : NT K A va w) (h' : NT K B vb w) (hB : B ≠ 0) :
  Calls Tryz.prog 105 #[.int .i64 d, .bool s, va, vb] w fun e w' => ∃ q, e = .returned (.tuple #[q, .bool (decide (A % B = 0))]) ∧ NV 41002 (whC d s A B) q w' ∧ Below w.heap.size w w' := by
 have c99 := rover_nt hK h h' hB
 unfold whC
 by_cases hR : A % B = 0
 ·rw [decide_eq_true hR, hR, show faB d s (decide (A / B % 2 = 1)) 0 B = false from if_pos rfl]
  rw [hR] at c99
  refine wh_z d s va vb _ w (c99.mono fun e w1 ⟨q, r, e1, e2, e3, e4⟩ => ?_)
  obtain ⟨g, k, cap, rfl, _, hz⟩ := e3.zero
  obtain rfl := hz.2 rfl
  exact ⟨q, g, cap, e1, e2, e4⟩
 ·rw [decide_eq_false hR]
  have c99' : Calls Tryz.prog 156 #[va, vb] w fun e w1 => ∃ q g k cap, e = .returned (.tuple #[q, .slice (some ⟨g, 0, none⟩) k cap]) ∧ k ≠ 0 ∧ NV 41000 (A / B) q w1 ∧ Below w.heap.size w w1 ∧ Calls Tryz.prog 28 #[.slice (some ⟨g, 0, none⟩) k cap, .int .i64 1] w1 fun e w2 => ∃ r2, e = .returned r2 ∧ Below w1.heap.size w1 w2 ∧ Calls Tryz.prog 154 #[r2, vb] w2 fun e w3 => e = .returned (.int .i64 (sgn ((A % B + A % B : Nat) : Int) (B : Int))) ∧ w2 = w3 := by
   refine c99.mono fun e w1 ⟨q, r, e1, e2, e3, e4⟩ => ?_
   have c84 := rleft_nt 1 (by decide) (by decide) e3.nv
   obtain ⟨g, k, cap, rfl, _, hz⟩ := e3.zero
   refine ⟨q, g, k, cap, e1, fun hk => hR (hz.1 hk), e2, e4, c84.mono fun e w2 ⟨r2, f1, f2, f3⟩ => ⟨r2, f1, f3, ?_⟩⟩
   have := rcmp_nv (by decide) (by omega) f2.nv ((h'.next e4).next f3).nv
   rw [Nat.pow_one, Nat.mul_two] at this
   exact this
  have c100 := fun W q (hq : NV 41000 (A / B) q W) => q2_nv (by decide) hq
  have c24 := fun W q v (hq : NV 41000 (A / B) q W) (h1 : NV 1 1 v W) => radd_nv (by decide) (by decide) hq h1
  have hd : d = 0 ∨ d = 1 ∨ d = 2 ∨ d = 3 ∨ d = 4 := by unfold knB at hkn; omega
  have sw := sgn_ways ((A % B + A % B : Nat) : Int) (B : Int)
  unfold faB
  rw [if_neg hR]
  rcases hd with rfl | rfl | rfl | rfl | rfl
  ·rw [if_pos rfl]
   rcases sw with ⟨a, e⟩ | ⟨a, e⟩ | ⟨a, e⟩
   ·rw [decide_eq_false (show ¬ B < A % B + A % B by omega), decide_eq_false (show ¬ A % B + A % B = B by omega)]
    exact wh_0l _ s _ va vb _ w c99' c100 c24 (by omega) (by rw [e]; rfl)
   ·rw [decide_eq_false (show ¬ B < A % B + A % B by omega), decide_eq_true (show A % B + A % B = B by omega)]
    cases ho : decide (A / B % 2 = 1)
    ·exact wh_0en _ s _ va vb _ w c99' c100 c24 e ho
    ·exact wh_0eo _ s _ va vb _ w c99' c100 c24 e ho
   ·rw [decide_eq_true (show B < A % B + A % B by omega)]
    exact wh_0g _ s _ va vb _ w c99' c100 c24 (by omega)
  ·rw [if_neg (show ¬ (1 : Int) = 0 by decide), if_pos (show (1 : Int) = 1 from rfl)]
   rcases sw with ⟨a, e⟩ | ⟨a, e⟩ | ⟨a, e⟩
   ·rw [decide_eq_false (show ¬ B ≤ A % B + A % B by omega)]
    exact wh_1l _ s _ va vb _ w c99' c100 c24 (by omega)
   ·rw [decide_eq_true (show B ≤ A % B + A % B by omega)]
    exact wh_1g _ s _ va vb _ w c99' c100 c24 (by omega)
   ·rw [decide_eq_true (show B ≤ A % B + A % B by omega)]
    exact wh_1g _ s _ va vb _ w c99' c100 c24 (by omega)
  ·exact wh_2 _ s _ va vb _ w c99' c100 c24
  ·cases s
   ·exact wh_3f _ _ va vb _ w c99' c100 c24
   ·exact wh_3t _ _ va vb _ w c99' c100 c24
  ·cases s
   ·exact wh_4f _ _ va vb _ w c99' c100 c24
   ·exact wh_4t _ _ va vb _ w c99' c100 c24
end
section
attribute [local irreducible] W4
abbrev IV (n : Int) (nm : ByteArray) (wd : Int) (f e : Nat) (l m : Int) : Value := .agg #[.int .i64 n, .string nm, .int .i64 2, .int .i64 wd, .int .i64 ((f : Int) + 1), .int .i64 e, .int .i64 l, .int .i64 m, .int .i64 ((f : Int) - 1), .bool false]
theorem dat_num {w0 w : World} {c : Int} {s g : Bool} {x : Int} {k : Nat} (hb : Below (w0.alloc (.cells #[.int .i64 c, .bool s, .bool g, .int .i64 x, .int .u64 (W4 k 0), .int .u64 (W4 k 1), .int .u64 (W4 k 2), .int .u64 (W4 k 3)] 43)).heap.size (w0.alloc (.cells #[.int .i64 c, .bool s, .bool g, .int .i64 x, .int .u64 (W4 k 0), .int .u64 (W4 k 1), .int .u64 (W4 k 2), .int .u64 (W4 k 3)] 43)) w) :
  Num w (some ⟨w0.heap.size, 4, none⟩) 4 4 (lowW (W4 k) 4) := by
 refine ⟨Nat.le_refl _, by unfold maxLen; omega, lowW_words (W4_words k) 4, fun i hi => lowW_ge hi, Or.inr ⟨_, _, rfl, lt_below hb (by simp), fun i hi => ?_⟩⟩
 rw [lowW_lt hi, (hb.cell (p := ⟨w0.heap.size, 4 + i, none⟩) (by simp)), World.cell?_alloc_new]
 have : i = 0 ∨ i = 1 ∨ i = 2 ∨ i = 3 := by omega
 rcases this with rfl | rfl | rfl | rfl <;> rfl
section
variable (n : Int) (nm : ByteArray) (wd : Int) (f e : Nat) (l m : Int) (c x : Int) (s g : Bool) (k : Nat) (L : Int) (w : World) (hf : 2 ≤ f ∧ f ≤ 240)
 (c38 : ∀ W, Num W (some ⟨w.heap.size + 1, 4, none⟩) 4 4 (lowW (W4 k) 4) → Calls Tryz.prog 26 #[.slice (some ⟨w.heap.size + 1, 4, none⟩) 4 4] W fun e w' => e = .returned (.int .i64 L) ∧ W = w')
include hf c38
theorem is1_g  : Calls Tryz.prog 152 #[IV n nm wd f e l m, DV 1 s true x k] w fun r w' => r = .returned (.bool false) ∧ Below w.heap.size w w' := by
 have hN := dat_num (w0 := w.alloc (.cells #[.int .i64 n, .string nm, .int .i64 2, .int .i64 wd, .int .i64 ((f : Int) + 1), .int .i64 e, .int .i64 l, .int .i64 m, .int .i64 ((f : Int) - 1), .bool false] 97)) (c := 1) (s := s) (g := true) (x := x) (k := k) (Below.refl _ _)
 rw [World.size_alloc] at hN
 have cl := c38 _ hN
 clear hN c38
 go_enter Tryz.func152, Tryz.ntmps152
 go_wp2_with (go_at_call 26; refine cl.mono ?_; rintro e w1 ⟨rfl, rfl⟩)
 go_ret
 exact ⟨by first | rfl | simp [*], bgo⟩
theorem is1_l (h1 : ¬ L ≤ (f : Int) + 1) : Calls Tryz.prog 152 #[IV n nm wd f e l m, DV 1 s false x k] w fun r w' => r = .returned (.bool false) ∧ Below w.heap.size w w' := by
 have hN := dat_num (w0 := w.alloc (.cells #[.int .i64 n, .string nm, .int .i64 2, .int .i64 wd, .int .i64 ((f : Int) + 1), .int .i64 e, .int .i64 l, .int .i64 m, .int .i64 ((f : Int) - 1), .bool false] 97)) (c := 1) (s := s) (g := false) (x := x) (k := k) (Below.refl _ _)
 rw [World.size_alloc] at hN
 have cl := c38 _ hN
 clear hN c38
 go_enter Tryz.func152, Tryz.ntmps152
 go_wp2_with (go_at_call 26; refine cl.mono ?_; rintro e w1 ⟨rfl, rfl⟩)
 go_ret
 exact ⟨by first | rfl | simp [*], bgo⟩
theorem is1_x (h1 : L ≤ (f : Int) + 1) (h2 : ¬ l ≤ x) : Calls Tryz.prog 152 #[IV n nm wd f e l m, DV 1 s false x k] w fun r w' => r = .returned (.bool false) ∧ Below w.heap.size w w' := by
 have hN := dat_num (w0 := w.alloc (.cells #[.int .i64 n, .string nm, .int .i64 2, .int .i64 wd, .int .i64 ((f : Int) + 1), .int .i64 e, .int .i64 l, .int .i64 m, .int .i64 ((f : Int) - 1), .bool false] 97)) (c := 1) (s := s) (g := false) (x := x) (k := k) (Below.refl _ _)
 rw [World.size_alloc] at hN
 have cl := c38 _ hN
 clear hN c38
 go_enter Tryz.func152, Tryz.ntmps152
 go_wp2_with (go_at_call 26; refine cl.mono ?_; rintro e w1 ⟨rfl, rfl⟩)
 go_ret
 exact ⟨by first | rfl | simp [*], bgo⟩
theorem is1_m (h1 : L ≤ (f : Int) + 1) (h2 : l ≤ x) (h3 : ¬ x ≤ m) : Calls Tryz.prog 152 #[IV n nm wd f e l m, DV 1 s false x k] w fun r w' => r = .returned (.bool false) ∧ Below w.heap.size w w' := by
 have hN := dat_num (w0 := w.alloc (.cells #[.int .i64 n, .string nm, .int .i64 2, .int .i64 wd, .int .i64 ((f : Int) + 1), .int .i64 e, .int .i64 l, .int .i64 m, .int .i64 ((f : Int) - 1), .bool false] 97)) (c := 1) (s := s) (g := false) (x := x) (k := k) (Below.refl _ _)
 rw [World.size_alloc] at hN
 have cl := c38 _ hN
 clear hN c38
 go_enter Tryz.func152, Tryz.ntmps152
 go_wp2_with (go_at_call 26; refine cl.mono ?_; rintro e w1 ⟨rfl, rfl⟩)
 go_ret
 exact ⟨by first | rfl | simp [*], bgo⟩
theorem is1_n (h1 : L ≤ (f : Int) + 1) (h2 : l ≤ x) (h3 : x ≤ m) (h4 : (L == (f : Int) + 1) = false) (h5 : (x == l) = false) : Calls Tryz.prog 152 #[IV n nm wd f e l m, DV 1 s false x k] w fun r w' => r = .returned (.bool false) ∧ Below w.heap.size w w' := by
 have hN := dat_num (w0 := w.alloc (.cells #[.int .i64 n, .string nm, .int .i64 2, .int .i64 wd, .int .i64 ((f : Int) + 1), .int .i64 e, .int .i64 l, .int .i64 m, .int .i64 ((f : Int) - 1), .bool false] 97)) (c := 1) (s := s) (g := false) (x := x) (k := k) (Below.refl _ _)
 rw [World.size_alloc] at hN
 have cl := c38 _ hN
 clear hN c38
 go_enter Tryz.func152, Tryz.ntmps152
 go_wp2_with (go_at_call 26; refine cl.mono ?_; rintro e w1 ⟨rfl, rfl⟩)
 go_ret
 exact ⟨by first | rfl | simp [*], bgo⟩
theorem is1_a (h1 : L ≤ (f : Int) + 1) (h2 : l ≤ x) (h3 : x ≤ m) (h4 : (L == (f : Int) + 1) = true) : Calls Tryz.prog 152 #[IV n nm wd f e l m, DV 1 s false x k] w fun r w' => r = .returned (.bool true) ∧ Below w.heap.size w w' := by
 have hN := dat_num (w0 := w.alloc (.cells #[.int .i64 n, .string nm, .int .i64 2, .int .i64 wd, .int .i64 ((f : Int) + 1), .int .i64 e, .int .i64 l, .int .i64 m, .int .i64 ((f : Int) - 1), .bool false] 97)) (c := 1) (s := s) (g := false) (x := x) (k := k) (Below.refl _ _)
 rw [World.size_alloc] at hN
 have cl := c38 _ hN
 clear hN c38
 go_enter Tryz.func152, Tryz.ntmps152
 go_wp2_with (go_at_call 26; refine cl.mono ?_; rintro e w1 ⟨rfl, rfl⟩)
 go_ret
 exact ⟨by first | rfl | simp [*], bgo⟩
theorem is1_b (h1 : L ≤ (f : Int) + 1) (h2 : l ≤ x) (h3 : x ≤ m) (h4 : (L == (f : Int) + 1) = false) (h5 : (x == l) = true) : Calls Tryz.prog 152 #[IV n nm wd f e l m, DV 1 s false x k] w fun r w' => r = .returned (.bool true) ∧ Below w.heap.size w w' := by
 have hN := dat_num (w0 := w.alloc (.cells #[.int .i64 n, .string nm, .int .i64 2, .int .i64 wd, .int .i64 ((f : Int) + 1), .int .i64 e, .int .i64 l, .int .i64 m, .int .i64 ((f : Int) - 1), .bool false] 97)) (c := 1) (s := s) (g := false) (x := x) (k := k) (Below.refl _ _)
 rw [World.size_alloc] at hN
 have cl := c38 _ hN
 clear hN c38
 go_enter Tryz.func152, Tryz.ntmps152
 go_wp2_with (go_at_call 26; refine cl.mono ?_; rintro e w1 ⟨rfl, rfl⟩)
 go_ret
 exact ⟨by first | rfl | simp [*], bgo⟩
theorem is2_g  : Calls Tryz.prog 152 #[IV n nm wd f e l m, DV 2 s true x k] w fun r w' => r = .returned (.bool false) ∧ Below w.heap.size w w' := by
 have hN := dat_num (w0 := w.alloc (.cells #[.int .i64 n, .string nm, .int .i64 2, .int .i64 wd, .int .i64 ((f : Int) + 1), .int .i64 e, .int .i64 l, .int .i64 m, .int .i64 ((f : Int) - 1), .bool false] 97)) (c := 2) (s := s) (g := true) (x := x) (k := k) (Below.refl _ _)
 rw [World.size_alloc] at hN
 have cl := c38 _ hN
 clear hN c38
 go_enter Tryz.func152, Tryz.ntmps152
 go_wp2_with (go_at_call 26; refine cl.mono ?_; rintro e w1 ⟨rfl, rfl⟩)
 go_ret
 exact ⟨by first | rfl | simp [*], bgo⟩
theorem is2_l (h1 : (L == 0) = false) : Calls Tryz.prog 152 #[IV n nm wd f e l m, DV 2 s false x k] w fun r w' => r = .returned (.bool false) ∧ Below w.heap.size w w' := by
 have hN := dat_num (w0 := w.alloc (.cells #[.int .i64 n, .string nm, .int .i64 2, .int .i64 wd, .int .i64 ((f : Int) + 1), .int .i64 e, .int .i64 l, .int .i64 m, .int .i64 ((f : Int) - 1), .bool false] 97)) (c := 2) (s := s) (g := false) (x := x) (k := k) (Below.refl _ _)
 rw [World.size_alloc] at hN
 have cl := c38 _ hN
 clear hN c38
 go_enter Tryz.func152, Tryz.ntmps152
 go_wp2_with (go_at_call 26; refine cl.mono ?_; rintro e w1 ⟨rfl, rfl⟩)
 go_ret
 exact ⟨by first | rfl | simp [*], bgo⟩
theorem is2_x (h1 : (L == 0) = true) (h2 : (x == 0) = false) : Calls Tryz.prog 152 #[IV n nm wd f e l m, DV 2 s false x k] w fun r w' => r = .returned (.bool false) ∧ Below w.heap.size w w' := by
 have hN := dat_num (w0 := w.alloc (.cells #[.int .i64 n, .string nm, .int .i64 2, .int .i64 wd, .int .i64 ((f : Int) + 1), .int .i64 e, .int .i64 l, .int .i64 m, .int .i64 ((f : Int) - 1), .bool false] 97)) (c := 2) (s := s) (g := false) (x := x) (k := k) (Below.refl _ _)
 rw [World.size_alloc] at hN
 have cl := c38 _ hN
 clear hN c38
 go_enter Tryz.func152, Tryz.ntmps152
 go_wp2_with (go_at_call 26; refine cl.mono ?_; rintro e w1 ⟨rfl, rfl⟩)
 go_ret
 exact ⟨by first | rfl | simp [*], bgo⟩
theorem is2_a (h1 : (L == 0) = true) (h2 : (x == 0) = true) : Calls Tryz.prog 152 #[IV n nm wd f e l m, DV 2 s false x k] w fun r w' => r = .returned (.bool true) ∧ Below w.heap.size w w' := by
 have hN := dat_num (w0 := w.alloc (.cells #[.int .i64 n, .string nm, .int .i64 2, .int .i64 wd, .int .i64 ((f : Int) + 1), .int .i64 e, .int .i64 l, .int .i64 m, .int .i64 ((f : Int) - 1), .bool false] 97)) (c := 2) (s := s) (g := false) (x := x) (k := k) (Below.refl _ _)
 rw [World.size_alloc] at hN
 have cl := c38 _ hN
 clear hN c38
 go_enter Tryz.func152, Tryz.ntmps152
 go_wp2_with (go_at_call 26; refine cl.mono ?_; rintro e w1 ⟨rfl, rfl⟩)
 go_ret
 exact ⟨by first | rfl | simp [*], bgo⟩
theorem is3_x (h2 : (x == 0) = false) : Calls Tryz.prog 152 #[IV n nm wd f e l m, DV 3 s g x k] w fun r w' => r = .returned (.bool false) ∧ Below w.heap.size w w' := by
 have hN := dat_num (w0 := w.alloc (.cells #[.int .i64 n, .string nm, .int .i64 2, .int .i64 wd, .int .i64 ((f : Int) + 1), .int .i64 e, .int .i64 l, .int .i64 m, .int .i64 ((f : Int) - 1), .bool false] 97)) (c := 3) (s := s) (g := g) (x := x) (k := k) (Below.refl _ _)
 rw [World.size_alloc] at hN
 have cl := c38 _ hN
 clear hN c38
 go_enter Tryz.func152, Tryz.ntmps152
 go_wp2_with (go_at_call 26; refine cl.mono ?_; rintro e w1 ⟨rfl, rfl⟩)
 go_ret
 exact ⟨by first | rfl | simp [*], bgo⟩
theorem is3_l (h2 : (x == 0) = true) (h1 : ¬ L ≤ (f : Int) - 1) : Calls Tryz.prog 152 #[IV n nm wd f e l m, DV 3 s g x k] w fun r w' => r = .returned (.bool false) ∧ Below w.heap.size w w' := by
 have hN := dat_num (w0 := w.alloc (.cells #[.int .i64 n, .string nm, .int .i64 2, .int .i64 wd, .int .i64 ((f : Int) + 1), .int .i64 e, .int .i64 l, .int .i64 m, .int .i64 ((f : Int) - 1), .bool false] 97)) (c := 3) (s := s) (g := g) (x := x) (k := k) (Below.refl _ _)
 rw [World.size_alloc] at hN
 have cl := c38 _ hN
 clear hN c38
 go_enter Tryz.func152, Tryz.ntmps152
 go_wp2_with (go_at_call 26; refine cl.mono ?_; rintro e w1 ⟨rfl, rfl⟩)
 go_ret
 exact ⟨by first | rfl | simp [*], bgo⟩
theorem is3_a (h2 : (x == 0) = true) (h1 : L ≤ (f : Int) - 1) (h3 : 0 < L) : Calls Tryz.prog 152 #[IV n nm wd f e l m, DV 3 s g x k] w fun r w' => r = .returned (.bool true) ∧ Below w.heap.size w w' := by
 have hN := dat_num (w0 := w.alloc (.cells #[.int .i64 n, .string nm, .int .i64 2, .int .i64 wd, .int .i64 ((f : Int) + 1), .int .i64 e, .int .i64 l, .int .i64 m, .int .i64 ((f : Int) - 1), .bool false] 97)) (c := 3) (s := s) (g := g) (x := x) (k := k) (Below.refl _ _)
 rw [World.size_alloc] at hN
 have cl := c38 _ hN
 clear hN c38
 go_enter Tryz.func152, Tryz.ntmps152
 go_wp2_with (go_at_call 26; refine cl.mono ?_; rintro e w1 ⟨rfl, rfl⟩)
 go_ret
 exact ⟨by first | rfl | simp [*], bgo⟩
theorem is3_q (h2 : (x == 0) = true) (h1 : L ≤ (f : Int) - 1) (h3 : ¬ 0 < L) : Calls Tryz.prog 152 #[IV n nm wd f e l m, DV 3 s false x k] w fun r w' => r = .returned (.bool true) ∧ Below w.heap.size w w' := by
 have hN := dat_num (w0 := w.alloc (.cells #[.int .i64 n, .string nm, .int .i64 2, .int .i64 wd, .int .i64 ((f : Int) + 1), .int .i64 e, .int .i64 l, .int .i64 m, .int .i64 ((f : Int) - 1), .bool false] 97)) (c := 3) (s := s) (g := false) (x := x) (k := k) (Below.refl _ _)
 rw [World.size_alloc] at hN
 have cl := c38 _ hN
 clear hN c38
 go_enter Tryz.func152, Tryz.ntmps152
 go_wp2_with (go_at_call 26; refine cl.mono ?_; rintro e w1 ⟨rfl, rfl⟩)
 go_ret
 exact ⟨by first | rfl | simp [*], bgo⟩
theorem is3_s (h2 : (x == 0) = true) (h1 : L ≤ (f : Int) - 1) (h3 : ¬ 0 < L) : Calls Tryz.prog 152 #[IV n nm wd f e l m, DV 3 s true x k] w fun r w' => r = .returned (.bool false) ∧ Below w.heap.size w w' := by
 have hN := dat_num (w0 := w.alloc (.cells #[.int .i64 n, .string nm, .int .i64 2, .int .i64 wd, .int .i64 ((f : Int) + 1), .int .i64 e, .int .i64 l, .int .i64 m, .int .i64 ((f : Int) - 1), .bool false] 97)) (c := 3) (s := s) (g := true) (x := x) (k := k) (Below.refl _ _)
 rw [World.size_alloc] at hN
 have cl := c38 _ hN
 clear hN c38
 go_enter Tryz.func152, Tryz.ntmps152
 go_wp2_with (go_at_call 26; refine cl.mono ?_; rintro e w1 ⟨rfl, rfl⟩)
 go_ret
 exact ⟨by first | rfl | simp [*], bgo⟩
theorem is_0 (h1 : (c == 1) = false) (h2 : (c == 2) = false) (h3 : (c == 3) = false) : Calls Tryz.prog 152 #[IV n nm wd f e l m, DV c s g x k] w fun r w' => r = .returned (.bool false) ∧ Below w.heap.size w w' := by
 have hN := dat_num (w0 := w.alloc (.cells #[.int .i64 n, .string nm, .int .i64 2, .int .i64 wd, .int .i64 ((f : Int) + 1), .int .i64 e, .int .i64 l, .int .i64 m, .int .i64 ((f : Int) - 1), .bool false] 97)) (c := c) (s := s) (g := g) (x := x) (k := k) (Below.refl _ _)
 rw [World.size_alloc] at hN
 have cl := c38 _ hN
 clear hN c38
 go_enter Tryz.func152, Tryz.ntmps152
 go_wp2_with (go_at_call 26; refine cl.mono ?_; rintro e w1 ⟨rfl, rfl⟩)
 go_ret
 exact ⟨by first | rfl | simp [*], bgo⟩
end
theorem ris_any (n : Int) (nm : ByteArray) (wd : Int) (f e : Nat) (l m : Int) (d : Dat) (w : World) (h : Fm f e l m) (hk : d.k < 2 ^ 256) :
  Calls Tryz.prog 152 #[IV n nm wd f e l m, d.v] w fun r w' => r = .returned (.bool (decide (isD f l m d))) ∧ Below w.heap.size w w' := by
 obtain ⟨c, s, g, x, k⟩ := d
 unfold Dat.v
 dsimp only at hk ⊢
 have hf : 2 ≤ f ∧ f ≤ 240 := ⟨h.f2, h.f240⟩
 have c38 : ∀ W, Num W (some ⟨w.heap.size + 1, 4, none⟩) 4 4 (lowW (W4 k) 4) → Calls Tryz.prog 26 #[.slice (some ⟨w.heap.size + 1, 4, none⟩) 4 4] W fun e w' => e = .returned (.int .i64 (lenL (W4 k) 4)) ∧ W = w' := fun W hN => by
  have := rlen_num (some ⟨w.heap.size + 1, 4, none⟩) 4 4 (lowW (W4 k) 4) W (by decide) hN
  rw [lenL_low] at this
  exact this
 have hL1 := len4_le (k := f + 1) hk
 have hL0 := len4_le (k := f) hk
 have hLp := len4_le (k := f - 1) hk
 have hLz := len4_zero hk
 have hz0 : 0 ≤ lenL (W4 k) 4 := by
  by_cases hz : k = 0
  ·rw [hLz.2 hz]; exact Int.le_refl _
  ·have := len4_le (k := 0) hk
   have h1 : ¬ lenL (W4 k) 4 ≤ ((0 : Nat) : Int) := fun hh => hz (by have := this.1 hh; omega)
   omega
 rw [show ((f + 1 : Nat) : Int) = (f : Int) + 1 by omega] at hL1
 rw [show ((f - 1 : Nat) : Int) = (f : Int) - 1 by omega] at hLp
 generalize lenL (W4 k) 4 = L at *
 have D : ∀ (p : Prop) [Decidable p] (b : Bool), (b = true ↔ p) → decide p = b := fun p _ b hb => by
  cases b
  ·exact decide_eq_false fun hp => by simpa using hb.2 hp
  ·exact decide_eq_true (hb.1 rfl)
 by_cases h1 : c = 1
 ·subst h1
  cases g with
  | true => rw [D _ false (by unfold isD; simp)]; exact is1_g n nm wd f e l m x s k L w hf c38
  | false =>
   by_cases a1 : L ≤ (f : Int) + 1
   ·by_cases a2 : l ≤ x
    ·by_cases a3 : x ≤ m
     ·by_cases a4 : L = (f : Int) + 1
      ·rw [D _ true (by unfold isD; simp; refine ⟨hL1.1 a1, a2, a3, Or.inl ?_⟩; rcases Nat.lt_or_ge k (2 ^ f) with hh | hh; (have := hL0.2 hh; omega); exact hh)]
       exact is1_a n nm wd f e l m x s k L w hf c38 a1 a2 a3 (by simpa using a4)
      ·by_cases a5 : x = l
       ·rw [D _ true (by unfold isD; simp; exact ⟨hL1.1 a1, a2, a3, Or.inr a5⟩)]
        exact is1_b n nm wd f e l m x s k L w hf c38 a1 a2 a3 (by simpa using a4) (by simpa using a5)
       ·rw [D _ false (by unfold isD; simp; intro _ _ _; have hkf := hL0.1 (by omega); exact ⟨by omega, a5⟩)]
        exact is1_n n nm wd f e l m x s k L w hf c38 a1 a2 a3 (by simpa using a4) (by simpa using a5)
     ·rw [D _ false (by unfold isD; simp; intro _ _ h3; exact absurd h3 a3)]
      exact is1_m n nm wd f e l m x s k L w hf c38 a1 a2 a3
    ·rw [D _ false (by unfold isD; simp; intro _ h2; exact absurd h2 a2)]
     exact is1_x n nm wd f e l m x s k L w hf c38 a1 a2
   ·rw [D _ false (by unfold isD; simp; intro h3; exact absurd (hL1.2 h3) a1)]
    exact is1_l n nm wd f e l m x s k L w hf c38 a1
 ·by_cases h2 : c = 2
  ·subst h2
   cases g with
   | true => rw [D _ false (by unfold isD; simp)]; exact is2_g n nm wd f e l m x s k L w hf c38
   | false =>
    by_cases a1 : L = 0
    ·by_cases a2 : x = 0
     ·rw [D _ true (by unfold isD; simp; exact ⟨a2, hLz.1 a1⟩)]
      exact is2_a n nm wd f e l m x s k L w hf c38 (by simpa using a1) (by simpa using a2)
     ·rw [D _ false (by unfold isD; simp; intro h3; exact absurd h3 a2)]
      exact is2_x n nm wd f e l m x s k L w hf c38 (by simpa using a1) (by simpa using a2)
    ·rw [D _ false (by unfold isD; simp; intro _ h3; exact a1 (hLz.2 h3))]
     exact is2_l n nm wd f e l m x s k L w hf c38 (by simpa using a1)
  ·by_cases h3 : c = 3
   ·subst h3
    by_cases a2 : x = 0
    ·by_cases a1 : L ≤ (f : Int) - 1
     ·by_cases a3 : 0 < L
      ·rw [D _ true (by unfold isD; simp; exact ⟨a2, hLp.1 a1, Or.inl fun hh => by rw [hLz.2 hh] at a3; omega⟩)]
       exact is3_a n nm wd f e l m x s g k L w hf c38 (by simpa using a2) a1 a3
      ·have k0 : k = 0 := hLz.1 (by omega)
       cases g with
       | false =>
        rw [D _ true (by unfold isD; simp; exact ⟨a2, hLp.1 a1⟩)]
        exact is3_q n nm wd f e l m x s k L w hf c38 (by simpa using a2) a1 a3
       | true =>
        rw [D _ false (by unfold isD; simp; intro _ _; exact k0)]
        exact is3_s n nm wd f e l m x s k L w hf c38 (by simpa using a2) a1 a3
     ·rw [D _ false (by unfold isD; simp; intro _ h4; exact absurd (hLp.2 h4) a1)]
      exact is3_l n nm wd f e l m x s g k L w hf c38 (by simpa using a2) a1
    ·rw [D _ false (by unfold isD; simp; intro h4; exact absurd h4 a2)]
     exact is3_x n nm wd f e l m x s g k L w hf c38 (by simpa using a2)
   ·rw [D _ false (by unfold isD; simp [h1, h2, h3])]
    exact is_0 n nm wd f e l m c x s g k L w hf c38 (by simpa using h1) (by simpa using h2) (by simpa using h3)
end
section
attribute [local irreducible] W4 NT NV
section
variable (n : Int) (B : Nat) (f e Fr En S : Nat) (l m pay wd : Int) (nm : ByteArray) (w : World) (hf : 2 ≤ f ∧ f ≤ 240) (he : e ≤ 15) (hEn : En < 9223372036854775808) (hS9 : S < 9223372036854775808)
 (c24 : ∀ w, Calls Tryz.prog 13 #[.int .i64 n, A4 B] w fun x w' => x = .returned (.bool true) ∧ Below w.heap.size w w')
 (c25 : ∀ w, Calls Tryz.prog 58 #[.int .i64 n] w fun x w' => x = .returned (.tuple #[.agg #[.int .i64 n, .string nm, .int .i64 2, .int .i64 wd, .int .i64 ((f : Int) + 1), .int .i64 e, .int .i64 l, .int .i64 m, .int .i64 pay, .bool false], .int .i64 0]) ∧ Below w.heap.size w w')
 (c0 : ∀ w, Calls Tryz.prog 27 #[A4 B, .int .i64 0, .int .i64 f] w fun x w' => ∃ r, x = .returned r ∧ NT 19 Fr r w' ∧ Below w.heap.size w w')
 (c1 : ∀ w, Calls Tryz.prog 27 #[A4 B, .int .i64 f, .int .i64 e] w fun x w' => ∃ r, x = .returned r ∧ NT 19 En r w' ∧ Below w.heap.size w w')
 (c26 : ∀ w, Calls Tryz.prog 27 #[A4 B, .int .i64 ((f : Int) + e), .int .i64 1] w fun x w' => ∃ r, x = .returned r ∧ NT 19 S r w' ∧ Below w.heap.size w w')
include hf he hEn hS9 c24 c25 c0 c1 c26
end
theorem rpow_nv (f : Nat) (w : World) (hf : f ≤ 12000) : Calls Tryz.prog 61 #[.int .u64 2, .int .i64 f] w fun x w' => ∃ r, x = .returned r ∧ NV 50000 (2 ^ f) r w' ∧ Below w.heap.size w w' := by
 refine (rpow_any 2 f w (by decide) (by omega)).mono ?_
 rintro x w' ⟨g, k, cap, z, rfl, hk, hN, hv, hb⟩
 refine ⟨_, rfl, ?_, hb⟩
 unfold NV
 exact ⟨g, k, cap, z, rfl, by omega, hN, by rw [hv]; simp⟩
theorem bin_more {n : Int} (h : binN n) : numN n = n ∧ denseN n = false := by
 rcases bin_cases h with rfl | rfl | rfl | rfl | rfl | rfl <;> exact ⟨by decide, by decide⟩
end
end Go.Proofs.YtplocajjfoiklaaGreatDoor
