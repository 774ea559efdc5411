/-
  Texts that the proof leans on, joined: Wb, Wc.
-/
import Derived.Test.YthcndcanahhbcaaDoorJ17
import Derived.Deep.Cut
import Derived.Deep.CutRange
/-
  What the document's Far, power, Scale, exponent, Over and Whole do: contracts.
-/
set_option linter.unusedVariables false
set_option linter.unusedSectionVars false
set_option linter.unusedSimpArgs false
set_option maxRecDepth 20000
namespace Go.Proofs.YthcndcanahhbcaaDoor
open Go.RowKit

theorem rdir_any (d : Int) (w : World) : Calls Tryd.prog 16 #[.int .i64 d] w fun e w' => e = .returned (.bool (decide (knB d))) ∧ w = w' := by
  by_cases h0 : 0 ≤ d
  · by_cases h4 : d ≤ 4
    · have e : decide (knB d) = true := by unfold knB; simp [h0, h4]
      rw [e]
      go_enter Tryd.func16, Tryd.ntmps16
      go_wp2
      go_ret
      exact ⟨by simp [h0, h4], rfl⟩
    · have e : decide (knB d) = false := by unfold knB; simp [h0, h4]
      rw [e]
      go_enter Tryd.func16, Tryd.ntmps16
      go_wp2
      go_ret
      exact ⟨by simp [h0, h4], rfl⟩
  · have e : decide (knB d) = false := by unfold knB; simp [h0]
    rw [e]
    go_enter Tryd.func16, Tryd.ntmps16
    go_wp2
    go_ret
    exact ⟨by simp [h0], rfl⟩
set_option maxHeartbeats 400000 in
theorem rfar_kn (d : Int) (s : Bool) (w : World) (hk : knB d) : Calls Tryd.prog 73 #[.int .i64 d, .bool s] w fun e w' => e = .returned (.bool (inB d s)) ∧ w = w' := by
  have hd : d = 0 ∨ d = 1 ∨ d = 2 ∨ d = 3 ∨ d = 4 := by unfold knB at hk; omega
  rcases hd with rfl | rfl | rfl | rfl | rfl <;>
  · go_enter Tryd.func73, Tryd.ntmps73
    go_wp2
    go_ret
    exact ⟨by simp [inB], rfl⟩
theorem nv_uno {W : World} {g V : Nat} {vi : Int} (hg : g = W.heap.size) (hv : vi = (V : Int)) (hb : V < 18446744073709551616) : NV 1 V (.slice (some ⟨g, 0, none⟩) 1 1) (W.alloc (.cells #[.int .u64 vi] 25)) := by
  subst hg hv
  exact ⟨_, 1, 1, oneW V, rfl, Nat.le_refl _, num_one W V (by omega), val_one1 V⟩
set_option maxHeartbeats 400000 in
theorem rpower_nt (n : Nat) (hn : n ≤ 200000) (w : World) : Calls Tryd.prog 98 #[.int .u64 2, .int .i64 (n : Int)] w fun e w' => ∃ r, e = .returned r ∧ NT 3128 (2 ^ n) r w' ∧ Below w.heap.size w w' := by
  have c84 := rleft_nt (w := w.alloc (.cells #[.int .u64 1] 25)) n (K := 1) (A := 1) (by decide) (by omega) (nv_uno rfl rfl (by decide))
  rw [Nat.one_mul] at c84
  have hb0 := below1 w (.cells #[.int .u64 1] 25)
  go_enter Tryd.func98, Tryd.ntmps98
  go_wp2_with (go_at_call 84; refine c84.mono ?_; rintro e w1 ⟨r, rfl, hr, hb1⟩)
  go_ret
  exact ⟨r, rfl, hr.more (by omega), hb0.trans (hb1.mono hb0.size)⟩
section
variable (x : Int) (vn vd : Value) (A B KK : Nat) (w : World)
set_option maxHeartbeats 1000000 in
theorem rscale_pos (h : 0 ≤ min (max x (-200000)) 200000)
    (c98 : Calls Tryd.prog 98 #[.int .u64 2, .int .i64 (min (max x (-200000)) 200000)] w fun e w' => ∃ p, e = .returned p ∧ Below w.heap.size w w' ∧ Calls Tryd.prog 17 #[vn, p] w' fun e w'' => ∃ r, e = .returned r ∧ NT KK A r w'' ∧ Below w'.heap.size w' w'') :
    Calls Tryd.prog 67 #[vn, vd, .int .u64 2, .int .i64 x] w fun e w' => ∃ r, e = .returned (.tuple #[r, vd]) ∧ NT KK A r w' ∧ Below w.heap.size w w' := by
  have hb1 : min (max x (-200000)) 200000 ≤ 200000 := by omega
  go_enter Tryd.func67, Tryd.ntmps67
  go_wp2_with (first
    | (go_at_call 98; refine c98.mono ?_; rintro e w1 ⟨p, rfl, hb1, c17⟩)
    | (go_at_call 17; refine c17.mono ?_; rintro e w2 ⟨r, rfl, hr, hb2⟩))
  exact bodyPost_ret (v := .tuple #[r, vd]) (by simp only [results, Tryd.results67]; go_simp) rfl ⟨_, rfl, hr, hb1.trans (hb2.mono hb1.size)⟩
set_option maxHeartbeats 1000000 in
theorem rscale_neg (m : Int) (hm : m = -(min (max x (-200000)) 200000)) (h : ¬ 0 ≤ min (max x (-200000)) 200000)
    (c98 : Calls Tryd.prog 98 #[.int .u64 2, .int .i64 m] w fun e w' => ∃ p, e = .returned p ∧ Below w.heap.size w w' ∧ Calls Tryd.prog 17 #[vd, p] w' fun e w'' => ∃ r, e = .returned r ∧ NT KK A r w'' ∧ Below w'.heap.size w' w'') :
    Calls Tryd.prog 67 #[vn, vd, .int .u64 2, .int .i64 x] w fun e w' => ∃ r, e = .returned (.tuple #[vn, r]) ∧ NT KK A r w' ∧ Below w.heap.size w w' := by
  have hb1 : -200000 ≤ min (max x (-200000)) 200000 := by omega
  subst hm
  go_enter Tryd.func67, Tryd.ntmps67
  go_wp2_with (first
    | (go_at_call 98; refine c98.mono ?_; rintro e w1 ⟨p, rfl, hb1, c17⟩)
    | (go_at_call 17; refine c17.mono ?_; rintro e w2 ⟨r, rfl, hr, hb2⟩))
  exact bodyPost_ret (v := .tuple #[vn, r]) (by simp only [results, Tryd.results67]; go_simp) rfl ⟨_, rfl, hr, hb1.trans (hb2.mono hb1.size)⟩
end
/-- the fraction times 2^x, as the document takes it -/
theorem rscale_nt {K N D : Nat} {vn vd : Value} {w : World} (x : Int) (hK : K ≤ 12000) (h : NT K N vn w) (h' : NT K D vd w) :
    Calls Tryd.prog 67 #[vn, vd, .int .u64 2, .int .i64 x] w fun e w' => ∃ a b, e = .returned (.tuple #[a, b]) ∧ NT (K + 3130) (sN N x) a w' ∧ NT (K + 3130) (sD D x) b w' ∧ Below w.heap.size w w' := by
  have hc : clZ x = min (max x (-200000)) 200000 := rfl
  by_cases hp : 0 ≤ min (max x (-200000)) 200000
  · have c98 := rpower_nt (clZ x).toNat (by omega) w
    rw [show ((clZ x).toNat : Int) = min (max x (-200000)) 200000 by omega] at c98
    have e0 : sD D x = D := by unfold sD; rw [show (-(clZ x)).toNat = 0 by omega, Nat.pow_zero, Nat.mul_one]
    rw [e0]
    refine (rscale_pos x vn vd (sN N x) (K + 3130) w hp (c98.mono fun e w' ⟨p, e1, e2, e3⟩ => ⟨p, e1, e3, (rtimes_nt (by omega) (by decide) (h.next e3).nv e2.nv).mono fun e w'' ⟨r, f1, f2, f3⟩ => ⟨r, f1, f2.more (by omega), f3⟩⟩)).mono fun e w' ⟨r, e1, e2, e3⟩ => ⟨_, _, e1, e2, (h'.next e3).more (by omega), e3⟩
  · have c98 := rpower_nt (-(clZ x)).toNat (by omega) w
    rw [show ((-(clZ x)).toNat : Int) = -(clZ x) by omega] at c98
    have e0 : sN N x = N := by unfold sN; rw [show (clZ x).toNat = 0 by omega, Nat.pow_zero, Nat.mul_one]
    rw [e0]
    refine (rscale_neg x vn vd (sD D x) (K + 3130) w (-(clZ x)) (by omega) hp (c98.mono fun e w' ⟨p, e1, e2, e3⟩ => ⟨p, e1, e3, (rtimes_nt (by omega) (by decide) (h'.next e3).nv e2.nv).mono fun e w'' ⟨r, f1, f2, f3⟩ => ⟨r, f1, f2.more (by omega), f3⟩⟩)).mono fun e w' ⟨r, e1, e2, e3⟩ => ⟨_, _, e1, (h.next e3).more (by omega), e2, e3⟩
section
variable (vn vd : Value) (LN LD s : Int) (w : World) (hLN : 0 ≤ LN ∧ LN ≤ 2000000) (hLD : 0 ≤ LD ∧ LD ≤ 2000000)
  (c70 : Calls Tryd.prog 70 #[vn] w fun e w' => e = .returned (.int .i64 LN) ∧ w = w')
  (c70d : Calls Tryd.prog 70 #[vd] w fun e w' => e = .returned (.int .i64 LD) ∧ w = w')
  (c67 : ∀ n : Int, n = -(LN - LD) → Calls Tryd.prog 67 #[vn, vd, .int .u64 2, .int .i64 n] w fun e w' => ∃ va vb, e = .returned (.tuple #[va, vb]) ∧ (Calls Tryd.prog 21 #[va, vb] w' fun e w'' => e = .returned (.int .i64 s) ∧ w' = w'') ∧ Below w.heap.size w w')
include hLN hLD c70 c70d c67
set_option maxHeartbeats 400000 in
theorem rexp_l (h : s < 0) : Calls Tryd.prog 68 #[vn, vd] w fun e w' => e = .returned (.int .i64 (LN - LD - 1)) ∧ Below w.heap.size w w' := by
  go_enter Tryd.func68, Tryd.ntmps68
  go_wp2_with (first
    | (go_at_call_of 70 vn; refine c70.mono ?_; rintro e w1 ⟨rfl, rfl⟩)
    | (go_at_call_of 70 vd; refine c70d.mono ?_; rintro e w1 ⟨rfl, rfl⟩)
    | (go_at_call 67; refine (c67 _ (by omega)).mono ?_; rintro e w2 ⟨va, vb, rfl, c21, hb2⟩)
    | (go_at_call 21; refine c21.mono ?_; rintro e w3 ⟨rfl, rfl⟩))
  go_ret
  exact ⟨rfl, hb2⟩
set_option maxHeartbeats 400000 in
theorem rexp_g (h : ¬ s < 0) : Calls Tryd.prog 68 #[vn, vd] w fun e w' => e = .returned (.int .i64 (LN - LD)) ∧ Below w.heap.size w w' := by
  go_enter Tryd.func68, Tryd.ntmps68
  go_wp2_with (first
    | (go_at_call_of 70 vn; refine c70.mono ?_; rintro e w1 ⟨rfl, rfl⟩)
    | (go_at_call_of 70 vd; refine c70d.mono ?_; rintro e w1 ⟨rfl, rfl⟩)
    | (go_at_call 67; refine (c67 _ (by omega)).mono ?_; rintro e w2 ⟨va, vb, rfl, c21, hb2⟩)
    | (go_at_call 21; refine c21.mono ?_; rintro e w3 ⟨rfl, rfl⟩))
  go_ret
  exact ⟨rfl, hb2⟩
end
theorem rexp_nt {K N D : Nat} {vn vd : Value} {w : World} (hK : K ≤ 12000) (h : NT K N vn w) (h' : NT K D vd w) (hbn : bl N ≤ 1000000) (hbd : bl D ≤ 1000000) :
    Calls Tryd.prog 68 #[vn, vd] w fun e w' => e = .returned (.int .i64 (lowE N D)) ∧ Below w.heap.size w w' := by
  have c67 : ∀ n : Int, n = -((bl N : Int) - bl D) → Calls Tryd.prog 67 #[vn, vd, .int .u64 2, .int .i64 n] w fun e w' => ∃ va vb, e = .returned (.tuple #[va, vb]) ∧ (Calls Tryd.prog 21 #[va, vb] w' fun e w'' => e = .returned (.int .i64 (sgn ((sN N (-((bl N : Int) - bl D)) : Nat) : Int) ((sD D (-((bl N : Int) - bl D)) : Nat) : Int))) ∧ w' = w'') ∧ Below w.heap.size w w' := by
    rintro n rfl
    exact (rscale_nt _ hK h h').mono fun e w' ⟨a, b, e1, e2, e3, e4⟩ => ⟨a, b, e1, rcmp_nv (by omega) (by omega) e2.nv e3.nv, e4⟩
  have c70 := rlen_nv (by omega) h.nv
  have c70d := rlen_nv (by omega) h'.nv
  unfold lowE
  rcases sgn_ways ((sN N (-((bl N : Int) - bl D)) : Nat) : Int) ((sD D (-((bl N : Int) - bl D)) : Nat) : Int) with ⟨a, e⟩ | ⟨a, e⟩ | ⟨a, e⟩
  · rw [if_pos (by exact Int.ofNat_lt.1 a)]
    exact rexp_l vn vd _ _ _ w (by omega) (by omega) c70 c70d c67 (by omega)
  · rw [if_neg (fun hh => by have := Int.ofNat_lt.2 hh; omega)]
    exact rexp_g vn vd _ _ _ w (by omega) (by omega) c70 c70d c67 (by omega)
  · rw [if_neg (fun hh => by have := Int.ofNat_lt.2 hh; omega)]
    exact rexp_g vn vd _ _ _ w (by omega) (by omega) c70 c70d c67 (by omega)
set_option maxHeartbeats 1000000 in
theorem over_one (ga gb s c c' : Nat) (x y : Nat → Int) (w : World) (hs : s < 20001) (h : Num w (some ⟨ga, 0, none⟩) s c x) (h' : Num w (some ⟨gb, 0, none⟩) 1 c' y) (hys : sizeL y 1 = 1) :
    Calls Tryd.prog 99 #[.slice (some ⟨ga, 0, none⟩) s c, .slice (some ⟨gb, 0, none⟩) 1 c'] w (OvOut (val x s) (val y 1) w) := by
  have hy := h'.2.2.1
  have c31 := size_num _ 1 c' y w (by omega) h'
  rw [hys] at c31
  have hy0 : y 0 ≠ 0 := by have := sizeL_top (x := y) 1 (by omega); rw [hys] at this; exact this
  have hyb := hy 0
  have ev : val y 1 = y 0 := by simp [val]
  have c107 := small_any (some ⟨ga, 0, none⟩) s c x (y 0) w (by omega) h (by omega)
  have hc : gb < w.heap.size ∧ w.cell? ⟨gb, 0, none⟩ = some (.int .u64 (y 0)) := by
    rcases h'.2.2.2.2 with ⟨h, _⟩ | ⟨b', off', h, hbs, hc⟩
    · cases h
    · cases h; exact ⟨hbs, by simpa using hc 0 (by omega)⟩
  obtain ⟨hgb, hcc⟩ := hc
  rw [ev]
  clear h h'
  go_enter Tryd.func99, Tryd.ntmps99
  go_wp2_with (first | (go_at_call 19; refine c31.mono ?_; rintro e w' ⟨rfl, rfl⟩) | (go_at_call 107; refine c107.mono ?_; rintro e w1 ⟨g, k, cap, z, g', k', cap', z', rfl, hk, hk', hN, hN', hv, hv', hB, ht⟩))
  go_ret2
  exact ⟨g, k, cap, z, g', k', cap', z', rfl, by omega, by omega, hN, hN', hv, hv', hB, ht⟩
/-- quotient and rest, the document's -/
theorem rover_nt {K N D : Nat} {vn vd : Value} {w : World} (hK : K ≤ 20000) (h : NT K N vn w) (h' : NT K D vd w) (hD : D ≠ 0) :
    Calls Tryd.prog 99 #[vn, vd] w fun e w' => ∃ q r, e = .returned (.tuple #[q, r]) ∧ NV 41000 (N / D) q w' ∧ NT 41000 (N % D) r w' ∧ Below w.heap.size w w' := by
  have hk0 := h'.zero
  obtain ⟨ga, s, c, x, rfl, hs, hN, hx, hxs⟩ := h
  obtain ⟨gb, t, c', y, rfl, ht, hN', hy, hys⟩ := h'
  have fin : ∀ e w', OvOut (val x s) (val y t) w e w' → ∃ q r, e = .returned (.tuple #[q, r]) ∧ NV 41000 (N / D) q w' ∧ NT 41000 (N % D) r w' ∧ Below w.heap.size w w' := by
    rintro e w' ⟨g, k, cap, z, g', k', cap', z', e1, hk, hk', hA, hB, hv, hv', hb, htr⟩
    refine ⟨_, _, e1, ⟨g, k, cap, z, rfl, hk, hA, ?_⟩, ⟨g', k', cap', z', rfl, hk', hB, ?_, htr⟩, hb⟩
    · rw [hv, hx, hy]; rfl
    · rw [hv', hx, hy]; rfl
  have ht0 : t ≠ 0 := by
    intro e; subst e
    have : val y 0 = 0 := rfl
    omega
  by_cases ht1 : t = 1
  · subst ht1
    exact (over_one ga gb s c c' x y w (by omega) hN hN' hys).mono fin
  · exact (over_any ga gb s c t c' x y w (by omega) (by omega) (by omega) hN hN' hxs hys).mono fin
end Go.Proofs.YthcndcanahhbcaaDoor

/-
  What the document's q2 and Whole do: contracts.
-/
set_option linter.unusedVariables false
set_option linter.unusedSectionVars false
set_option linter.unusedSimpArgs false
set_option maxRecDepth 20000
namespace Go.Proofs.YthcndcanahhbcaaDoor
open Go.RowKit

theorem val_odd {z : Nat → Int} {k V : Nat} (hk : 0 < k) (hv : val z k = (V : Int)) : (V : Int) % 2 = z 0 % 2 := by
  have key : ∀ j, val z (j + 1) % 2 = z 0 % 2 := by
    intro j
    induction j with
    | zero => simp [val]
    | succ j ih =>
      have : val z (j + 1 + 1) = val z (j + 1) + z (j + 1) * 18446744073709551616 ^ (j + 1) := rfl
      rw [this, Int.pow_succ, show z (j + 1) * (18446744073709551616 ^ j * 18446744073709551616) = 2 * (z (j + 1) * 18446744073709551616 ^ j * 9223372036854775808) by grind, Int.add_mul_emod_self_left]
      exact ih
  obtain ⟨j, rfl⟩ : ∃ j, k = j + 1 := ⟨k - 1, by omega⟩
  rw [← hv]; exact key j
set_option maxHeartbeats 400000 in
theorem q2_nv {K V : Nat} {v : Value} {w : World} (hK : K < 1000000) (h : NV K V v w) :
    Calls Tryd.prog 100 #[v] w fun e w' => e = .returned (.bool (decide (V % 2 = 1))) ∧ w = w' := by
  obtain ⟨g, k, cap, z, rfl, hk, hN, hv⟩ := h
  by_cases hk0 : k = 0
  · subst hk0
    obtain rfl : V = 0 := by have : val z 0 = 0 := rfl; omega
    go_enter Tryd.func100, Tryd.ntmps100
    go_wp2
    go_ret
    exact ⟨by simp, rfl⟩
  · have ho := val_odd (by omega) hv
    have hc : g < w.heap.size ∧ w.cell? ⟨g, 0, none⟩ = some (.int .u64 (z 0)) := by
      rcases hN.2.2.2.2 with ⟨h, _⟩ | ⟨b', off', h, hbs, hc⟩
      · cases h
      · cases h; exact ⟨hbs, by simpa using hc 0 (by omega)⟩
    obtain ⟨hgb, hcc⟩ := hc
    have hz := hN.2.2.1 0
    have hki : (0 : Int) < k := by omega
    have hcap := hN.1
    have HO : Hid (decide (V % 2 = 1) = (z 0 % 2 == 1)) := by
      show _ = _
      by_cases h : z 0 % 2 = 1
      · rw [h]; simp; omega
      · rw [decide_eq_false (by omega)]; simp [h]
    clear hN ho hv
    go_enter Tryd.func100, Tryd.ntmps100
    go_wp2
    go_ret
    exact ⟨by rw [HO.out]; simp, rfl⟩
attribute [local irreducible] NV NT
section
variable (d hv : Int) (s odd : Bool) (va vb : Value) (Q : Nat) (w : World)
  (c99 : Calls Tryd.prog 99 #[va, vb] w fun e w1 => ∃ q g k cap, e = .returned (.tuple #[q, .slice (some ⟨g, 0, none⟩) k cap]) ∧ k ≠ 0 ∧ NV 41000 Q q w1 ∧ Below w.heap.size w w1 ∧ Calls Tryd.prog 84 #[.slice (some ⟨g, 0, none⟩) k cap, .int .i64 1] w1 fun e w2 => ∃ r2, e = .returned r2 ∧ Below w1.heap.size w1 w2 ∧ Calls Tryd.prog 21 #[r2, vb] w2 fun e w3 => e = .returned (.int .i64 hv) ∧ w2 = w3)
  (c100 : ∀ W q, NV 41000 Q q W → Calls Tryd.prog 100 #[q] W fun e w' => e = .returned (.bool odd) ∧ W = w')
  (c24 : ∀ W q v, NV 41000 Q q W → NV 1 1 v W → Calls Tryd.prog 24 #[q, v] W fun e w' => ∃ r, e = .returned r ∧ NV 41002 (Q + 1) r w' ∧ Below W.heap.size W w')
include c99 c100 c24
set_option maxHeartbeats 1000000 in
theorem wh_0g (h : 0 < hv) : Calls Tryd.prog 69 #[.int .i64 0, .bool s, va, vb] w fun e w' => ∃ q, e = .returned (.tuple #[q, .bool false]) ∧ NV 41002 (Q + 1) q w' ∧ Below w.heap.size w w' := by
  go_enter Tryd.func69, Tryd.ntmps69
  go_wp2_with (first
    | (go_at_call 99; refine c99.mono ?_; rintro e w1 ⟨q, g, k, cap, rfl, hk, hq, hb1, c84⟩; have hki : ((k : Int) == 0) = false := by simp; omega)
    | (go_at_call 84; refine c84.mono ?_; rintro e w2 ⟨r2, rfl, hb2, c21⟩; have hq2 := hq.next hb2; have hB2 := hb1.trans (hb2.mono hb1.size))
    | (go_at_call 21; refine c21.mono ?_; rintro e w3 ⟨rfl, rfl⟩)
    | (go_at_call 100; refine (c100 _ _ hq2).mono ?_; rintro e w4 ⟨rfl, rfl⟩)
    | (go_at_call 24; refine (c24 _ _ _ (hq2.next (below1 _ _)) (nv_uno rfl rfl (by decide))).mono ?_; rintro e w5 ⟨r5, rfl, hr5, hb5⟩))
  have hB3 := hB2.trans ((below1 w2 (.cells #[.int .u64 1] 25)).mono hB2.size)
  exact bodyPost_ret (v := .tuple #[r5, .bool false]) (by simp only [results, Tryd.results69]; go_simp) rfl ⟨_, rfl, hr5, hB3.trans (hb5.mono hB3.size)⟩
set_option maxHeartbeats 1000000 in
theorem wh_0eo (h : hv = 0) (h1 : odd = true) : Calls Tryd.prog 69 #[.int .i64 0, .bool s, va, vb] w fun e w' => ∃ q, e = .returned (.tuple #[q, .bool false]) ∧ NV 41002 (Q + 1) q w' ∧ Below w.heap.size w w' := by
  subst h h1
  go_enter Tryd.func69, Tryd.ntmps69
  go_wp2_with (first
    | (go_at_call 99; refine c99.mono ?_; rintro e w1 ⟨q, g, k, cap, rfl, hk, hq, hb1, c84⟩; have hki : ((k : Int) == 0) = false := by simp; omega)
    | (go_at_call 84; refine c84.mono ?_; rintro e w2 ⟨r2, rfl, hb2, c21⟩; have hq2 := hq.next hb2; have hB2 := hb1.trans (hb2.mono hb1.size))
    | (go_at_call 21; refine c21.mono ?_; rintro e w3 ⟨rfl, rfl⟩)
    | (go_at_call 100; refine (c100 _ _ hq2).mono ?_; rintro e w4 ⟨rfl, rfl⟩)
    | (go_at_call 24; refine (c24 _ _ _ (hq2.next (below1 _ _)) (nv_uno rfl rfl (by decide))).mono ?_; rintro e w5 ⟨r5, rfl, hr5, hb5⟩))
  have hB3 := hB2.trans ((below1 w2 (.cells #[.int .u64 1] 25)).mono hB2.size)
  exact bodyPost_ret (v := .tuple #[r5, .bool false]) (by simp only [results, Tryd.results69]; go_simp) rfl ⟨_, rfl, hr5, hB3.trans (hb5.mono hB3.size)⟩
set_option maxHeartbeats 1000000 in
theorem wh_0en (h : hv = 0) (h1 : odd = false) : Calls Tryd.prog 69 #[.int .i64 0, .bool s, va, vb] w fun e w' => ∃ q, e = .returned (.tuple #[q, .bool false]) ∧ NV 41002 (Q) q w' ∧ Below w.heap.size w w' := by
  subst h h1
  go_enter Tryd.func69, Tryd.ntmps69
  go_wp2_with (first
    | (go_at_call 99; refine c99.mono ?_; rintro e w1 ⟨q, g, k, cap, rfl, hk, hq, hb1, c84⟩; have hki : ((k : Int) == 0) = false := by simp; omega)
    | (go_at_call 84; refine c84.mono ?_; rintro e w2 ⟨r2, rfl, hb2, c21⟩; have hq2 := hq.next hb2; have hB2 := hb1.trans (hb2.mono hb1.size))
    | (go_at_call 21; refine c21.mono ?_; rintro e w3 ⟨rfl, rfl⟩)
    | (go_at_call 100; refine (c100 _ _ hq2).mono ?_; rintro e w4 ⟨rfl, rfl⟩)
    | (go_at_call 24; refine (c24 _ _ _ (hq2.next (below1 _ _)) (nv_uno rfl rfl (by decide))).mono ?_; rintro e w5 ⟨r5, rfl, hr5, hb5⟩))
  exact bodyPost_ret (v := .tuple #[q, .bool false]) (by simp only [results, Tryd.results69]; go_simp) rfl ⟨_, rfl, hq2.more (by decide), hB2⟩
set_option maxHeartbeats 1000000 in
theorem wh_0l (h : ¬ 0 < hv) (h1 : (hv == 0) = false) : Calls Tryd.prog 69 #[.int .i64 0, .bool s, va, vb] w fun e w' => ∃ q, e = .returned (.tuple #[q, .bool false]) ∧ NV 41002 (Q) q w' ∧ Below w.heap.size w w' := by
  go_enter Tryd.func69, Tryd.ntmps69
  go_wp2_with (first
    | (go_at_call 99; refine c99.mono ?_; rintro e w1 ⟨q, g, k, cap, rfl, hk, hq, hb1, c84⟩; have hki : ((k : Int) == 0) = false := by simp; omega)
    | (go_at_call 84; refine c84.mono ?_; rintro e w2 ⟨r2, rfl, hb2, c21⟩; have hq2 := hq.next hb2; have hB2 := hb1.trans (hb2.mono hb1.size))
    | (go_at_call 21; refine c21.mono ?_; rintro e w3 ⟨rfl, rfl⟩)
    | (go_at_call 100; refine (c100 _ _ hq2).mono ?_; rintro e w4 ⟨rfl, rfl⟩)
    | (go_at_call 24; refine (c24 _ _ _ (hq2.next (below1 _ _)) (nv_uno rfl rfl (by decide))).mono ?_; rintro e w5 ⟨r5, rfl, hr5, hb5⟩))
  exact bodyPost_ret (v := .tuple #[q, .bool false]) (by simp only [results, Tryd.results69]; go_simp) rfl ⟨_, rfl, hq2.more (by decide), hB2⟩
set_option maxHeartbeats 1000000 in
theorem wh_1g (h : 0 ≤ hv) : Calls Tryd.prog 69 #[.int .i64 1, .bool s, va, vb] w fun e w' => ∃ q, e = .returned (.tuple #[q, .bool false]) ∧ NV 41002 (Q + 1) q w' ∧ Below w.heap.size w w' := by
  go_enter Tryd.func69, Tryd.ntmps69
  go_wp2_with (first
    | (go_at_call 99; refine c99.mono ?_; rintro e w1 ⟨q, g, k, cap, rfl, hk, hq, hb1, c84⟩; have hki : ((k : Int) == 0) = false := by simp; omega)
    | (go_at_call 84; refine c84.mono ?_; rintro e w2 ⟨r2, rfl, hb2, c21⟩; have hq2 := hq.next hb2; have hB2 := hb1.trans (hb2.mono hb1.size))
    | (go_at_call 21; refine c21.mono ?_; rintro e w3 ⟨rfl, rfl⟩)
    | (go_at_call 100; refine (c100 _ _ hq2).mono ?_; rintro e w4 ⟨rfl, rfl⟩)
    | (go_at_call 24; refine (c24 _ _ _ (hq2.next (below1 _ _)) (nv_uno rfl rfl (by decide))).mono ?_; rintro e w5 ⟨r5, rfl, hr5, hb5⟩))
  have hB3 := hB2.trans ((below1 w2 (.cells #[.int .u64 1] 25)).mono hB2.size)
  exact bodyPost_ret (v := .tuple #[r5, .bool false]) (by simp only [results, Tryd.results69]; go_simp) rfl ⟨_, rfl, hr5, hB3.trans (hb5.mono hB3.size)⟩
set_option maxHeartbeats 1000000 in
theorem wh_1l (h : ¬ 0 ≤ hv) : Calls Tryd.prog 69 #[.int .i64 1, .bool s, va, vb] w fun e w' => ∃ q, e = .returned (.tuple #[q, .bool false]) ∧ NV 41002 (Q) q w' ∧ Below w.heap.size w w' := by
  go_enter Tryd.func69, Tryd.ntmps69
  go_wp2_with (first
    | (go_at_call 99; refine c99.mono ?_; rintro e w1 ⟨q, g, k, cap, rfl, hk, hq, hb1, c84⟩; have hki : ((k : Int) == 0) = false := by simp; omega)
    | (go_at_call 84; refine c84.mono ?_; rintro e w2 ⟨r2, rfl, hb2, c21⟩; have hq2 := hq.next hb2; have hB2 := hb1.trans (hb2.mono hb1.size))
    | (go_at_call 21; refine c21.mono ?_; rintro e w3 ⟨rfl, rfl⟩)
    | (go_at_call 100; refine (c100 _ _ hq2).mono ?_; rintro e w4 ⟨rfl, rfl⟩)
    | (go_at_call 24; refine (c24 _ _ _ (hq2.next (below1 _ _)) (nv_uno rfl rfl (by decide))).mono ?_; rintro e w5 ⟨r5, rfl, hr5, hb5⟩))
  exact bodyPost_ret (v := .tuple #[q, .bool false]) (by simp only [results, Tryd.results69]; go_simp) rfl ⟨_, rfl, hq2.more (by decide), hB2⟩
set_option maxHeartbeats 1000000 in
theorem wh_2  : Calls Tryd.prog 69 #[.int .i64 2, .bool s, va, vb] w fun e w' => ∃ q, e = .returned (.tuple #[q, .bool false]) ∧ NV 41002 (Q) q w' ∧ Below w.heap.size w w' := by
  go_enter Tryd.func69, Tryd.ntmps69
  go_wp2_with (first
    | (go_at_call 99; refine c99.mono ?_; rintro e w1 ⟨q, g, k, cap, rfl, hk, hq, hb1, c84⟩; have hki : ((k : Int) == 0) = false := by simp; omega)
    | (go_at_call 84; refine c84.mono ?_; rintro e w2 ⟨r2, rfl, hb2, c21⟩; have hq2 := hq.next hb2; have hB2 := hb1.trans (hb2.mono hb1.size))
    | (go_at_call 21; refine c21.mono ?_; rintro e w3 ⟨rfl, rfl⟩)
    | (go_at_call 100; refine (c100 _ _ hq2).mono ?_; rintro e w4 ⟨rfl, rfl⟩)
    | (go_at_call 24; refine (c24 _ _ _ (hq2.next (below1 _ _)) (nv_uno rfl rfl (by decide))).mono ?_; rintro e w5 ⟨r5, rfl, hr5, hb5⟩))
  exact bodyPost_ret (v := .tuple #[q, .bool false]) (by simp only [results, Tryd.results69]; go_simp) rfl ⟨_, rfl, hq2.more (by decide), hB2⟩
set_option maxHeartbeats 1000000 in
theorem wh_3f  : Calls Tryd.prog 69 #[.int .i64 3, .bool false, va, vb] w fun e w' => ∃ q, e = .returned (.tuple #[q, .bool false]) ∧ NV 41002 (Q + 1) q w' ∧ Below w.heap.size w w' := by
  go_enter Tryd.func69, Tryd.ntmps69
  go_wp2_with (first
    | (go_at_call 99; refine c99.mono ?_; rintro e w1 ⟨q, g, k, cap, rfl, hk, hq, hb1, c84⟩; have hki : ((k : Int) == 0) = false := by simp; omega)
    | (go_at_call 84; refine c84.mono ?_; rintro e w2 ⟨r2, rfl, hb2, c21⟩; have hq2 := hq.next hb2; have hB2 := hb1.trans (hb2.mono hb1.size))
    | (go_at_call 21; refine c21.mono ?_; rintro e w3 ⟨rfl, rfl⟩)
    | (go_at_call 100; refine (c100 _ _ hq2).mono ?_; rintro e w4 ⟨rfl, rfl⟩)
    | (go_at_call 24; refine (c24 _ _ _ (hq2.next (below1 _ _)) (nv_uno rfl rfl (by decide))).mono ?_; rintro e w5 ⟨r5, rfl, hr5, hb5⟩))
  have hB3 := hB2.trans ((below1 w2 (.cells #[.int .u64 1] 25)).mono hB2.size)
  exact bodyPost_ret (v := .tuple #[r5, .bool false]) (by simp only [results, Tryd.results69]; go_simp) rfl ⟨_, rfl, hr5, hB3.trans (hb5.mono hB3.size)⟩
set_option maxHeartbeats 1000000 in
theorem wh_3t  : Calls Tryd.prog 69 #[.int .i64 3, .bool true, va, vb] w fun e w' => ∃ q, e = .returned (.tuple #[q, .bool false]) ∧ NV 41002 (Q) q w' ∧ Below w.heap.size w w' := by
  go_enter Tryd.func69, Tryd.ntmps69
  go_wp2_with (first
    | (go_at_call 99; refine c99.mono ?_; rintro e w1 ⟨q, g, k, cap, rfl, hk, hq, hb1, c84⟩; have hki : ((k : Int) == 0) = false := by simp; omega)
    | (go_at_call 84; refine c84.mono ?_; rintro e w2 ⟨r2, rfl, hb2, c21⟩; have hq2 := hq.next hb2; have hB2 := hb1.trans (hb2.mono hb1.size))
    | (go_at_call 21; refine c21.mono ?_; rintro e w3 ⟨rfl, rfl⟩)
    | (go_at_call 100; refine (c100 _ _ hq2).mono ?_; rintro e w4 ⟨rfl, rfl⟩)
    | (go_at_call 24; refine (c24 _ _ _ (hq2.next (below1 _ _)) (nv_uno rfl rfl (by decide))).mono ?_; rintro e w5 ⟨r5, rfl, hr5, hb5⟩))
  exact bodyPost_ret (v := .tuple #[q, .bool false]) (by simp only [results, Tryd.results69]; go_simp) rfl ⟨_, rfl, hq2.more (by decide), hB2⟩
set_option maxHeartbeats 1000000 in
theorem wh_4t  : Calls Tryd.prog 69 #[.int .i64 4, .bool true, va, vb] w fun e w' => ∃ q, e = .returned (.tuple #[q, .bool false]) ∧ NV 41002 (Q + 1) q w' ∧ Below w.heap.size w w' := by
  go_enter Tryd.func69, Tryd.ntmps69
  go_wp2_with (first
    | (go_at_call 99; refine c99.mono ?_; rintro e w1 ⟨q, g, k, cap, rfl, hk, hq, hb1, c84⟩; have hki : ((k : Int) == 0) = false := by simp; omega)
    | (go_at_call 84; refine c84.mono ?_; rintro e w2 ⟨r2, rfl, hb2, c21⟩; have hq2 := hq.next hb2; have hB2 := hb1.trans (hb2.mono hb1.size))
    | (go_at_call 21; refine c21.mono ?_; rintro e w3 ⟨rfl, rfl⟩)
    | (go_at_call 100; refine (c100 _ _ hq2).mono ?_; rintro e w4 ⟨rfl, rfl⟩)
    | (go_at_call 24; refine (c24 _ _ _ (hq2.next (below1 _ _)) (nv_uno rfl rfl (by decide))).mono ?_; rintro e w5 ⟨r5, rfl, hr5, hb5⟩))
  have hB3 := hB2.trans ((below1 w2 (.cells #[.int .u64 1] 25)).mono hB2.size)
  exact bodyPost_ret (v := .tuple #[r5, .bool false]) (by simp only [results, Tryd.results69]; go_simp) rfl ⟨_, rfl, hr5, hB3.trans (hb5.mono hB3.size)⟩
set_option maxHeartbeats 1000000 in
theorem wh_4f  : Calls Tryd.prog 69 #[.int .i64 4, .bool false, va, vb] w fun e w' => ∃ q, e = .returned (.tuple #[q, .bool false]) ∧ NV 41002 (Q) q w' ∧ Below w.heap.size w w' := by
  go_enter Tryd.func69, Tryd.ntmps69
  go_wp2_with (first
    | (go_at_call 99; refine c99.mono ?_; rintro e w1 ⟨q, g, k, cap, rfl, hk, hq, hb1, c84⟩; have hki : ((k : Int) == 0) = false := by simp; omega)
    | (go_at_call 84; refine c84.mono ?_; rintro e w2 ⟨r2, rfl, hb2, c21⟩; have hq2 := hq.next hb2; have hB2 := hb1.trans (hb2.mono hb1.size))
    | (go_at_call 21; refine c21.mono ?_; rintro e w3 ⟨rfl, rfl⟩)
    | (go_at_call 100; refine (c100 _ _ hq2).mono ?_; rintro e w4 ⟨rfl, rfl⟩)
    | (go_at_call 24; refine (c24 _ _ _ (hq2.next (below1 _ _)) (nv_uno rfl rfl (by decide))).mono ?_; rintro e w5 ⟨r5, rfl, hr5, hb5⟩))
  exact bodyPost_ret (v := .tuple #[q, .bool false]) (by simp only [results, Tryd.results69]; go_simp) rfl ⟨_, rfl, hq2.more (by decide), hB2⟩
end
set_option maxHeartbeats 400000 in
theorem wh_z (d : Int) (s : Bool) (va vb : Value) (Q : Nat) (w : World)
    (c99 : Calls Tryd.prog 99 #[va, vb] w fun e w1 => ∃ q g cap, e = .returned (.tuple #[q, .slice (some ⟨g, 0, none⟩) 0 cap]) ∧ NV 41000 Q q w1 ∧ Below w.heap.size w w1) :
    Calls Tryd.prog 69 #[.int .i64 d, .bool s, va, vb] w fun e w' => ∃ q, e = .returned (.tuple #[q, .bool true]) ∧ NV 41002 Q q w' ∧ Below w.heap.size w w' := by
  go_enter Tryd.func69, Tryd.ntmps69
  go_wp2_with (go_at_call 99; refine c99.mono ?_; rintro e w1 ⟨q, g, cap, rfl, hq, hb1⟩)
  exact bodyPost_ret (v := .tuple #[q, .bool true]) (by simp only [results, Tryd.results69]; go_simp) rfl ⟨_, rfl, hq.more (by decide), hb1⟩
/-- the whole number that a direction takes -/
theorem whole_nt {K A B : Nat} {va vb : Value} {w : World} (d : Int) (s : Bool) (hkn : knB d) (hK : K ≤ 20000) (h : NT K A va w) (h' : NT K B vb w) (hB : B ≠ 0) :
    Calls Tryd.prog 69 #[.int .i64 d, .bool s, va, vb] w fun e w' => ∃ q, e = .returned (.tuple #[q, .bool (decide (A % B = 0))]) ∧ NV 41002 (whC d s A B) q w' ∧ Below w.heap.size w w' := by
  have c99 := rover_nt hK h h' hB
  unfold whC
  by_cases hR : A % B = 0
  · rw [decide_eq_true hR, hR, show faB d s (decide (A / B % 2 = 1)) 0 B = false from if_pos rfl]
    rw [hR] at c99
    refine wh_z d s va vb _ w (c99.mono fun e w1 ⟨q, r, e1, e2, e3, e4⟩ => ?_)
    obtain ⟨g, k, cap, rfl, _, hz⟩ := e3.zero
    obtain rfl := hz.2 rfl
    exact ⟨q, g, cap, e1, e2, e4⟩
  · rw [decide_eq_false hR]
    have c99' : Calls Tryd.prog 99 #[va, vb] w fun e w1 => ∃ q g k cap, e = .returned (.tuple #[q, .slice (some ⟨g, 0, none⟩) k cap]) ∧ k ≠ 0 ∧ NV 41000 (A / B) q w1 ∧ Below w.heap.size w w1 ∧ Calls Tryd.prog 84 #[.slice (some ⟨g, 0, none⟩) k cap, .int .i64 1] w1 fun e w2 => ∃ r2, e = .returned r2 ∧ Below w1.heap.size w1 w2 ∧ Calls Tryd.prog 21 #[r2, vb] w2 fun e w3 => e = .returned (.int .i64 (sgn ((A % B + A % B : Nat) : Int) (B : Int))) ∧ w2 = w3 := by
      refine c99.mono fun e w1 ⟨q, r, e1, e2, e3, e4⟩ => ?_
      have c84 := rleft_nt 1 (by decide) (by decide) e3.nv
      obtain ⟨g, k, cap, rfl, _, hz⟩ := e3.zero
      refine ⟨q, g, k, cap, e1, fun hk => hR (hz.1 hk), e2, e4, c84.mono fun e w2 ⟨r2, f1, f2, f3⟩ => ⟨r2, f1, f3, ?_⟩⟩
      have := rcmp_nv (by decide) (by omega) f2.nv ((h'.next e4).next f3).nv
      rw [Nat.pow_one, Nat.mul_two] at this
      exact this
    have c100 := fun W q (hq : NV 41000 (A / B) q W) => q2_nv (by decide) hq
    have c24 := fun W q v (hq : NV 41000 (A / B) q W) (h1 : NV 1 1 v W) => radd_nv (by decide) (by decide) hq h1
    have hd : d = 0 ∨ d = 1 ∨ d = 2 ∨ d = 3 ∨ d = 4 := by unfold knB at hkn; omega
    have sw := sgn_ways ((A % B + A % B : Nat) : Int) (B : Int)
    unfold faB
    rw [if_neg hR]
    rcases hd with rfl | rfl | rfl | rfl | rfl
    · rw [if_pos rfl]
      rcases sw with ⟨a, e⟩ | ⟨a, e⟩ | ⟨a, e⟩
      · rw [decide_eq_false (show ¬ B < A % B + A % B by omega), decide_eq_false (show ¬ A % B + A % B = B by omega)]
        exact wh_0l _ s _ va vb _ w c99' c100 c24 (by omega) (by rw [e]; rfl)
      · rw [decide_eq_false (show ¬ B < A % B + A % B by omega), decide_eq_true (show A % B + A % B = B by omega)]
        cases ho : decide (A / B % 2 = 1)
        · exact wh_0en _ s _ va vb _ w c99' c100 c24 e ho
        · exact wh_0eo _ s _ va vb _ w c99' c100 c24 e ho
      · rw [decide_eq_true (show B < A % B + A % B by omega)]
        exact wh_0g _ s _ va vb _ w c99' c100 c24 (by omega)
    · rw [if_neg (show ¬ (1 : Int) = 0 by decide), if_pos (show (1 : Int) = 1 from rfl)]
      rcases sw with ⟨a, e⟩ | ⟨a, e⟩ | ⟨a, e⟩
      · rw [decide_eq_false (show ¬ B ≤ A % B + A % B by omega)]
        exact wh_1l _ s _ va vb _ w c99' c100 c24 (by omega)
      · rw [decide_eq_true (show B ≤ A % B + A % B by omega)]
        exact wh_1g _ s _ va vb _ w c99' c100 c24 (by omega)
      · rw [decide_eq_true (show B ≤ A % B + A % B by omega)]
        exact wh_1g _ s _ va vb _ w c99' c100 c24 (by omega)
    · exact wh_2 _ s _ va vb _ w c99' c100 c24
    · cases s
      · exact wh_3f _ _ va vb _ w c99' c100 c24
      · exact wh_3t _ _ va vb _ w c99' c100 c24
    · cases s
      · exact wh_4f _ _ va vb _ w c99' c100 c24
      · exact wh_4t _ _ va vb _ w c99' c100 c24
end Go.Proofs.YthcndcanahhbcaaDoor
