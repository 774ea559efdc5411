/-
  Texts that the proof leans on, joined: Wa, Wm, Wb, Npo, Str, Apn, Nrd, Rat, Rrd, Gm, Ga, Gb, Gd, Ge, Gf.
-/
import Derived.Test.YtoobncgmcnmgjaaGreatDoorJ10
import Derived.Test.YtoobncgmcnmgjaaGreatDoorJ21
import Derived.Test.YtoobncgmcnmgjaaGreatDoorJ20
import Derived.Test.YtoobncgmcnmgjaaGreatDoorJ16
import Derived.Test.YtoobncgmcnmgjaaGreatDoorJ17
import Derived.Deep.Cut
import Derived.Deep.CutRange
import Derived.Test.YtoobncgmcnmgjaaGreatDoorJ11
import Derived.Lib.RabinKarpLaws
import Derived.Test.YtoobncgmcnmgjaaGreatDoorJ6
import Derived.Test.YtoobncgmcnmgjaaGreatDoorJ2
import Derived.Test.YtoobncgmcnmgjaaGreatDoorJ4
import Derived.Test.YtoobncgmcnmgjaaGreatDoorProg
import Derived.WalkKit
import Derived.RowKit
import Derived.Deep.QuietTactic
import Derived.BigQuiet
import Derived.Lib.Strings
import Derived.Laws.IdiomStrings
import Derived.Test.YtoobncgmcnmgjaaGreatDoorJ1
set_option linter.unusedVariables false
set_option linter.unusedSectionVars false
set_option linter.unusedSimpArgs false
set_option maxRecDepth 20000
namespace Go.Proofs.YtoobncgmcnmgjaaGreatDoor
open Go.RowKit


theorem NT.more {K K' V : Nat} {v : Value} {w : World} (h : NT K V v w) (hk : K ≤ K') : NT K' V v w := by
  obtain ⟨g, k, cap, z, h1, h2, h3, h4, h5⟩ := h
  exact ⟨g, k, cap, z, h1, by omega, h3, h4, h5⟩
theorem rtimes_nt {K K' A B : Nat} {v v' : Value} {w : World} (hK : K < 1000000) (hK' : K' < 1000000) (h : NV K A v w) (h' : NV K' B v' w) :
    Calls Tryz.prog 32 #[v, v'] w fun e w' => ∃ r, e = .returned r ∧ NT (K + K' + 1) (A * B) r w' ∧ Below w.heap.size w w' := by
  obtain ⟨g, k, c, z, rfl, hk, hN, hz⟩ := h
  obtain ⟨g2, k2, c2, z2, rfl, hk2, hN2, hz2⟩ := h'
  refine (times_tr g 0 k c g2 0 k2 c2 z z2 w (by omega) (by omega) hN hN2).mono fun e w' ⟨g3, k3, cap3, z3, e1, hk3, hN3, hv3, hB, ht⟩ => ⟨_, e1, ⟨g3, k3, cap3, z3, rfl, by omega, hN3, ?_, ht⟩, hB⟩
  rw [← val_more hN3.2.2.2.1 _ hk3, hv3, hz, hz2]; simp
theorem rleft_nt {K A : Nat} {v : Value} {w : World} (s : Nat) (hK : K < 1000000) (hs : s ≤ 6300000) (h : NV K A v w) :
    Calls Tryz.prog 33 #[v, .int .i64 s] w fun e w' => ∃ r, e = .returned r ∧ NT (K + s / 64 + 1) (A * 2 ^ s) r w' ∧ Below w.heap.size w w' := by
  obtain ⟨g, k, c, z, rfl, hk, hN, hz⟩ := h
  refine (fleft_val g 0 k c s z w (by omega) (by omega) (by omega) hN).mono fun e w' ⟨g3, k3, cap3, z3, e1, hk3, hN3, hv3, hB, hf, ht⟩ => ⟨_, e1, ⟨g3, k3, cap3, z3, rfl, by rw [Int.toNat_natCast] at hk3; omega, hN3, ?_, ht⟩, hB⟩
  rw [hv3, hz, Int.toNat_natCast]; simp
theorem rcmp_nv {K K' A B : Nat} {v v' : Value} {w : World} (hK : K < 1000000) (hK' : K' < 1000000) (h : NV K A v w) (h' : NV K' B v' w) :
    Calls Tryz.prog 38 #[v, v'] w fun e w' => e = .returned (.int .i64 (sgn (A : Int) B)) ∧ w = w' := by
  obtain ⟨g, k, c, z, rfl, hk, hN, hz⟩ := h
  obtain ⟨g2, k2, c2, z2, rfl, hk2, hN2, hz2⟩ := h'
  have := rcmp_any _ _ k c k2 c2 z z2 w (by omega) (by omega) hN hN2
  rw [hz, hz2] at this
  exact this
theorem rlen_nv {K V : Nat} {v : Value} {w : World} (hK : K < 1000000) (h : NV K V v w) :
    Calls Tryz.prog 56 #[v] w fun e w' => e = .returned (.int .i64 (bl V : Int)) ∧ w = w' := by
  obtain ⟨g, k, c, z, rfl, hk, hN, hz⟩ := h
  have := rlen_num _ k c z w (by omega) hN
  rw [len_bl hN.2.2.1 hz] at this
  exact this
theorem rtrim_nt {K V : Nat} {v : Value} {w : World} (hK : K < 1000000) (h : Nt K V v w) :
    Calls Tryz.prog 49 #[v] w fun e w' => ∃ r, e = .returned r ∧ NT K V r w' ∧ Below w.heap.size w w' := by
  obtain ⟨a, k, c, z, rfl, hk, hN, hz⟩ := h
  refine (trim_any a k c z w (by omega) hN).mono fun e w' ⟨g, cap, e1, hN', hB⟩ => ⟨_, e1, ⟨g, _, cap, z, rfl, Nat.le_trans (sizeL_le z k) hk, hN', ?_, sizeL_sizeL _ _⟩, hB⟩
  rw [val_bare, hz]
end Go.Proofs.YtoobncgmcnmgjaaGreatDoor

namespace Go.Proofs.YtoobncgmcnmgjaaGreatDoor
open Go.RowKit

/-- the exponent as the document takes it -/
def clZ (x : Int) : Int := min (max x (-200000)) 200000
def sN (N : Nat) (x : Int) : Nat := N * 2 ^ (clZ x).toNat
def sD (D : Nat) (x : Int) : Nat := D * 2 ^ (-(clZ x)).toNat
end Go.Proofs.YtoobncgmcnmgjaaGreatDoor

namespace Go.Proofs.YtoobncgmcnmgjaaGreatDoor
open Go.RowKit

theorem nv_uno {W : World} {g V : Nat} {vi : Int} (hg : g = W.heap.size) (hv : vi = (V : Int)) (hb : V < 18446744073709551616) : NV 1 V (.slice (some ⟨g, 0, none⟩) 1 1) (W.alloc (.cells #[.int .u64 vi] 22)) := by
  subst hg hv
  exact ⟨_, 1, 1, oneW V, rfl, Nat.le_refl _, num_one W V (by omega), val_one1 V⟩
set_option maxHeartbeats 400000 in
theorem rpower_nt (n : Nat) (hn : n ≤ 200000) (w : World) : Calls Tryz.prog 66 #[.int .u64 2, .int .i64 (n : Int)] w fun e w' => ∃ r, e = .returned r ∧ NT 3128 (2 ^ n) r w' ∧ Below w.heap.size w w' := by
  have c84 := rleft_nt (w := w.alloc (.cells #[.int .u64 1] 22)) n (K := 1) (A := 1) (by decide) (by omega) (nv_uno rfl rfl (by decide))
  rw [Nat.one_mul] at c84
  have hb0 := below1 w (.cells #[.int .u64 1] 22)
  go_enter Tryz.func66, Tryz.ntmps66
  go_wp2_with (go_at_call 33; refine c84.mono ?_; rintro e w1 ⟨r, rfl, hr, hb1⟩)
  go_ret
  exact ⟨r, rfl, hr.more (by omega), hb0.trans (hb1.mono hb0.size)⟩
section
variable (x : Int) (vn vd : Value) (A B KK : Nat) (w : World)
set_option maxHeartbeats 1000000 in
theorem rscale_pos (h : 0 ≤ min (max x (-200000)) 200000)
    (c98 : Calls Tryz.prog 66 #[.int .u64 2, .int .i64 (min (max x (-200000)) 200000)] w fun e w' => ∃ p, e = .returned p ∧ Below w.heap.size w w' ∧ Calls Tryz.prog 32 #[vn, p] w' fun e w'' => ∃ r, e = .returned r ∧ NT KK A r w'' ∧ Below w'.heap.size w' w'') :
    Calls Tryz.prog 30 #[vn, vd, .int .u64 2, .int .i64 x] w fun e w' => ∃ r, e = .returned (.tuple #[r, vd]) ∧ NT KK A r w' ∧ Below w.heap.size w w' := by
  have hb1 : min (max x (-200000)) 200000 ≤ 200000 := by omega
  go_enter Tryz.func30, Tryz.ntmps30
  go_wp2_with (first
    | (go_at_call 66; refine c98.mono ?_; rintro e w1 ⟨p, rfl, hb1, c17⟩)
    | (go_at_call 32; refine c17.mono ?_; rintro e w2 ⟨r, rfl, hr, hb2⟩))
  exact bodyPost_ret (v := .tuple #[r, vd]) (by simp only [results, Tryz.results30]; go_simp) rfl ⟨_, rfl, hr, hb1.trans (hb2.mono hb1.size)⟩
set_option maxHeartbeats 1000000 in
theorem rscale_neg (m : Int) (hm : m = -(min (max x (-200000)) 200000)) (h : ¬ 0 ≤ min (max x (-200000)) 200000)
    (c98 : Calls Tryz.prog 66 #[.int .u64 2, .int .i64 m] w fun e w' => ∃ p, e = .returned p ∧ Below w.heap.size w w' ∧ Calls Tryz.prog 32 #[vd, p] w' fun e w'' => ∃ r, e = .returned r ∧ NT KK A r w'' ∧ Below w'.heap.size w' w'') :
    Calls Tryz.prog 30 #[vn, vd, .int .u64 2, .int .i64 x] w fun e w' => ∃ r, e = .returned (.tuple #[vn, r]) ∧ NT KK A r w' ∧ Below w.heap.size w w' := by
  have hb1 : -200000 ≤ min (max x (-200000)) 200000 := by omega
  subst hm
  go_enter Tryz.func30, Tryz.ntmps30
  go_wp2_with (first
    | (go_at_call 66; refine c98.mono ?_; rintro e w1 ⟨p, rfl, hb1, c17⟩)
    | (go_at_call 32; refine c17.mono ?_; rintro e w2 ⟨r, rfl, hr, hb2⟩))
  exact bodyPost_ret (v := .tuple #[vn, r]) (by simp only [results, Tryz.results30]; go_simp) rfl ⟨_, rfl, hr, hb1.trans (hb2.mono hb1.size)⟩
end
/-- the fraction times 2^x, as the document takes it -/
theorem rscale_nt {K N D : Nat} {vn vd : Value} {w : World} (x : Int) (hK : K ≤ 12000) (h : NT K N vn w) (h' : NT K D vd w) :
    Calls Tryz.prog 30 #[vn, vd, .int .u64 2, .int .i64 x] w fun e w' => ∃ a b, e = .returned (.tuple #[a, b]) ∧ NT (K + 3130) (sN N x) a w' ∧ NT (K + 3130) (sD D x) b w' ∧ Below w.heap.size w w' := by
  have hc : clZ x = min (max x (-200000)) 200000 := rfl
  by_cases hp : 0 ≤ min (max x (-200000)) 200000
  · have c98 := rpower_nt (clZ x).toNat (by omega) w
    rw [show ((clZ x).toNat : Int) = min (max x (-200000)) 200000 by omega] at c98
    have e0 : sD D x = D := by unfold sD; rw [show (-(clZ x)).toNat = 0 by omega, Nat.pow_zero, Nat.mul_one]
    rw [e0]
    refine (rscale_pos x vn vd (sN N x) (K + 3130) w hp (c98.mono fun e w' ⟨p, e1, e2, e3⟩ => ⟨p, e1, e3, (rtimes_nt (by omega) (by decide) (h.next e3).nv e2.nv).mono fun e w'' ⟨r, f1, f2, f3⟩ => ⟨r, f1, f2.more (by omega), f3⟩⟩)).mono fun e w' ⟨r, e1, e2, e3⟩ => ⟨_, _, e1, e2, (h'.next e3).more (by omega), e3⟩
  · have c98 := rpower_nt (-(clZ x)).toNat (by omega) w
    rw [show ((-(clZ x)).toNat : Int) = -(clZ x) by omega] at c98
    have e0 : sN N x = N := by unfold sN; rw [show (clZ x).toNat = 0 by omega, Nat.pow_zero, Nat.mul_one]
    rw [e0]
    refine (rscale_neg x vn vd (sD D x) (K + 3130) w (-(clZ x)) (by omega) hp (c98.mono fun e w' ⟨p, e1, e2, e3⟩ => ⟨p, e1, e3, (rtimes_nt (by omega) (by decide) (h'.next e3).nv e2.nv).mono fun e w'' ⟨r, f1, f2, f3⟩ => ⟨r, f1, f2.more (by omega), f3⟩⟩)).mono fun e w' ⟨r, e1, e2, e3⟩ => ⟨_, _, e1, (h.next e3).more (by omega), e2, e3⟩
set_option maxHeartbeats 1000000 in
theorem over_one (ga gb s c c' : Nat) (x y : Nat → Int) (w : World) (hs : s < 20001) (h : Num w (some ⟨ga, 0, none⟩) s c x) (h' : Num w (some ⟨gb, 0, none⟩) 1 c' y) (hys : sizeL y 1 = 1) :
    Calls Tryz.prog 34 #[.slice (some ⟨ga, 0, none⟩) s c, .slice (some ⟨gb, 0, none⟩) 1 c'] w (OvOut (val x s) (val y 1) w) := by
  have hy := h'.2.2.1
  have c31 := size_num _ 1 c' y w (by omega) h'
  rw [hys] at c31
  have hy0 : y 0 ≠ 0 := by have := sizeL_top (x := y) 1 (by omega); rw [hys] at this; exact this
  have hyb := hy 0
  have ev : val y 1 = y 0 := by simp [val]
  have c107 := small_any (some ⟨ga, 0, none⟩) s c x (y 0) w (by omega) h (by omega)
  have hc : gb < w.heap.size ∧ w.cell? ⟨gb, 0, none⟩ = some (.int .u64 (y 0)) := by
    rcases h'.2.2.2.2 with ⟨h, _⟩ | ⟨b', off', h, hbs, hc⟩
    · cases h
    · cases h; exact ⟨hbs, hc 0 (by omega)⟩
  obtain ⟨hgb, hcc⟩ := hc
  rw [ev]
  clear h h'
  go_enter Tryz.func34, Tryz.ntmps34
  go_wp2_with (first | (go_at_call 68; refine c31.mono ?_; rintro e w' ⟨rfl, rfl⟩) | (go_at_call 50; refine c107.mono ?_; rintro e w1 ⟨g, k, cap, z, g', k', cap', z', rfl, hk, hk', hN, hN', hv, hv', hB, ht⟩))
  go_ret2
  exact ⟨g, k, cap, z, g', k', cap', z', rfl, by omega, by omega, hN, hN', hv, hv', hB, ht⟩
/-- quotient and rest, the document's -/
theorem rover_nt {K N D : Nat} {vn vd : Value} {w : World} (hK : K ≤ 20000) (h : NT K N vn w) (h' : NT K D vd w) (hD : D ≠ 0) :
    Calls Tryz.prog 34 #[vn, vd] w fun e w' => ∃ q r, e = .returned (.tuple #[q, r]) ∧ NV 41000 (N / D) q w' ∧ NT 41000 (N % D) r w' ∧ Below w.heap.size w w' := by
  have hk0 := h'.zero
  obtain ⟨ga, s, c, x, rfl, hs, hN, hx, hxs⟩ := h
  obtain ⟨gb, t, c', y, rfl, ht, hN', hy, hys⟩ := h'
  have fin : ∀ e w', OvOut (val x s) (val y t) w e w' → ∃ q r, e = .returned (.tuple #[q, r]) ∧ NV 41000 (N / D) q w' ∧ NT 41000 (N % D) r w' ∧ Below w.heap.size w w' := by
    rintro e w' ⟨g, k, cap, z, g', k', cap', z', e1, hk, hk', hA, hB, hv, hv', hb, htr⟩
    refine ⟨_, _, e1, ⟨g, k, cap, z, rfl, hk, hA, ?_⟩, ⟨g', k', cap', z', rfl, hk', hB, ?_, htr⟩, hb⟩
    · rw [hv, hx, hy]; rfl
    · rw [hv', hx, hy]; rfl
  have ht0 : t ≠ 0 := by
    intro e; subst e
    have : val y 0 = 0 := rfl
    omega
  by_cases ht1 : t = 1
  · subst ht1
    exact (over_one ga gb s c c' x y w (by omega) hN hN' hys).mono fin
  · exact (over_any ga gb s c t c' x y w (by omega) (by omega) (by omega) hN hN' hxs hys).mono fin
end Go.Proofs.YtoobncgmcnmgjaaGreatDoor

namespace Go.Proofs.YtoobncgmcnmgjaaGreatDoor
open Go.RowKit
theorem p10_posN (n : Nat) : (0 : Int) < 10 ^ n := Int.pow_pos (by decide)

theorem val_ones : ∀ t, val (fun _ => 18446744073709551615) t = 18446744073709551616 ^ t - 1
  | 0 => by simp [val]
  | t + 1 => by
    show val (fun _ => 18446744073709551615) t + 18446744073709551615 * 18446744073709551616 ^ t = 18446744073709551616 ^ (t + 1) - 1
    rw [val_ones t, Int.pow_succ]; omega
/-- a trimmed number below B^t has t words at most -/
theorem size_bound {z : Nat → Int} (hz : Words z) {k t : Nat} (hs : sizeL z k = k) (hv : val z k < 18446744073709551616 ^ t) : k ≤ t := by
  rcases Nat.lt_or_ge t k with h | h
  · have := val_longer (x := fun _ => 18446744073709551615) (fun _ => (by decide : (0 : Int) ≤ 18446744073709551615 ∧ (18446744073709551615 : Int) ≤ 18446744073709551615)) hz h hs
    rw [val_ones] at this; omega
  · exact h
theorem p19 : ∀ t : Nat, (10 : Int) ^ (19 * t) ≤ 18446744073709551616 ^ t
  | 0 => by simp
  | t + 1 => by
    have ih := p19 t
    have e : (10 : Int) ^ (19 * (t + 1)) = 10 ^ (19 * t) * 10000000000000000000 := by rw [Nat.mul_add, Int.pow_add]; rfl
    rw [e, Int.pow_succ]
    have h0 := pw_pos t
    have h1 := p10_posN (19 * t)
    generalize (18446744073709551616 : Int) ^ t = A at *
    generalize (10 : Int) ^ (19 * t) = B at *
    omega
theorem pow_le10 {b : Int} (hb : 0 ≤ b) (hb2 : b ≤ 10) : ∀ e : Nat, 0 ≤ b ^ e ∧ b ^ e ≤ 10 ^ e
  | 0 => by simp
  | e + 1 => by
    have ih := pow_le10 hb hb2 e
    rw [Int.pow_succ, Int.pow_succ]
    exact ⟨Int.mul_nonneg ih.1 hb, Int.mul_le_mul ih.2 hb2 hb (Int.le_of_lt (p10_posN e))⟩
theorem pow_small {b : Int} (hb : 0 ≤ b) (hb2 : b ≤ 10) {e : Nat} (he : e ≤ 12000) : b ^ e < 18446744073709551616 ^ 632 := by
  have h1 := (pow_le10 hb hb2 e).2
  have h2 := p19 632
  have h3 : (10 : Int) ^ e < 10 ^ (19 * 632) := by
    obtain ⟨k, hk⟩ : ∃ k, 19 * 632 = e + 1 + k := ⟨19 * 632 - (e + 1), by omega⟩
    rw [hk, Int.pow_add, Int.pow_succ]
    have := p10_posN e
    have h4 := p10_posN k
    have h5 : (10 : Int) ^ e * 10 * 1 ≤ 10 ^ e * 10 * 10 ^ k := Int.mul_le_mul_of_nonneg_left (by omega) (by omega)
    omega
  exact Int.lt_of_lt_of_le (Int.lt_of_le_of_lt h1 h3) h2

set_option maxHeartbeats 1000000 in
theorem npow_two (n : Nat) (w : World) (hn : n ≤ 12000) :
    Calls Tryz.prog 114 #[.int .i64 2, .int .i64 n] w fun e w' => ∃ g k cap z, e = .returned (.tuple #[.slice (some ⟨g, 0, none⟩) k cap, .int .i64 0]) ∧ k ≤ 2001 ∧ Num w' (some ⟨g, 0, none⟩) k cap z ∧ val z k = 2 ^ n ∧ sizeL z k = k ∧ Below w.heap.size w w' := by
  have hN1 := num_one w 1 (by decide)
  have hs : sizeL (oneW 1) 1 = 1 := by simp [sizeL, oneW]
  have hsh := nshl_any _ 1 1 (oneW 1) n _ (by omega) hN1 (by omega) (by rw [hs]; omega)
  rw [val_one1, Int.one_mul, Int.toNat_natCast] at hsh
  have HB := below1 w (.cells #[.int .u64 1] 22)
  have hn' : (n : Int) ≤ 12000 := by omega
  clear hN1 hs
  go_enter Tryz.func114, Tryz.ntmps114
  go_wp2_with (go_at_call 143; refine hsh.mono ?_; rintro e w' ⟨g, k, cap, z, rfl, hk, hN, hv, hs, hB⟩)
  go_ret2
  exact ⟨g, k, cap, z, rfl, hk, hN, hv, hs, HB.trans (hB.mono HB.size)⟩

set_option maxHeartbeats 2000000 in
theorem npow_any (b : Int) (n : Nat) (w : World) (hb : b = 5 ∨ b = 10) (hn : n ≤ 12000) :
    Calls Tryz.prog 114 #[.int .i64 b, .int .i64 n] w fun e w' => ∃ g k cap z, e = .returned (.tuple #[.slice (some ⟨g, 0, none⟩) k cap, .int .i64 0]) ∧ k ≤ 2001 ∧ Num w' (some ⟨g, 0, none⟩) k cap z ∧ val z k = b ^ n ∧ sizeL z k = k ∧ Below w.heap.size w w' := by
  have hb0 : 0 ≤ b ∧ b ≤ 10 := by omega
  have hbc : b = 5 ∨ b = 10 := hb
  have hb2 : (b == 2) = false := by simp; omega
  have hN1 := num_one w 1 (by decide)
  have hBB := below1 w (.cells #[.int .u64 1] 22)
  have hn' : (n : Int) ≤ 12000 := by omega
  have hlen := Tryz.bits_Len n (w.alloc (.cells #[.int .u64 1] 22)) (by omega) (by omega)
  rw [Int.toNat_natCast] at hlen
  obtain ⟨L, hL⟩ : ∃ L, Lib.bitLen n = L := ⟨_, rfl⟩
  have hL64 : L ≤ 64 := by rw [← hL]; exact bitLen64 n
  have HLn : Hid (n / 2 ^ L = 0) := by
    show _ = _
    by_cases h0 : n = 0
    · subst h0; simp
    · have := bitLen_spec n (by omega) (by omega)
      rw [hL] at this
      exact Nat.div_eq_of_lt this.2.2.2
  rw [hL] at hlen
  clear hL
  have HS1 : Hid (sizeL (oneW 1) 1 = 1) := by show _ = _; simp [sizeL, oneW]
  have hne : (b != 2) = true := by simp; omega
  have hpick : (b != 5) = true ∧ (b != 10) = false ∨ (b != 5) = false := by rcases hb with rfl | rfl <;> decide
  have hps : ∀ e, e ≤ 12000 → b ^ e < 18446744073709551616 ^ 632 := fun e he => pow_small hb0.1 hb0.2 he
  have HPS : Hid (∀ e, e ≤ 12000 → b ^ e < 18446744073709551616 ^ 632) := hps
  clear hps hb
  rcases hpick with ⟨h5, h10⟩ | h5
  all_goals
    go_enter Tryz.func114, Tryz.ntmps114
    go_wp2_with (go_at_call 144; refine hlen.mono ?_; rintro e w' ⟨rfl, rfl⟩)
    generalize w.alloc (.cells #[.int .u64 1] 22) = wA at *
    go_loopw [6, 7, 40, 51] (fun pv iv u40 u51 wr => ∃ (k kk g p : Nat) (z : Nat → Int), k ≤ L ∧ iv = .int .i64 ((k : Int) - 1) ∧ pv = .slice (some ⟨g, 0, none⟩) kk p ∧ kk ≤ 632 ∧ Num wr (some ⟨g, 0, none⟩) kk p z ∧ sizeL z kk = kk ∧ Hid (val z kk = b ^ (n / 2 ^ k)) ∧ Below w.heap.size w wr) (fun _ iv _ _ _ => (intOf iv + 1).toNat)
    case atStart => exact ⟨L, 1, w.heap.size, 1, oneW 1, Nat.le_refl _, by go_num, rfl, by omega, hN1, HS1.out, by show _ = _; rw [val_one1, HLn.out, Int.pow_zero], hBB⟩
    case round =>
      clear hN1 hBB hlen
      obtain ⟨k, kk, g, p, z, hk, rfl, rfl, hkk, hN, hs, hv, hB⟩ := hrel
      by_cases h0 : k = 0
      · subst h0
        have HV : Hid (val z kk = b ^ n) := by show _ = _; have := hv.out; simpa using this
        have HN : Hid (Num wr (some ⟨g, 0, none⟩) kk p z) := hN
        have HS : Hid (sizeL z kk = kk) := hs
        clear hN hv hs
        go_wp2
        go_ret2
        exact ⟨g, kk, p, z, rfl, by omega, HN.out, HV.out, HS.out, hB⟩
      · obtain ⟨j, rfl⟩ : ∃ j, k = j + 1 := ⟨k - 1, by omega⟩
        have ej : ((j + 1 : Nat) : Int) - 1 = j := by omega
        rw [ej]
        obtain ⟨e, he⟩ : ∃ e, n / 2 ^ j = e := ⟨_, rfl⟩
        have hcast : (n : Int) / 2 ^ j = (e : Int) := by rw [← he, Int.natCast_ediv, powCast]
        have hen : e ≤ n := by rw [← he]; exact Nat.div_le_self _ _
        have hand := Go.Proofs.and_one e (by omega)
        have hhalf : n / 2 ^ (j + 1) = e / 2 := by rw [Nat.pow_succ, ← Nat.div_div_eq_div_mul, he]
        have m1 := nmul_any (some ⟨g, 0, none⟩) (some ⟨g, 0, none⟩) kk p kk p z z wr (by omega) (by omega) hN hN (by omega)
        have HV1 : Hid (val z kk * val z kk = b ^ (2 * (e / 2))) := by
          show _ = _
          rw [hv.out, hhalf, ← Int.pow_add]; congr 1; omega
        have HJ : Hid (j ≤ L) := by show _ ≤ _; omega
        have HE : Hid (n / 2 ^ j = e) := he
        clear ej he hhalf hN hs hv
        by_cases hodd : e % 2 = 1
        · rw [hodd] at hand
          go_wp2_with (go_at_call 115; refine m1.mono ?_; rintro e' w1 ⟨g1, k1, p1, z1, rfl, hk1, hN1, hv1, hs1, hb1⟩; clear m1)
          rw [HV1.out] at hv1
          have hk1b : k1 ≤ 632 := size_bound hN1.2.2.1 hs1 (by rw [hv1]; exact HPS.out _ (by omega))
          have hB1 := hB.trans (hb1.mono hB.size)
          have hNb := num_one w1 b (by omega)
          have hbb := below1 w1 (.cells #[.int .u64 b] 22)
          have hsb := sizeL_le (oneW b) 1
          have m2 := nmul_any (some ⟨g1, 0, none⟩) (some ⟨w1.heap.size, 0, none⟩) k1 p1 1 1 z1 (oneW b) (w1.alloc (.cells #[.int .u64 b] 22)) (by omega) (by omega) (hN1.next hbb) hNb (by omega)
          have HBB : Hid (Below w.heap.size w (w1.alloc (.cells #[.int .u64 b] 22))) := hB1.trans (hbb.mono hB1.size)
          clear hN1 hNb hbb
          go_wp2_with (go_at_call 115; refine m2.mono ?_; rintro e' w2 ⟨g2, k2, p2, z2, rfl, hk2, hN2, hv2, hs2, hb2⟩; clear m2)
          have hv3 : val z2 k2 = b ^ e := by
            rw [hv2, hv1, val_one1, ← Int.pow_succ]; congr 1; omega
          have hk2b : k2 ≤ 632 := size_bound hN2.2.2.1 hs2 (by rw [hv3]; exact HPS.out _ (by omega))
          have hB2 := HBB.out.trans (hb2.mono HBB.out.size)
          have HN2 : Hid (Num w2 (some ⟨g2, 0, none⟩) k2 p2 z2) := hN2
          clear hN2
          go_roundw
          case rel => exact ⟨j, k2, g2, p2, z2, HJ.out, by go_num, rfl, hk2b, HN2.out, hs2, by show _ = _; rw [HE.out, hv3], hB2⟩
          case measure => simp [intOf]
        · have he0 : e % 2 = 0 := by omega
          rw [he0] at hand
          go_wp2_with (go_at_call 115; refine m1.mono ?_; rintro e' w1 ⟨g1, k1, p1, z1, rfl, hk1, hN1, hv1, hs1, hb1⟩; clear m1)
          have hv3 : val z1 k1 = b ^ e := by
            rw [hv1, HV1.out]; congr 1; omega
          have hk1b : k1 ≤ 632 := size_bound hN1.2.2.1 hs1 (by rw [hv3]; exact HPS.out _ (by omega))
          have hB1 := hB.trans (hb1.mono hB.size)
          have HN1 : Hid (Num w1 (some ⟨g1, 0, none⟩) k1 p1 z1) := hN1
          clear hN1
          go_roundw
          case rel => exact ⟨j, k1, g1, p1, z1, HJ.out, by go_num, rfl, hk1b, HN1.out, hs1, by show _ = _; rw [HE.out, hv3], hB1⟩
          case measure => simp [intOf]
end Go.Proofs.YtoobncgmcnmgjaaGreatDoor

namespace Go.Proofs.YtoobncgmcnmgjaaGreatDoor
open Go.RowKit

/-- byte i of a text -/
def sb (s : ByteArray) (i : Nat) : Int := if h : i < s.size then ((s[i]'h).toNat : Int) else 0
theorem sb_lt {s : ByteArray} {i : Nat} (h : i < s.size) : ((s[i]'h).toNat : Int) = sb s i := by unfold sb; rw [dif_pos h]
/-- are the first k bytes digits? -/
def digB (s : ByteArray) : Nat → Bool
  | 0 => true
  | k + 1 => digB s k && decide (48 ≤ sb s k ∧ sb s k ≤ 57)
def isDigB (s : ByteArray) : Bool := digB s s.size && decide (0 < s.size)
end Go.Proofs.YtoobncgmcnmgjaaGreatDoor

namespace Go.Proofs.YtoobncgmcnmgjaaGreatDoor
open Go.RowKit

/-- the number that the first k bytes write -/
def numV (s : ByteArray) : Nat → Int
  | 0 => 0
  | k + 1 => numV s k * 10 + (sb s k - 48)
theorem digB_at {s : ByteArray} : ∀ (n : Nat), digB s n = true → ∀ k, k < n → 48 ≤ sb s k ∧ sb s k ≤ 57
  | 0, _, k, h => by omega
  | n + 1, hd, k, h => by
    unfold digB at hd
    simp at hd
    by_cases e : k = n
    · subst e; exact hd.2
    · exact digB_at n hd.1 k (by omega)
theorem numV_bd {s : ByteArray} : ∀ (n : Nat), digB s n = true → 0 ≤ numV s n ∧ numV s n < 10 ^ n
  | 0, _ => by simp [numV]
  | n + 1, hd => by
    have h1 := digB_at (n + 1) hd n (by omega)
    have h2 := numV_bd n (by unfold digB at hd; simp at hd; exact hd.1)
    simp only [numV]
    rw [Int.pow_succ]
    omega
theorem p10_le {a b : Nat} (h : a ≤ b) : (10 : Int) ^ a ≤ 10 ^ b := by
  have : (10 : Nat) ^ a ≤ 10 ^ b := Nat.pow_le_pow_right (by decide) h
  exact_mod_cast this
end Go.Proofs.YtoobncgmcnmgjaaGreatDoor

namespace Go.Proofs.YtoobncgmcnmgjaaGreatDoor
open Go.RowKit

theorem digB_of {s : ByteArray} : ∀ (n : Nat), (∀ k, k < n → 48 ≤ sb s k ∧ sb s k ≤ 57) → digB s n = true
  | 0, _ => rfl
  | n + 1, h => by
    unfold digB
    rw [digB_of n fun k hk => h k (by omega)]
    simp; exact h n (by omega)
theorem numV_app {s u : ByteArray} (p : Nat) : ∀ L, (∀ i, i < L → sb u i = sb s (p + i)) → numV s (p + L) = numV s p * 10 ^ L + numV u L
  | 0, _ => by simp [numV]
  | L + 1, h => by
    have e := numV_app p L fun i hi => h i (by omega)
    rw [← Nat.add_assoc]
    simp only [numV]
    rw [e, h L (by omega), Int.pow_succ]
    grind
end Go.Proofs.YtoobncgmcnmgjaaGreatDoor

namespace Go.Proofs.YtoobncgmcnmgjaaGreatDoor
open Go.RowKit

set_option maxHeartbeats 1000000 in
theorem radd_tr (a a' : Option Addr) (n c n' c' : Nat) (x y : Nat → Int) (w : World) (hn : n < 4294967290) (hn' : n' < 4294967290) (h : Num w a n c x) (h' : Num w a' n' c' y) :
    Calls Tryz.prog 18 #[.slice a n c, .slice a' n' c'] w fun e w' => ∃ g k cap, e = .returned (.slice (some ⟨g, 0, none⟩) k cap) ∧ k ≤ max n n' + 1 ∧ Num w' (some ⟨g, 0, none⟩) k cap (sumW x y) ∧ Below w.heap.size w w' ∧ sizeL (sumW x y) k = k := by
  have hx := h.2.2.1
  have hy := h'.2.2.1
  have zx := h.2.2.2.1
  have zy := h'.2.2.2.1
  obtain ⟨M, hM⟩ : ∃ M, max n n' + 1 = M := ⟨_, rfl⟩
  have hMi : max (n : Int) n' + 1 = (M : Int) := by omega
  have hMb : M < 4294967292 := by omega
  have hmk := fun w => make_any (max (n : Int) n' + 1) M hMi (by omega) w
  have hfin : ∀ (ss : Array Value), ss.size = M → (∀ j h, ss[j]'h = Value.int .u64 (sumW x y j)) → Num (w.alloc (.cells ss 22)) (some ⟨w.heap.size, 0, none⟩) M M (sumW x y) := fun ss h1 h2 => num_of_block (by omega) (sumW_words x y) (fun i hi => sumW_zero (n := max n n') hx hy (fun i hi => zx i (by omega)) (fun i hi => zy i (by omega)) i (by omega)) h1 (fun j hj => by rw [h2 j hj])
  have hw1 := fun (i : Nat) (ss : Array Value) => word_any a n c i x (w.alloc (.cells ss 22)) (h.next (below1 w _))
  have hw2 := fun (i : Nat) (ss : Array Value) => word_any a' n' c' i y (w.alloc (.cells ss 22)) (h'.next (below1 w _))
  have HM : Hid (max n n' + 1 = M) := hM
  have HZ : Hid ((arrOf (fun _ => 0) M).size = M ∧ ∀ j h, (arrOf (fun _ => 0) M)[j]'h = Value.int .u64 0) := ⟨arrOf_size _ _, fun j h => arrOf_get _ _ _ _⟩
  clear h h' zx zy hM hMi
  generalize arrOf (fun _ => 0) M = zz at *
  go_enter Tryz.func18, Tryz.ntmps18
  go_wp2
  go_loopw [6, 7, 17, 20] (fun c u7 i u20 wr => ∃ (k : Nat) (ss : Array Value), k ≤ M ∧ i = .int .i64 k ∧ c = .int .u64 (carryW x y k) ∧ ss.size = M ∧ (∀ j h, ss[j]'h = Value.int .u64 (if j < k then sumW x y j else 0)) ∧ wr = w.alloc (.cells ss 22)) (fun _ _ i _ _ => M - (intOf i).toNat)
  case atStart => exact ⟨0, zz, Nat.zero_le _, rfl, rfl, HZ.out.1, fun j h => by rw [HZ.out.2 j h]; simp, rfl⟩
  case round =>
    obtain ⟨k, ss, hk, rfl, rfl, hsz, hss, rfl⟩ := hrel
    have hcar := carryW_01 hx hy k
    by_cases h8 : k < M
    · have h8i : (k : Int) < M := by omega
      have h8s : k < ss.size := by omega
      have bx := hx k
      have b_y := hy k
      have hsk : ss[k]? = some (.int .u64 0) := by rw [Array.getElem?_eq_getElem h8s, hss k h8s, if_neg (by omega)]
      have hadd := fun w => add64 (x k) (y k) (carryW x y k) bx.1 b_y.1 hcar.1 hcar.2 w
      have hwa := hw1 k ss
      have hwb := hw2 k ss
      have HR : Hid (∀ (i : Nat) (h : i < (ss.setIfInBounds k (.int .u64 (sumW x y k))).size), (ss.setIfInBounds k (.int .u64 (sumW x y k)))[i]'h = Value.int .u64 (if i < k + 1 then sumW x y i else 0)) := set_next hss
      clear hss hw1 hw2 hfin hmk hx hy
      go_wp2_with (first | (go_at_call_of 51 (Value.slice a n c); refine hwa.mono ?_; rintro e w' ⟨rfl, rfl⟩) | (go_at_call_of 51 (Value.slice a' n' c'); refine hwb.mono ?_; rintro e w' ⟨rfl, rfl⟩))
      go_roundw
      case rel => exact ⟨k + 1, ss.setIfInBounds k (.int .u64 (sumW x y k)), by omega, by go_num, rfl, by simp [hsz], HR.out, rfl⟩
      case measure => simp [intOf]; omega
    · obtain rfl : k = M := by omega
      have hss' : ∀ j h, ss[j]'h = Value.int .u64 (sumW x y j) := by
        intro j h; rw [hss j h, if_pos (by omega)]
      have hT := trim_any _ _ _ _ _ (by omega) (hfin ss hsz hss')
      have hle := sizeL_le (sumW x y) k
      clear hss hss' hw1 hw2 hfin hmk hx hy
      go_wp2_with (go_at_call 49; refine hT.mono ?_; rintro e w1 ⟨g, cap, rfl, hN, hB⟩)
      go_ret
      exact ⟨g, _, cap, rfl, Nat.le_trans hle (Nat.le_of_eq HM.out.symm), hN, (below1 w _).trans (hB.mono (by simp)), sizeL_sizeL _ _⟩

theorem radd_vt (a a' : Option Addr) (n c n' c' : Nat) (x y : Nat → Int) (w : World) (hn : n < 4000000000) (hn' : n' < 4000000000) (h : Num w a n c x) (h' : Num w a' n' c' y) :
    Calls Tryz.prog 18 #[.slice a n c, .slice a' n' c'] w fun e w' => ∃ g k cap z, e = .returned (.slice (some ⟨g, 0, none⟩) k cap) ∧ k ≤ max n n' + 1 ∧ Num w' (some ⟨g, 0, none⟩) k cap z ∧ val z k = val x n + val y n' ∧ Below w.heap.size w w' ∧ sizeL z k = k := by
  refine (radd_tr a a' n c n' c' x y w (by omega) (by omega) h h').mono fun e w' ⟨g, k, cap, e1, hk, hN, hB, ht⟩ => ⟨g, k, cap, _, e1, hk, hN, ?_, hB, ht⟩
  have e := sum_val (x := x) (y := y) (max n n' + 1)
  rw [sum_end h.2.2.1 h'.2.2.1 h.2.2.2.1 h'.2.2.2.1 (by omega) (by omega), val_more h.2.2.2.1 _ (by omega), val_more h'.2.2.2.1 _ (by omega), val_more hN.2.2.2.1 _ hk] at e
  omega
end Go.Proofs.YtoobncgmcnmgjaaGreatDoor

namespace Go.Proofs.YtoobncgmcnmgjaaGreatDoor
open Go.RowKit

theorem num_empty (w : World) : Num (w.alloc (.cells #[] 22)) (some ⟨w.heap.size, 0, none⟩) 0 0 (fun _ => 0) :=
  ⟨Nat.le_refl _, by unfold maxLen; omega, fun _ => (by decide : (0 : Int) ≤ 0 ∧ (0 : Int) ≤ 18446744073709551615), fun _ _ => rfl, Or.inr ⟨_, 0, rfl, by simp, fun i hi => by omega⟩⟩
set_option maxRecDepth 20000 in
set_option maxHeartbeats 2000000 in
theorem number_any (s : ByteArray) (w : World) (hd : isDigB s = true) (hl : s.size ≤ 12000) :
    Calls Tryz.prog 19 #[.string s] w fun e w' => ∃ g k cap z, e = .returned (.slice (some ⟨g, 0, none⟩) k cap) ∧ k ≤ 36000 ∧ Num w' (some ⟨g, 0, none⟩) k cap z ∧ val z k = numV s s.size ∧ Below w.heap.size w w' ∧ sizeL z k = k := by
  have hl' : (s.size : Int) ≤ 12000 := by omega
  have hdig : ∀ k, k < s.size → 48 ≤ sb s k ∧ sb s k ≤ 57 := by
    unfold isDigB at hd; simp at hd; exact digB_at s.size hd.1
  have HDG : Hid (∀ k, k < s.size → 48 ≤ sb s k ∧ sb s k ≤ 57) := hdig
  have HN0 := num_empty w
  have HB0 := below1 w (.cells #[] 22)
  clear hd hdig
  go_enter Tryz.func19, Tryz.ntmps19
  go_wp2
  generalize w.alloc (.cells #[] 22) = wA at *
  go_loopw [3, 4, 5, 6] (fun t3 t4 u5 u6 wr => ∃ (p n c g : Nat) (z : Nat → Int), p ≤ s.size ∧ t3 = .slice (some ⟨g, 0, none⟩) n c ∧ t4 = .int .i64 p ∧ n ≤ 3 * p ∧ Num wr (some ⟨g, 0, none⟩) n c z ∧ val z n = numV s p ∧ Hid (sizeL z n = n) ∧ Below w.heap.size w wr) (fun _ i _ _ _ => s.size - (intOf i).toNat)
  case atStart => exact ⟨0, 0, 0, _, fun _ => 0, Nat.zero_le _, rfl, rfl, Nat.le_refl _, HN0, rfl, (show sizeL _ 0 = 0 from rfl), HB0⟩
  case round =>
    clear HN0 HB0
    obtain ⟨p, n, c, g, z, hp, rfl, rfl, hnp, hN, hv, hts, hB⟩ := hrel
    by_cases hlt : p < s.size
    · have hpi : (p : Int) < s.size := by omega
      have HN : Hid (Num wr (some ⟨g, 0, none⟩) n c z) := hN
      have HV : Hid (val z n = numV s p) := hv
      have HB : Hid (Below w.heap.size w wr) := hB
      clear hN hv hB
      go_wp2
      go_loop [4, 5, 6] (fun t4 t5 t6 => ∃ (q : Nat) (S b : Int), p + q ≤ s.size ∧ q ≤ 18 ∧ t4 = .int .i64 ((p + q : Nat) : Int) ∧ t5 = .int .u64 b ∧ t6 = .int .u64 S ∧ Hid (S = 10 ^ q ∧ numV s (p + q) = numV s p * S + b) ∧ 0 ≤ b ∧ b < S) (fun i _ _ => s.size - (intOf i).toNat)
      case atStart => exact ⟨0, 1, 0, by omega, by omega, rfl, rfl, rfl, ⟨by simp, by simp⟩, by decide, by decide⟩
      case round =>
        obtain ⟨q, S, b, hpq, hq, rfl, rfl, rfl, hSb, hb0, hbS⟩ := hrel
        have hS18 : S ≤ 1000000000000000000 := by
          have := p10_le hq
          rw [← hSb.out.1] at this
          exact this
        by_cases hgo : p + q < s.size ∧ q < 18
        · obtain ⟨hgo1, hgo2⟩ := hgo
          have hki : ((p + q : Nat) : Int) < s.size := by omega
          have hS17 : S ≤ 100000000000000000 := by
            have := p10_le (show q ≤ 17 by omega)
            rw [← hSb.out.1] at this
            exact this
          have hsb := sb_lt hgo1
          have hbd := HDG.out (p + q) hgo1
          have HSB : Hid (10 * S = 10 ^ (q + 1) ∧ numV s (p + (q + 1)) = numV s p * (10 * S) + (10 * b + (sb s (p + q) - 48))) := by
            show _ ∧ _
            obtain ⟨e1, e2⟩ := hSb.out
            refine ⟨by rw [e1, Int.pow_succ]; omega, ?_⟩
            rw [← Nat.add_assoc]
            simp only [numV]
            rw [e2]; grind
          have HPQ : Hid ((p + q : Nat) + 1 = p + (q + 1)) := rfl
          clear hSb
          generalize p + q = r at *
          go_wp2
          go_round
          case rel => exact ⟨q + 1, 10 * S, 10 * b + (sb s r - 48), by have := HPQ.out; omega, by omega, by rw [← HPQ.out]; go_num, by go_num, by go_num, HSB.out, by omega, by omega⟩
          case measure => simp [intOf]; omega
        · have hstop : ((p + q : Nat) : Int) < s.size → S = 1000000000000000000 := fun h => by
            have : q = 18 := by omega
            rw [hSb.out.1, this]; rfl
          have hq0 : 0 < q := by omega
          have hN1 := num_one wr S (by omega)
          have hT := times_raw g 0 n c wr.heap.size 0 1 1 z (oneW S) (wr.alloc (.cells #[.int .u64 S] 22)) (by omega) (by omega) (HN.out.next (below1 wr _)) hN1
          have HB1 : Hid (Below w.heap.size w (wr.alloc (.cells #[.int .u64 S] 22))) := HB.out.trans ((below1 wr _).mono HB.out.size)
          have HSV : Hid (numV s (p + q) = val z n * S + b) := by show _ = _; rw [hSb.out.2, HV.out]
          have HQ : Hid (0 < q ∧ q ≤ 18) := ⟨hq0, hq⟩
          have hpr : p < p + q := by omega
          have hnr : n + 3 ≤ 3 * (p + q) := by omega
          have hA := fun (w1 : World) (g1 k1 c1 : Nat) (z1 : Nat → Int) (hk1 : k1 ≤ n + 1 + 1) (h1 : Num w1 (some ⟨g1, 0, none⟩) k1 c1 z1) => radd_vt (some ⟨g1, 0, none⟩) (some ⟨w1.heap.size, 0, none⟩) k1 c1 1 1 z1 (oneW b) (w1.alloc (.cells #[.int .u64 b] 22)) (by omega) (by omega) (h1.next (below1 w1 _)) (num_one w1 b (by omega))
          clear hSb hgo hN1 hq hq0
          generalize p + q = r at *
          by_cases hrs : r < s.size
          · have hri : (r : Int) < s.size := by omega
            have hS := hstop hri
            subst hS
            go_wp2_with (first | (go_at_call 32; refine hT.mono ?_; rintro e w1 ⟨g1, k1, c1, z1, rfl, hk1, hN1, hv1, hB1⟩; clear hT; have hA1 := hA w1 g1 k1 c1 z1 (by omega) hN1; clear hA) | (go_at_call 18; refine hA1.mono ?_; rintro e w2 ⟨g2, k2, c2, z2, rfl, hk2, hN2, hv2, hB2, ht2⟩; clear hA1; have HT2 : Hid (sizeL z2 k2 = k2) := ht2; clear ht2))
            go_roundw
            case rel =>
              refine ⟨r, k2, c2, g2, z2, hpq, rfl, rfl, by omega, hN2, ?_, HT2, ?_⟩
              · rw [hv2, HSV.out, val_one _ 1 (by omega), ← val_more hN1.2.2.2.1 (n + 1 + 1) hk1, hv1, val_one _ 1 (by omega)]
              · have b1 := HB1.out.trans (hB1.mono HB1.out.size)
                have b2 := b1.trans ((below1 w1 (.cells #[.int .u64 b] 22)).mono b1.size)
                exact b2.trans (hB2.mono b2.size)
            case measure => simp [intOf]; omega
          · obtain rfl : r = s.size := by omega
            clear hstop
            go_wp2_with (first | (go_at_call 32; refine hT.mono ?_; rintro e w1 ⟨g1, k1, c1, z1, rfl, hk1, hN1, hv1, hB1⟩; clear hT; have hA1 := hA w1 g1 k1 c1 z1 (by omega) hN1; clear hA) | (go_at_call 18; refine hA1.mono ?_; rintro e w2 ⟨g2, k2, c2, z2, rfl, hk2, hN2, hv2, hB2, ht2⟩; clear hA1; have HT2 : Hid (sizeL z2 k2 = k2) := ht2; clear ht2))
            go_roundw
            case rel =>
              refine ⟨s.size, k2, c2, g2, z2, Nat.le_refl _, rfl, rfl, by omega, hN2, ?_, HT2, ?_⟩
              · rw [hv2, HSV.out, val_one _ 1 (by omega), ← val_more hN1.2.2.2.1 (n + 1 + 1) hk1, hv1, val_one _ 1 (by omega)]
              · have b1 := HB1.out.trans (hB1.mono HB1.out.size)
                have b2 := b1.trans ((below1 w1 (.cells #[.int .u64 b] 22)).mono b1.size)
                exact b2.trans (hB2.mono b2.size)
            case measure => simp [intOf]; omega
    · obtain rfl : p = s.size := by omega
      have HN : Hid (Num wr (some ⟨g, 0, none⟩) n c z) := hN
      have HV : Hid (val z n = numV s s.size) := hv
      have HB : Hid (Below w.heap.size w wr) := hB
      clear hN hv hB
      go_wp2
      go_ret
      exact ⟨g, n, c, z, rfl, by omega, HN.out, HV.out, HB.out, hts.out⟩
end Go.Proofs.YtoobncgmcnmgjaaGreatDoor

namespace Go.Proofs.YtoobncgmcnmgjaaGreatDoor
open Go.RowKit

/-- a text of these bytes -/
def B (l : List UInt8) : ByteArray := ⟨l.toArray⟩
theorem B_of (s : ByteArray) : B s.data.toList = s := by cases s; rfl
theorem B_size (l : List UInt8) : (B l).size = l.length := rfl
theorem B_get {l : List UInt8} {i : Nat} (h : i < (B l).size) : (B l)[i]'h = l[i]'(by rwa [B_size] at h) := by
  show (B l).data[i]'_ = _
  simp [B]
theorem B_ext (l : List UInt8) (a b : Nat) : (B l).extract a b = B ((l.take b).drop a) := by
  apply ByteArray.ext
  rw [ByteArray.data_extract]
  show l.toArray.extract a b = ((l.take b).drop a).toArray
  rw [List.extract_toArray, List.extract_eq_take_drop, List.drop_take]
theorem B_app (a b : List UInt8) : B a ++ B b = B (a ++ b) := by
  apply ByteArray.ext
  rw [ByteArray.data_append]
  show a.toArray ++ b.toArray = (a ++ b).toArray
  simp
/-- byte i -/
def by_ (l : List UInt8) (i : Nat) : Int := if h : i < l.length then ((l[i]'h).toNat : Int) else 0
theorem by_succ (c : UInt8) (r : List UInt8) (i : Nat) : by_ (c :: r) (i + 1) = by_ r i := by
  unfold by_
  by_cases h : i < r.length
  · rw [dif_pos h, dif_pos (by simpa using h)]; rfl
  · rw [dif_neg h, dif_neg (by simpa using h)]
theorem by_zero (c : UInt8) (r : List UInt8) : by_ (c :: r) 0 = (c.toNat : Int) := by simp [by_]
/-- a digit -/
def dg (c : UInt8) : Bool := decide (48 ≤ c.toNat ∧ c.toNat ≤ 57)
def rst (l : List UInt8) : List UInt8 := l.dropWhile dg
end Go.Proofs.YtoobncgmcnmgjaaGreatDoor

namespace Go.Proofs.YtoobncgmcnmgjaaGreatDoor
open Go.RowKit

theorem gbcell {W w1 : World} (hb : Below W.heap.size W w1) : (∀ b o, b < W.heap.size → w1.cell? ⟨b, o, none⟩ = W.cell? ⟨b, o, none⟩) ∧ (∀ b o, b < W.heap.size → w1.frozen? ⟨b, o, none⟩ = W.frozen? ⟨b, o, none⟩) :=
  ⟨fun b o h => hb.cell (p := ⟨b, o, none⟩) h, fun b o h => hb.frozen (p := ⟨b, o, none⟩) h⟩
theorem gbnext {w0 W W' : World} (h : Below w0.heap.size w0 W) (hb : Below W.heap.size W W') : Below w0.heap.size w0 W' := h.trans (hb.mono h.size)
theorem glt_below {n g : Nat} {W W' : World} (hb : Below n W W') (h : g < W.heap.size) : g < W'.heap.size := Nat.lt_of_lt_of_le h hb.size
theorem gcell_set_map (W : World) (b i : Nat) (v : Value) : (W.setCell ⟨b, i, none⟩ v).cell? ⟨b, i, none⟩ = (W.cell? ⟨b, i, none⟩).map fun _ => v := by
  unfold World.cell? World.setCell
  simp only [Array.getElem?_modify, if_true]
  cases h : W.heap[b]? with
  | none => simp
  | some o =>
    cases o with
    | cells c e fr =>
      simp only [Option.map_some, Option.isSome_none, Bool.false_eq_true, if_false]
      by_cases hi : i < c.size
      · simp [hi]
      · simp [hi]
    | _ => simp
theorem B_toList (l : List UInt8) : (B l).toList = l := by rw [Lib.toList_data]; rfl

/-- are all digits? -/
def isd (l : List UInt8) : Bool := l.all dg && !l.isEmpty
theorem all_dg (l : List UInt8) : l.all dg = true ↔ ∀ i, i < l.length → 48 ≤ by_ l i ∧ by_ l i ≤ 57 := by
  rw [List.all_eq_true]
  constructor
  · intro h i hi
    have := h _ (List.getElem_mem hi)
    unfold dg at this; simp at this
    unfold by_; rw [dif_pos hi]; omega
  · intro h c hc
    obtain ⟨i, hi, rfl⟩ := List.getElem_of_mem hc
    have := h i hi
    unfold by_ at this; rw [dif_pos hi] at this
    unfold dg; simp; omega
end Go.Proofs.YtoobncgmcnmgjaaGreatDoor

namespace Go.Proofs.YtoobncgmcnmgjaaGreatDoor
open Go.RowKit

/-- the number of digits -/
def nv (l : List UInt8) : Int := l.foldl (fun v c => 10 * v + ((c.toNat : Int) - 48)) 0
/-- the number of digits, or two thousand millions -/
def vc (l : List UInt8) : Int := min (nv l) 2000000000
end Go.Proofs.YtoobncgmcnmgjaaGreatDoor

namespace Go.Proofs.YtoobncgmcnmgjaaGreatDoor
open Go.RowKit

theorem B_drop (l : List UInt8) (k : Nat) : (B l).extract k (B l).size = B (l.drop k) := by
  rw [B_ext, B_size, List.take_length]
end Go.Proofs.YtoobncgmcnmgjaaGreatDoor

namespace Go.Proofs.YtoobncgmcnmgjaaGreatDoor
open Go.RowKit

/-- block g holds n bytes, which may be written -/
structure By (g n : Nat) (x : Nat → Int) (W : World) : Prop where
  lt : g < W.heap.size
  cell : ∀ j, j < n → W.cell? ⟨g, j, none⟩ = some (.int .u8 (x j))
  frz : ∀ j, j < n → W.frozen? ⟨g, j, none⟩ = false
theorem By.set {g n : Nat} {x : Nat → Int} {W : World} (h : By g n x W) (i : Nat) (v : Int) : By g n (fun j => if j = i then v else x j) (W.setCell ⟨g, i, none⟩ (.int .u8 v)) := by
  refine ⟨by simpa using h.lt, fun j hj => ?_, fun j hj => by rw [World.frozen?_setCell]; exact h.frz j hj⟩
  show _ = some (Value.int .u8 (if j = i then v else x j))
  by_cases e : j = i
  · subst e
    rw [if_pos rfl]
    exact World.cell?_setCell_same (h := h.cell j hj) ..
  · rw [if_neg e]
    exact (World.cell?_setCell_other (h := by intro h; cases h; exact e rfl) ..).trans (h.cell j hj)
theorem By.of {l : List UInt8} {w : World} {cap : Nat} : By w.heap.size l.length (by_ l) (w.drew.alloc (.cells (bytesRow (B l) cap) 5 ((bytesRow (B l) cap).size, (bytesRow (B l) cap).size + 1))) := by
  have hsz : l.length ≤ (bytesRow (B l) cap).size := by unfold bytesRow; simp [B]
  refine ⟨by simp, fun j hj => ?_, fun j hj => ?_⟩
  · have : (bytesRow (B l) cap)[j]? = some (.int .u8 (by_ l j)) := by
      unfold bytesRow by_
      rw [dif_pos hj, Array.getElem?_append_left (by simpa [B] using hj)]
      simp [B, hj]
    have hh : (w.drew.alloc (.cells (bytesRow (B l) cap) 5 ((bytesRow (B l) cap).size, (bytesRow (B l) cap).size + 1))).heap[w.heap.size]? = some (.cells (bytesRow (B l) cap) 5 ((bytesRow (B l) cap).size, (bytesRow (B l) cap).size + 1)) := by
      show (Array.push w.heap _)[w.heap.size]? = _
      simp
    unfold World.cell?
    simp only [hh]
    simp [this]
  · have hh : (w.drew.alloc (.cells (bytesRow (B l) cap) 5 ((bytesRow (B l) cap).size, (bytesRow (B l) cap).size + 1))).heap[w.heap.size]? = some (.cells (bytesRow (B l) cap) 5 ((bytesRow (B l) cap).size, (bytesRow (B l) cap).size + 1)) := by
      show (Array.push w.heap _)[w.heap.size]? = _
      simp
    unfold World.frozen?
    simp only [hh]
    simp
    omega
end Go.Proofs.YtoobncgmcnmgjaaGreatDoor

namespace Go.Proofs.YtoobncgmcnmgjaaGreatDoor
open Go.RowKit

/-- parts, as a value -/
def PV (c : Int) (s g : Bool) (d : List UInt8) (e : Int) : Value := .agg #[.int .i64 c, .bool s, .bool g, .string (B d), .int .i64 e]
def behind (s : List UInt8) : List UInt8 := if Lib.hasPrefix (rst s) [46] then rst (Lib.trimPrefix (rst s) [46]) else rst s
end Go.Proofs.YtoobncgmcnmgjaaGreatDoor
