/-
  Texts that the proof leans on, joined: Wa, Cc, Sa, Wb, Gm, Gb, Ge, Gf, Gh, Gv, Xc, Sc.
-/
import Derived.Test.YtkefmapcaggefaaGreatDoorJ10
import Derived.Test.YtkefmapcaggefaaGreatDoorJ28
import Derived.Test.YtkefmapcaggefaaGreatDoorJ22
import Derived.Test.YtkefmapcaggefaaGreatDoorJ26
import Derived.Test.YtkefmapcaggefaaGreatDoorJ25
import Derived.Test.YtkefmapcaggefaaGreatDoorJ1
import Derived.Test.YtkefmapcaggefaaGreatDoorJ23
import Derived.Deep.Cut
import Derived.Deep.CutRange
import Derived.Test.YtkefmapcaggefaaGreatDoorProg
import Derived.WalkKit
import Derived.RowKit
import Derived.Deep.QuietTactic
import Derived.BigQuiet
import Derived.Lib.Strings
import Derived.Laws.IdiomStrings
import Derived.RegionTactic
import Derived.ChangeAlike
import Derived.BigRegion
import Derived.Laws.Strings2
import Derived.Lib.AppendStr
import Derived.Lib.Builder
import Derived.Deep.AppendLies
import Derived.Lib.ItoaLen
import Derived.Test.YtkefmapcaggefaaGreatDoorJ11
import Derived.Lib.RabinKarpLaws
import Derived.Test.YtkefmapcaggefaaGreatDoorJ6
import Derived.Test.YtkefmapcaggefaaGreatDoorJ3
import Derived.Deep.RegionWith
set_option linter.unusedVariables false
set_option linter.unusedSectionVars false
set_option linter.unusedSimpArgs false
set_option maxRecDepth 20000
namespace Go.Proofs.YtkefmapcaggefaaGreatDoor
open Go.RowKit


theorem NT.more {K K' V : Nat} {v : Value} {w : World} (h : NT K V v w) (hk : K ≤ K') : NT K' V v w := by
  obtain ⟨g, k, cap, z, h1, h2, h3, h4, h5⟩ := h
  exact ⟨g, k, cap, z, h1, by omega, h3, h4, h5⟩
theorem rtimes_nt {K K' A B : Nat} {v v' : Value} {w : World} (hK : K < 1000000) (hK' : K' < 1000000) (h : NV K A v w) (h' : NV K' B v' w) :
    Calls Tryz.prog 67 #[v, v'] w fun e w' => ∃ r, e = .returned r ∧ NT (K + K' + 1) (A * B) r w' ∧ Below w.heap.size w w' := by
  obtain ⟨g, k, c, z, rfl, hk, hN, hz⟩ := h
  obtain ⟨g2, k2, c2, z2, rfl, hk2, hN2, hz2⟩ := h'
  refine (times_tr g 0 k c g2 0 k2 c2 z z2 w (by omega) (by omega) hN hN2).mono fun e w' ⟨g3, k3, cap3, z3, e1, hk3, hN3, hv3, hB, ht⟩ => ⟨_, e1, ⟨g3, k3, cap3, z3, rfl, by omega, hN3, ?_, ht⟩, hB⟩
  rw [← val_more hN3.2.2.2.1 _ hk3, hv3, hz, hz2]; simp
theorem rleft_nt {K A : Nat} {v : Value} {w : World} (s : Nat) (hK : K < 1000000) (hs : s ≤ 6300000) (h : NV K A v w) :
    Calls Tryz.prog 64 #[v, .int .i64 s] w fun e w' => ∃ r, e = .returned r ∧ NT (K + s / 64 + 1) (A * 2 ^ s) r w' ∧ Below w.heap.size w w' := by
  obtain ⟨g, k, c, z, rfl, hk, hN, hz⟩ := h
  refine (fleft_val g 0 k c s z w (by omega) (by omega) (by omega) hN).mono fun e w' ⟨g3, k3, cap3, z3, e1, hk3, hN3, hv3, hB, hf, ht⟩ => ⟨_, e1, ⟨g3, k3, cap3, z3, rfl, by rw [Int.toNat_natCast] at hk3; omega, hN3, ?_, ht⟩, hB⟩
  rw [hv3, hz, Int.toNat_natCast]; simp
theorem rcmp_nv {K K' A B : Nat} {v v' : Value} {w : World} (hK : K < 1000000) (hK' : K' < 1000000) (h : NV K A v w) (h' : NV K' B v' w) :
    Calls Tryz.prog 89 #[v, v'] w fun e w' => e = .returned (.int .i64 (sgn (A : Int) B)) ∧ w = w' := by
  obtain ⟨g, k, c, z, rfl, hk, hN, hz⟩ := h
  obtain ⟨g2, k2, c2, z2, rfl, hk2, hN2, hz2⟩ := h'
  have := rcmp_any _ _ k c k2 c2 z z2 w (by omega) (by omega) hN hN2
  rw [hz, hz2] at this
  exact this
theorem rlen_nv {K V : Nat} {v : Value} {w : World} (hK : K < 1000000) (h : NV K V v w) :
    Calls Tryz.prog 61 #[v] w fun e w' => e = .returned (.int .i64 (bl V : Int)) ∧ w = w' := by
  obtain ⟨g, k, c, z, rfl, hk, hN, hz⟩ := h
  have := rlen_num _ k c z w (by omega) hN
  rw [len_bl hN.2.2.1 hz] at this
  exact this
theorem rtrim_nt {K V : Nat} {v : Value} {w : World} (hK : K < 1000000) (h : Nt K V v w) :
    Calls Tryz.prog 66 #[v] w fun e w' => ∃ r, e = .returned r ∧ NT K V r w' ∧ Below w.heap.size w w' := by
  obtain ⟨a, k, c, z, rfl, hk, hN, hz⟩ := h
  refine (trim_any a k c z w (by omega) hN).mono fun e w' ⟨g, cap, e1, hN', hB⟩ => ⟨_, e1, ⟨g, _, cap, z, rfl, Nat.le_trans (sizeL_le z k) hk, hN', ?_, sizeL_sizeL _ _⟩, hB⟩
  rw [val_bare, hz]
theorem rright1_nv {K A : Nat} {v : Value} {w : World} (hK : K < 1000000) (h : NV K A v w) :
    Calls Tryz.prog 62 #[v, .int .i64 1] w fun e w' => ∃ v' b, e = .returned (.tuple #[v', .bool b]) ∧ NV K (A / 2) v' w' ∧ Below w.heap.size w w' := by
  obtain ⟨g, k, cap, z, rfl, hk, hN, hv⟩ := h
  refine (right_p g 0 k cap 0 1 1 z w (by omega) (by omega) (by omega) (by omega) (by decide) (by decide) (by decide) hN).mono ?_
  rintro e w' ⟨g', k', cap', b, rfl, hk', hN', hb⟩
  refine ⟨_, b, rfl, ⟨g', k', cap', _, rfl, by omega, hN', ?_⟩, hb⟩
  rw [← val_more hN'.2.2.2.1 k hk']
  have := shrW_val hN.2.2.1 hN.2.2.2.1 (r := 1) (q := 0) (by omega) k (Nat.le_refl _) hv
  simpa using this
end Go.Proofs.YtkefmapcaggefaaGreatDoor

namespace Go.Proofs.YtkefmapcaggefaaGreatDoor
open Go.RowKit
attribute [local irreducible] W4 NT NV

theorem DV_nul (c : Int) (s g : Bool) (x : Int) : DV c s g x 0 = .agg #[.int .i64 c, .bool s, .bool g, .int .i64 x, .int .u64 0, .int .u64 0, .int .u64 0, .int .u64 0] := by
  unfold DV; simp only [W4_zero]
set_option maxHeartbeats 400000 in
theorem rpow4 (p : Nat) (w : World) (hp : p ≤ 12000) : Calls Tryz.prog 90 #[.int .i64 2, .int .i64 p] w fun r w' => ∃ v, r = .returned v ∧ NV 50000 (2 ^ p) v w' ∧ Below w.heap.size w w' := by
  have c := fun W => rpow_nv p W hp
  go_enter Tryz.func90, Tryz.ntmps90
  go_wp2_with (go_at_call 36; refine (c _).mono ?_; rintro r w1 ⟨v, rfl, hv, hb1⟩)
  go_ret
  exact ⟨v, rfl, hv, hb1⟩
theorem sgn_lt (A B : Nat) : decide (sgn (A : Int) (B : Int) < 0) = decide (A < B) := by
  rcases sgn_ways (A : Int) (B : Int) with ⟨a, e⟩ | ⟨a, e⟩ | ⟨a, e⟩
  · rw [e, decide_eq_true (show A < B by omega)]; rfl
  · rw [e, decide_eq_false (show ¬ A < B by omega)]; rfl
  · rw [e, decide_eq_false (show ¬ A < B by omega)]; rfl
set_option maxHeartbeats 1000000 in
theorem rbelow_v (k p : Nat) (w : World) (hk : k < 2 ^ 256) (hp : p ≤ 12000) : Calls Tryz.prog 70 #[A4 k, .int .i64 2, .int .i64 p] w fun r w' => r = .returned (.bool (decide (k < 2 ^ p))) ∧ Below w.heap.size w w' := by
  have c1 := fun W => rpow4 p W hp
  have hs := sgn_lt k (2 ^ p)
  go_enter Tryz.func70, Tryz.ntmps70
  go_wp2
  go_region_with (first
    | (go_at_call 90; refine (c1 _).mono ?_; rintro e w1 ⟨v1, rfl, hl, hb1⟩; have hbx := box_nv (w0 := w) (B := k) (t := 24) hk (bnext bgo hb1); obtain ⟨hc1, hf1⟩ := bcell hb1; have hz1_0 : w.heap.size < w1.heap.size := lt_below hb1 ltg; have hl1_0 := Nat.le_of_lt hz1_0; have hA1 := bnext (w0 := w) bgo hb1; have hs1 := hA1.size; clear hb1)
    | (go_at_call 89; refine (rcmp_nv (by decide) (by decide) hbx hl).mono ?_; rintro e w2 ⟨rfl, rfl⟩))
  go_wp2
  go_ret
  exact ⟨congrArg (fun b => Ending.returned (.bool b)) hs, bgo⟩
section
variable (t : Int) (nm : ByteArray) (wd : Int) (f e : Nat) (l m : Int) (c x : Int) (s g : Bool) (k : Nat) (w : World)
  (c18 : ∀ W, Calls Tryz.prog 31 #[.int .i64 t] W fun r w' => r = .returned (.tuple #[IV t nm wd f e l m, .int .i64 0]) ∧ Below W.heap.size W w')
include c18
set_option maxHeartbeats 1000000 in
theorem rnan_y (c67 : ∀ W, Calls Tryz.prog 70 #[A4 k, .int .i64 2, .int .i64 ((f : Int) - 1)] W fun r w' => r = .returned (.bool true) ∧ Below W.heap.size W w') :
    Calls Tryz.prog 38 #[.int .i64 t, DV c s g x k] w fun r w' => r = .returned (.tuple #[DV c s false x k, .int .i64 (if g then 1 else 0)]) ∧ Below w.heap.size w w' := by
  have hsm := cell_set_map
  unfold A4 at c67
  cases g
  all_goals (
    go_enter Tryz.func38, Tryz.ntmps38
    go_wp2_with (first
      | (go_at_call 31; refine (c18 _).mono ?_; rintro r w1 ⟨rfl, hb1⟩; obtain ⟨hc1, hf1⟩ := bcell hb1; have hz1_0 : w.heap.size < w1.heap.size := lt_below hb1 ltg; have hl1_0 := Nat.le_of_lt hz1_0; have hz1_1 : w.heap.size + 1 < w1.heap.size := lt_below hb1 ltg; have hl1_1 := Nat.le_of_lt hz1_1; have hA1 := bnext (w0 := w) bgo hb1; have hs1 := hA1.size; clear hb1)
      | (go_at_call 70; refine (c67 _).mono ?_; rintro r w2 ⟨rfl, hb2⟩; obtain ⟨hc2, hf2⟩ := bcell hb2; have hz2_0 : w.heap.size < w2.heap.size := lt_below hb2 ltg; have hl2_0 := Nat.le_of_lt hz2_0; have hz2_1 : w.heap.size + 1 < w2.heap.size := lt_below hb2 ltg; have hl2_1 := Nat.le_of_lt hz2_1; have hz2_2 : w1.heap.size < w2.heap.size := lt_below hb2 ltg; have hl2_2 := Nat.le_of_lt hz2_2; have hA2 := bnext (w0 := w) bgo hb2; have hs2 := hA2.size; clear hb2))
    exact bodyPost_ret (by simp only [results, Tryz.results38]; go_simp) rfl ⟨rfl, bgo⟩)
set_option maxHeartbeats 1000000 in
theorem rnan_n (c67 : ∀ W, Calls Tryz.prog 70 #[A4 k, .int .i64 2, .int .i64 ((f : Int) - 1)] W fun r w' => r = .returned (.bool false) ∧ Below W.heap.size W w') :
    Calls Tryz.prog 38 #[.int .i64 t, DV c s g x k] w fun r w' => r = .returned (.tuple #[.agg #[.int .i64 c, .bool s, .bool false, .int .i64 x, .int .u64 0, .int .u64 0, .int .u64 0, .int .u64 0], .int .i64 (if g then 1 else 0)]) ∧ Below w.heap.size w w' := by
  have hsm := cell_set_map
  unfold A4 at c67
  cases g
  all_goals (
    go_enter Tryz.func38, Tryz.ntmps38
    go_wp2_with (first
      | (go_at_call 31; refine (c18 _).mono ?_; rintro r w1 ⟨rfl, hb1⟩; obtain ⟨hc1, hf1⟩ := bcell hb1; have hz1_0 : w.heap.size < w1.heap.size := lt_below hb1 ltg; have hl1_0 := Nat.le_of_lt hz1_0; have hz1_1 : w.heap.size + 1 < w1.heap.size := lt_below hb1 ltg; have hl1_1 := Nat.le_of_lt hz1_1; have hA1 := bnext (w0 := w) bgo hb1; have hs1 := hA1.size; clear hb1)
      | (go_at_call 70; refine (c67 _).mono ?_; rintro r w2 ⟨rfl, hb2⟩; obtain ⟨hc2, hf2⟩ := bcell hb2; have hz2_0 : w.heap.size < w2.heap.size := lt_below hb2 ltg; have hl2_0 := Nat.le_of_lt hz2_0; have hz2_1 : w.heap.size + 1 < w2.heap.size := lt_below hb2 ltg; have hl2_1 := Nat.le_of_lt hz2_1; have hz2_2 : w1.heap.size < w2.heap.size := lt_below hb2 ltg; have hl2_2 := Nat.le_of_lt hz2_2; have hA2 := bnext (w0 := w) bgo hb2; have hs2 := hA2.size; clear hb2))
    exact bodyPost_ret (by simp only [results, Tryz.results38]; go_simp) rfl ⟨rfl, bgo⟩)
end
theorem rnan_v {t : Int} (hb : binN t) (c x : Int) (s g : Bool) (k : Nat) (hk : k < 2 ^ 256) (w : World) :
    Calls Tryz.prog 38 #[.int .i64 t, DV c s g x k] w fun r w' => r = .returned (.tuple #[DV c s false x (if k < 2 ^ (fN t - 1) then k else 0), .int .i64 (if g then 1 else 0)]) ∧ Below w.heap.size w w' := by
  have c18 := fun W => rof_bin hb W
  have hf := fN_two hb
  have hf2 : fN t ≤ 240 := by rcases bin_cases hb with rfl | rfl | rfl | rfl | rfl | rfl <;> decide
  have c67 := fun W => rbelow_v k (fN t - 1) W hk (by omega)
  rw [show ((fN t - 1 : Nat) : Int) = (fN t : Int) - 1 by omega] at c67
  by_cases h : k < 2 ^ (fN t - 1)
  · rw [if_pos h]
    rw [decide_eq_true h] at c67
    exact rnan_y t _ _ _ _ _ _ c x s g k w c18 c67
  · rw [if_neg h, show DV c s false x 0 = _ from DV_nul c s false x]
    rw [decide_eq_false h] at c67
    exact rnan_n t _ _ _ _ _ _ c x s g k w c18 c67
end Go.Proofs.YtkefmapcaggefaaGreatDoor

namespace Go.Proofs.YtkefmapcaggefaaGreatDoor
open Go.RowKit

/-- a lies below b, or at it, if the ends count -/
def wiN (c : Bool) (a b : Nat) : Bool := decide (a < b) || (decide (a = b) && c)
/-- what is left ahead of digit k, over Z -/
def rsN (R Z : Nat) : Nat → Nat
  | 0 => R
  | k + 1 => 10 * (rsN R Z k % Z)
def unK (c : Bool) (R d Z k : Nat) : Bool := wiN c (rsN R Z k % Z) (10 ^ k * d)
def ovK (c : Bool) (R u Z k : Nat) : Bool := wiN c (Z - rsN R Z k % Z) (10 ^ k * u)
def stK (c : Bool) (R d u Z k : Nat) : Bool := unK c R d Z k || ovK c R u Z k
section
variable {c : Bool} {R d u Z : Nat} (hZ : 0 < Z)
include hZ
theorem un_big {k : Nat} (h : Z ≤ 10 ^ k * d) : stK c R d u Z k = true := by
  unfold stK unK wiN
  have := Nat.mod_lt (rsN R Z k) hZ
  have : rsN R Z k % Z < 10 ^ k * d := by omega
  simp [this]
theorem st_ex (hd : 0 < d) : ∃ K, stK c R d u Z K = true ∧ ∀ k, k < K → stK c R d u Z k = false := by
  have h1 : ∃ K, stK c R d u Z K = true := ⟨Z, un_big hZ (by
    have h1 : Z < 10 ^ Z := Nat.lt_pow_self (by decide)
    have h2 : 10 ^ Z * 1 ≤ 10 ^ Z * d := Nat.mul_le_mul_left _ hd
    omega)⟩
  obtain ⟨K, hK⟩ := h1
  induction K using Nat.strongRecOn with
  | ind K ih =>
    by_cases h : ∃ k, k < K ∧ stK c R d u Z k = true
    · obtain ⟨k, h1, h2⟩ := h
      exact ih k h1 h2
    · refine ⟨K, hK, fun k hk => ?_⟩
      cases hh : stK c R d u Z k
      · rfl
      · exact absurd ⟨k, hk, hh⟩ h
end
/-- a power of ten isn't above a fraction c times 2^x -/
def zE (x e : Int) : Nat := 4 * 2 ^ (-x).toNat * 10 ^ e.toNat
def oE (x e : Int) : Nat := 2 ^ x.toNat * 10 ^ (-e).toNat
theorem zE_pos (x e : Int) : 0 < zE x e := Nat.mul_pos (Nat.mul_pos (by decide) (Nat.two_pow_pos _)) (Nat.pow_pos (by decide))
theorem oE_pos (x e : Int) : 0 < oE x e := Nat.mul_pos (Nat.two_pow_pos _) (Nat.pow_pos (by decide))
def tnP (c : Nat) (x e : Int) : Prop := zE x e ≤ 4 * c * oE x e
theorem ten_le_two {t p : Nat} (h : 196 * t ≤ 59 * p) : 10 ^ t ≤ 2 ^ p := by
  rcases Nat.lt_or_ge (2 ^ p) (10 ^ t) with h1 | h1
  · exfalso
    have h2 : (2 ^ p) ^ 59 < (10 ^ t) ^ 59 := Nat.pow_lt_pow_left h1 (by decide)
    have h3 : (10 ^ 59) ^ t ≤ (2 ^ 196) ^ t := Nat.pow_le_pow_left (by decide) t
    have h4 : 2 ^ (196 * t) ≤ 2 ^ (59 * p) := Nat.pow_le_pow_right (by decide) h
    have e1 : ((2 : Nat) ^ p) ^ 59 = 2 ^ (59 * p) := by rw [← Nat.pow_mul, Nat.mul_comm]
    have e2 : ((10 : Nat) ^ t) ^ 59 = (10 ^ 59) ^ t := by rw [← Nat.pow_mul, ← Nat.pow_mul, Nat.mul_comm]
    have e3 : ((2 : Nat) ^ 196) ^ t = 2 ^ (196 * t) := by rw [← Nat.pow_mul]
    rw [e1, e2] at h2
    rw [e3] at h3
    omega
  · exact h1
theorem big_ten : (2 : Nat) ^ 100000 ≤ 10 ^ 30103 := by decide +kernel
theorem two_le_ten_n {n m t q : Nat} (hn : n ≠ 0) (hb : (2 : Nat) ^ n ≤ 10 ^ m) (h : m * q ≤ n * t) : 2 ^ q ≤ 10 ^ t := by
  rcases Nat.lt_or_ge (10 ^ t) (2 ^ q) with h1 | h1
  · exfalso
    have h2 : (10 ^ t) ^ n < (2 ^ q) ^ n := Nat.pow_lt_pow_left h1 hn
    have h3 : (2 ^ n) ^ q ≤ (10 ^ m) ^ q := Nat.pow_le_pow_left hb q
    have h4 : 10 ^ (m * q) ≤ 10 ^ (n * t) := Nat.pow_le_pow_right (by decide) h
    have e1 : ((10 : Nat) ^ t) ^ n = 10 ^ (n * t) := by rw [← Nat.pow_mul, Nat.mul_comm]
    have e2 : ((2 : Nat) ^ q) ^ n = (2 ^ n) ^ q := by rw [← Nat.pow_mul, ← Nat.pow_mul, Nat.mul_comm]
    have e3 : ((10 : Nat) ^ m) ^ q = 10 ^ (m * q) := by rw [← Nat.pow_mul]
    rw [e1, e2] at h2
    rw [e3] at h3
    omega
  · exact h1
theorem two_le_ten {t q : Nat} (h : 30103 * q ≤ 100000 * t) : 2 ^ q ≤ 10 ^ t := two_le_ten_n (by decide) big_ten h
/-- the guess is never too high -/
theorem guess_ok {c L : Nat} {x : Int} (hL : 2 ^ L ≤ c) (hb : -20000 ≤ (L : Int) + x ∧ (L : Int) + x ≤ 20000) : tnP c x ((((L : Int) + x) * 30103).tdiv 100000 - 1) := by
  have hq : (((L : Int) + x) * 30103).tdiv 100000 = if 0 ≤ (L : Int) + x then (((L : Int) + x) * 30103) / 100000 else -((-((L : Int) + x) * 30103) / 100000) := by
    split
    · rw [Int.tdiv_eq_ediv_of_nonneg (by omega)]
    · rw [show ((L : Int) + x) * 30103 = -(-((L : Int) + x) * 30103) by omega, Int.neg_tdiv, Int.tdiv_eq_ediv_of_nonneg (by omega)]
  generalize hg : (((L : Int) + x) * 30103).tdiv 100000 - 1 = g at *
  unfold tnP zE oE
  rw [Nat.mul_assoc 4, Nat.mul_assoc 4]
  refine Nat.mul_le_mul_left 4 ?_
  by_cases hg0 : 0 ≤ g
  · have hp : 0 ≤ (L : Int) + x := by
      rcases Int.lt_or_le ((L : Int) + x) 0 with h | h
      · rw [if_neg (by omega)] at hq; omega
      · exact h
    rw [if_pos hp] at hq
    have h1 : 10 ^ g.toNat ≤ 2 ^ ((L : Int) + x).toNat := ten_le_two (by omega)
    rw [show (-g).toNat = 0 by omega, Nat.pow_zero, Nat.mul_one]
    by_cases hx : 0 ≤ x
    · rw [show (-x).toNat = 0 by omega, Nat.pow_zero, Nat.one_mul]
      rw [show ((L : Int) + x).toNat = L + x.toNat by omega, Nat.pow_add] at h1
      exact Nat.le_trans h1 (Nat.mul_le_mul_right _ hL)
    · rw [show x.toNat = 0 by omega, Nat.pow_zero, Nat.mul_one]
      have h2 := Nat.mul_le_mul_left (2 ^ (-x).toNat) h1
      rw [← Nat.pow_add, show (-x).toNat + ((L : Int) + x).toNat = L by omega] at h2
      exact Nat.le_trans h2 hL
  · rw [show g.toNat = 0 by omega, Nat.pow_zero, Nat.mul_one]
    by_cases hp : 0 ≤ (L : Int) + x
    · have h1 : 2 ^ (-x).toNat ≤ c * 2 ^ x.toNat := by
        by_cases hx : 0 ≤ x
        · rw [show (-x).toNat = 0 by omega, Nat.pow_zero]
          have := Nat.two_pow_pos L
          exact Nat.mul_pos (by omega) (Nat.two_pow_pos _)
        · rw [show x.toNat = 0 by omega, Nat.pow_zero, Nat.mul_one]
          exact Nat.le_trans (Nat.pow_le_pow_right (by decide) (by omega)) hL
      rw [← Nat.mul_assoc]
      exact Nat.le_trans h1 (Nat.le_mul_of_pos_right _ (Nat.pow_pos (by decide)))
    · rw [if_neg hp] at hq
      have h1 : 2 ^ (-((L : Int) + x)).toNat ≤ 10 ^ (-g).toNat := two_le_ten (by omega)
      rw [show x.toNat = 0 by omega, Nat.pow_zero, Nat.one_mul]
      rw [show (-x).toNat = L + (-((L : Int) + x)).toNat by omega, Nat.pow_add]
      exact Nat.mul_le_mul hL h1
end Go.Proofs.YtkefmapcaggefaaGreatDoor

namespace Go.Proofs.YtkefmapcaggefaaGreatDoor
open Go.RowKit

theorem rdir_any (d : Int) (w : World) : Calls Tryz.prog 15 #[.int .i64 d] w fun e w' => e = .returned (.bool (decide (knB d))) ∧ w = w' := by
  by_cases h0 : 0 ≤ d
  · by_cases h4 : d ≤ 4
    · have e : decide (knB d) = true := by unfold knB; simp [h0, h4]
      rw [e]
      go_enter Tryz.func15, Tryz.ntmps15
      go_wp2
      go_ret
      exact ⟨by simp [h0, h4], rfl⟩
    · have e : decide (knB d) = false := by unfold knB; simp [h0, h4]
      rw [e]
      go_enter Tryz.func15, Tryz.ntmps15
      go_wp2
      go_ret
      exact ⟨by simp [h0, h4], rfl⟩
  · have e : decide (knB d) = false := by unfold knB; simp [h0]
    rw [e]
    go_enter Tryz.func15, Tryz.ntmps15
    go_wp2
    go_ret
    exact ⟨by simp [h0], rfl⟩
set_option maxHeartbeats 400000 in
theorem rfar_kn (d : Int) (s : Bool) (w : World) (hk : knB d) : Calls Tryz.prog 75 #[.int .i64 d, .bool s] w fun e w' => e = .returned (.bool (inB d s)) ∧ w = w' := by
  have hd : d = 0 ∨ d = 1 ∨ d = 2 ∨ d = 3 ∨ d = 4 := by unfold knB at hk; omega
  rcases hd with rfl | rfl | rfl | rfl | rfl <;>
  · go_enter Tryz.func75, Tryz.ntmps75
    go_wp2
    go_ret
    exact ⟨by simp [inB], rfl⟩
theorem nv_uno {W : World} {g V : Nat} {vi : Int} (hg : g = W.heap.size) (hv : vi = (V : Int)) (hb : V < 18446744073709551616) : NV 1 V (.slice (some ⟨g, 0, none⟩) 1 1) (W.alloc (.cells #[.int .u64 vi] 22)) := by
  subst hg hv
  exact ⟨_, 1, 1, oneW V, rfl, Nat.le_refl _, num_one W V (by omega), val_one1 V⟩
set_option maxHeartbeats 400000 in
theorem rpower_nt (n : Nat) (hn : n ≤ 200000) (w : World) : Calls Tryz.prog 71 #[.int .u64 2, .int .i64 (n : Int)] w fun e w' => ∃ r, e = .returned r ∧ NT 3128 (2 ^ n) r w' ∧ Below w.heap.size w w' := by
  have c84 := rleft_nt (w := w.alloc (.cells #[.int .u64 1] 22)) n (K := 1) (A := 1) (by decide) (by omega) (nv_uno rfl rfl (by decide))
  rw [Nat.one_mul] at c84
  have hb0 := below1 w (.cells #[.int .u64 1] 22)
  go_enter Tryz.func71, Tryz.ntmps71
  go_wp2_with (go_at_call 64; refine c84.mono ?_; rintro e w1 ⟨r, rfl, hr, hb1⟩)
  go_ret
  exact ⟨r, rfl, hr.more (by omega), hb0.trans (hb1.mono hb0.size)⟩
section
variable (x : Int) (vn vd : Value) (A B KK : Nat) (w : World)
set_option maxHeartbeats 1000000 in
theorem rscale_pos (h : 0 ≤ min (max x (-200000)) 200000)
    (c98 : Calls Tryz.prog 71 #[.int .u64 2, .int .i64 (min (max x (-200000)) 200000)] w fun e w' => ∃ p, e = .returned p ∧ Below w.heap.size w w' ∧ Calls Tryz.prog 67 #[vn, p] w' fun e w'' => ∃ r, e = .returned r ∧ NT KK A r w'' ∧ Below w'.heap.size w' w'') :
    Calls Tryz.prog 40 #[vn, vd, .int .u64 2, .int .i64 x] w fun e w' => ∃ r, e = .returned (.tuple #[r, vd]) ∧ NT KK A r w' ∧ Below w.heap.size w w' := by
  have hb1 : min (max x (-200000)) 200000 ≤ 200000 := by omega
  go_enter Tryz.func40, Tryz.ntmps40
  go_wp2_with (first
    | (go_at_call 71; refine c98.mono ?_; rintro e w1 ⟨p, rfl, hb1, c17⟩)
    | (go_at_call 67; refine c17.mono ?_; rintro e w2 ⟨r, rfl, hr, hb2⟩))
  exact bodyPost_ret (v := .tuple #[r, vd]) (by simp only [results, Tryz.results40]; go_simp) rfl ⟨_, rfl, hr, hb1.trans (hb2.mono hb1.size)⟩
set_option maxHeartbeats 1000000 in
theorem rscale_neg (m : Int) (hm : m = -(min (max x (-200000)) 200000)) (h : ¬ 0 ≤ min (max x (-200000)) 200000)
    (c98 : Calls Tryz.prog 71 #[.int .u64 2, .int .i64 m] w fun e w' => ∃ p, e = .returned p ∧ Below w.heap.size w w' ∧ Calls Tryz.prog 67 #[vd, p] w' fun e w'' => ∃ r, e = .returned r ∧ NT KK A r w'' ∧ Below w'.heap.size w' w'') :
    Calls Tryz.prog 40 #[vn, vd, .int .u64 2, .int .i64 x] w fun e w' => ∃ r, e = .returned (.tuple #[vn, r]) ∧ NT KK A r w' ∧ Below w.heap.size w w' := by
  have hb1 : -200000 ≤ min (max x (-200000)) 200000 := by omega
  subst hm
  go_enter Tryz.func40, Tryz.ntmps40
  go_wp2_with (first
    | (go_at_call 71; refine c98.mono ?_; rintro e w1 ⟨p, rfl, hb1, c17⟩)
    | (go_at_call 67; refine c17.mono ?_; rintro e w2 ⟨r, rfl, hr, hb2⟩))
  exact bodyPost_ret (v := .tuple #[vn, r]) (by simp only [results, Tryz.results40]; go_simp) rfl ⟨_, rfl, hr, hb1.trans (hb2.mono hb1.size)⟩
end
/-- the fraction times 2^x, as the document takes it -/
theorem rscale_nt {K N D : Nat} {vn vd : Value} {w : World} (x : Int) (hK : K ≤ 12000) (h : NT K N vn w) (h' : NT K D vd w) :
    Calls Tryz.prog 40 #[vn, vd, .int .u64 2, .int .i64 x] w fun e w' => ∃ a b, e = .returned (.tuple #[a, b]) ∧ NT (K + 3130) (sN N x) a w' ∧ NT (K + 3130) (sD D x) b w' ∧ Below w.heap.size w w' := by
  have hc : clZ x = min (max x (-200000)) 200000 := rfl
  by_cases hp : 0 ≤ min (max x (-200000)) 200000
  · have c98 := rpower_nt (clZ x).toNat (by omega) w
    rw [show ((clZ x).toNat : Int) = min (max x (-200000)) 200000 by omega] at c98
    have e0 : sD D x = D := by unfold sD; rw [show (-(clZ x)).toNat = 0 by omega, Nat.pow_zero, Nat.mul_one]
    rw [e0]
    refine (rscale_pos x vn vd (sN N x) (K + 3130) w hp (c98.mono fun e w' ⟨p, e1, e2, e3⟩ => ⟨p, e1, e3, (rtimes_nt (by omega) (by decide) (h.next e3).nv e2.nv).mono fun e w'' ⟨r, f1, f2, f3⟩ => ⟨r, f1, f2.more (by omega), f3⟩⟩)).mono fun e w' ⟨r, e1, e2, e3⟩ => ⟨_, _, e1, e2, (h'.next e3).more (by omega), e3⟩
  · have c98 := rpower_nt (-(clZ x)).toNat (by omega) w
    rw [show ((-(clZ x)).toNat : Int) = -(clZ x) by omega] at c98
    have e0 : sN N x = N := by unfold sN; rw [show (clZ x).toNat = 0 by omega, Nat.pow_zero, Nat.mul_one]
    rw [e0]
    refine (rscale_neg x vn vd (sD D x) (K + 3130) w (-(clZ x)) (by omega) hp (c98.mono fun e w' ⟨p, e1, e2, e3⟩ => ⟨p, e1, e3, (rtimes_nt (by omega) (by decide) (h'.next e3).nv e2.nv).mono fun e w'' ⟨r, f1, f2, f3⟩ => ⟨r, f1, f2.more (by omega), f3⟩⟩)).mono fun e w' ⟨r, e1, e2, e3⟩ => ⟨_, _, e1, (h.next e3).more (by omega), e2, e3⟩
section
variable (vn vd : Value) (LN LD s : Int) (w : World) (hLN : 0 ≤ LN ∧ LN ≤ 2000000) (hLD : 0 ≤ LD ∧ LD ≤ 2000000)
  (c70 : Calls Tryz.prog 61 #[vn] w fun e w' => e = .returned (.int .i64 LN) ∧ w = w')
  (c70d : Calls Tryz.prog 61 #[vd] w fun e w' => e = .returned (.int .i64 LD) ∧ w = w')
  (c67 : ∀ n : Int, n = -(LN - LD) → Calls Tryz.prog 40 #[vn, vd, .int .u64 2, .int .i64 n] w fun e w' => ∃ va vb, e = .returned (.tuple #[va, vb]) ∧ (Calls Tryz.prog 89 #[va, vb] w' fun e w'' => e = .returned (.int .i64 s) ∧ w' = w'') ∧ Below w.heap.size w w')
include hLN hLD c70 c70d c67
set_option maxHeartbeats 400000 in
theorem rexp_l (h : s < 0) : Calls Tryz.prog 72 #[vn, vd] w fun e w' => e = .returned (.int .i64 (LN - LD - 1)) ∧ Below w.heap.size w w' := by
  go_enter Tryz.func72, Tryz.ntmps72
  go_wp2_with (first
    | (go_at_call_of 61 vn; refine c70.mono ?_; rintro e w1 ⟨rfl, rfl⟩)
    | (go_at_call_of 61 vd; refine c70d.mono ?_; rintro e w1 ⟨rfl, rfl⟩)
    | (go_at_call 40; refine (c67 _ (by omega)).mono ?_; rintro e w2 ⟨va, vb, rfl, c21, hb2⟩)
    | (go_at_call 89; refine c21.mono ?_; rintro e w3 ⟨rfl, rfl⟩))
  go_ret
  exact ⟨rfl, hb2⟩
set_option maxHeartbeats 400000 in
theorem rexp_g (h : ¬ s < 0) : Calls Tryz.prog 72 #[vn, vd] w fun e w' => e = .returned (.int .i64 (LN - LD)) ∧ Below w.heap.size w w' := by
  go_enter Tryz.func72, Tryz.ntmps72
  go_wp2_with (first
    | (go_at_call_of 61 vn; refine c70.mono ?_; rintro e w1 ⟨rfl, rfl⟩)
    | (go_at_call_of 61 vd; refine c70d.mono ?_; rintro e w1 ⟨rfl, rfl⟩)
    | (go_at_call 40; refine (c67 _ (by omega)).mono ?_; rintro e w2 ⟨va, vb, rfl, c21, hb2⟩)
    | (go_at_call 89; refine c21.mono ?_; rintro e w3 ⟨rfl, rfl⟩))
  go_ret
  exact ⟨rfl, hb2⟩
end
theorem rexp_nt {K N D : Nat} {vn vd : Value} {w : World} (hK : K ≤ 12000) (h : NT K N vn w) (h' : NT K D vd w) (hbn : bl N ≤ 1000000) (hbd : bl D ≤ 1000000) :
    Calls Tryz.prog 72 #[vn, vd] w fun e w' => e = .returned (.int .i64 (lowE N D)) ∧ Below w.heap.size w w' := by
  have c67 : ∀ n : Int, n = -((bl N : Int) - bl D) → Calls Tryz.prog 40 #[vn, vd, .int .u64 2, .int .i64 n] w fun e w' => ∃ va vb, e = .returned (.tuple #[va, vb]) ∧ (Calls Tryz.prog 89 #[va, vb] w' fun e w'' => e = .returned (.int .i64 (sgn ((sN N (-((bl N : Int) - bl D)) : Nat) : Int) ((sD D (-((bl N : Int) - bl D)) : Nat) : Int))) ∧ w' = w'') ∧ Below w.heap.size w w' := by
    rintro n rfl
    exact (rscale_nt _ hK h h').mono fun e w' ⟨a, b, e1, e2, e3, e4⟩ => ⟨a, b, e1, rcmp_nv (by omega) (by omega) e2.nv e3.nv, e4⟩
  have c70 := rlen_nv (by omega) h.nv
  have c70d := rlen_nv (by omega) h'.nv
  unfold lowE
  rcases sgn_ways ((sN N (-((bl N : Int) - bl D)) : Nat) : Int) ((sD D (-((bl N : Int) - bl D)) : Nat) : Int) with ⟨a, e⟩ | ⟨a, e⟩ | ⟨a, e⟩
  · rw [if_pos (by exact Int.ofNat_lt.1 a)]
    exact rexp_l vn vd _ _ _ w (by omega) (by omega) c70 c70d c67 (by omega)
  · rw [if_neg (fun hh => by have := Int.ofNat_lt.2 hh; omega)]
    exact rexp_g vn vd _ _ _ w (by omega) (by omega) c70 c70d c67 (by omega)
  · rw [if_neg (fun hh => by have := Int.ofNat_lt.2 hh; omega)]
    exact rexp_g vn vd _ _ _ w (by omega) (by omega) c70 c70d c67 (by omega)
set_option maxHeartbeats 1000000 in
theorem over_one (ga gb s c c' : Nat) (x y : Nat → Int) (w : World) (hs : s < 20001) (h : Num w (some ⟨ga, 0, none⟩) s c x) (h' : Num w (some ⟨gb, 0, none⟩) 1 c' y) (hys : sizeL y 1 = 1) :
    Calls Tryz.prog 91 #[.slice (some ⟨ga, 0, none⟩) s c, .slice (some ⟨gb, 0, none⟩) 1 c'] w (OvOut (val x s) (val y 1) w) := by
  have hy := h'.2.2.1
  have c31 := size_num _ 1 c' y w (by omega) h'
  rw [hys] at c31
  have hy0 : y 0 ≠ 0 := by have := sizeL_top (x := y) 1 (by omega); rw [hys] at this; exact this
  have hyb := hy 0
  have ev : val y 1 = y 0 := by simp [val]
  have c107 := small_any (some ⟨ga, 0, none⟩) s c x (y 0) w (by omega) h (by omega)
  have hc : gb < w.heap.size ∧ w.cell? ⟨gb, 0, none⟩ = some (.int .u64 (y 0)) := by
    rcases h'.2.2.2.2 with ⟨h, _⟩ | ⟨b', off', h, hbs, hc⟩
    · cases h
    · cases h; exact ⟨hbs, hc 0 (by omega)⟩
  obtain ⟨hgb, hcc⟩ := hc
  rw [ev]
  clear h h'
  go_enter Tryz.func91, Tryz.ntmps91
  go_wp2_with (first | (go_at_call 87; refine c31.mono ?_; rintro e w' ⟨rfl, rfl⟩) | (go_at_call 100; refine c107.mono ?_; rintro e w1 ⟨g, k, cap, z, g', k', cap', z', rfl, hk, hk', hN, hN', hv, hv', hB, ht⟩))
  go_ret2
  exact ⟨g, k, cap, z, g', k', cap', z', rfl, by omega, by omega, hN, hN', hv, hv', hB, ht⟩
/-- quotient and rest, the document's -/
theorem rover_nt {K N D : Nat} {vn vd : Value} {w : World} (hK : K ≤ 20000) (h : NT K N vn w) (h' : NT K D vd w) (hD : D ≠ 0) :
    Calls Tryz.prog 91 #[vn, vd] w fun e w' => ∃ q r, e = .returned (.tuple #[q, r]) ∧ NV 41000 (N / D) q w' ∧ NT 41000 (N % D) r w' ∧ Below w.heap.size w w' := by
  have hk0 := h'.zero
  obtain ⟨ga, s, c, x, rfl, hs, hN, hx, hxs⟩ := h
  obtain ⟨gb, t, c', y, rfl, ht, hN', hy, hys⟩ := h'
  have fin : ∀ e w', OvOut (val x s) (val y t) w e w' → ∃ q r, e = .returned (.tuple #[q, r]) ∧ NV 41000 (N / D) q w' ∧ NT 41000 (N % D) r w' ∧ Below w.heap.size w w' := by
    rintro e w' ⟨g, k, cap, z, g', k', cap', z', e1, hk, hk', hA, hB, hv, hv', hb, htr⟩
    refine ⟨_, _, e1, ⟨g, k, cap, z, rfl, hk, hA, ?_⟩, ⟨g', k', cap', z', rfl, hk', hB, ?_, htr⟩, hb⟩
    · rw [hv, hx, hy]; rfl
    · rw [hv', hx, hy]; rfl
  have ht0 : t ≠ 0 := by
    intro e; subst e
    have : val y 0 = 0 := rfl
    omega
  by_cases ht1 : t = 1
  · subst ht1
    exact (over_one ga gb s c c' x y w (by omega) hN hN' hys).mono fin
  · exact (over_any ga gb s c t c' x y w (by omega) (by omega) (by omega) hN hN' hxs hys).mono fin
end Go.Proofs.YtkefmapcaggefaaGreatDoor

namespace Go.Proofs.YtkefmapcaggefaaGreatDoor
open Go.RowKit

/-- a text of these bytes -/
def B (l : List UInt8) : ByteArray := ⟨l.toArray⟩
/-- byte i -/
def by_ (l : List UInt8) (i : Nat) : Int := if h : i < l.length then ((l[i]'h).toNat : Int) else 0
/-- a digit -/
def dg (c : UInt8) : Bool := decide (48 ≤ c.toNat ∧ c.toNat ≤ 57)
end Go.Proofs.YtkefmapcaggefaaGreatDoor

namespace Go.Proofs.YtkefmapcaggefaaGreatDoor
open Go.RowKit

/-- the number of digits -/
def nv (l : List UInt8) : Int := l.foldl (fun v c => 10 * v + ((c.toNat : Int) - 48)) 0
/-- the number of digits, or two thousand millions -/
def vc (l : List UInt8) : Int := min (nv l) 2000000000
end Go.Proofs.YtkefmapcaggefaaGreatDoor

namespace Go.Proofs.YtkefmapcaggefaaGreatDoor
open Go.RowKit

/-- block g holds n bytes, which may be written -/
structure By (g n : Nat) (x : Nat → Int) (W : World) : Prop where
  lt : g < W.heap.size
  cell : ∀ j, j < n → W.cell? ⟨g, j, none⟩ = some (.int .u8 (x j))
  frz : ∀ j, j < n → W.frozen? ⟨g, j, none⟩ = false
theorem By.set {g n : Nat} {x : Nat → Int} {W : World} (h : By g n x W) (i : Nat) (v : Int) : By g n (fun j => if j = i then v else x j) (W.setCell ⟨g, i, none⟩ (.int .u8 v)) := by
  refine ⟨by simpa using h.lt, fun j hj => ?_, fun j hj => by rw [World.frozen?_setCell]; exact h.frz j hj⟩
  show _ = some (Value.int .u8 (if j = i then v else x j))
  by_cases e : j = i
  · subst e
    rw [if_pos rfl]
    exact World.cell?_setCell_same (h := h.cell j hj) ..
  · rw [if_neg e]
    exact (World.cell?_setCell_other (h := by intro h; cases h; exact e rfl) ..).trans (h.cell j hj)
theorem By.of {l : List UInt8} {w : World} {cap : Nat} : By w.heap.size l.length (by_ l) (w.drew.alloc (.cells (bytesRow (B l) cap) 5 ((bytesRow (B l) cap).size, (bytesRow (B l) cap).size + 1))) := by
  have hsz : l.length ≤ (bytesRow (B l) cap).size := by unfold bytesRow; simp [B]
  refine ⟨by simp, fun j hj => ?_, fun j hj => ?_⟩
  · have : (bytesRow (B l) cap)[j]? = some (.int .u8 (by_ l j)) := by
      unfold bytesRow by_
      rw [dif_pos hj, Array.getElem?_append_left (by simpa [B] using hj)]
      simp [B, hj]
    have hh : (w.drew.alloc (.cells (bytesRow (B l) cap) 5 ((bytesRow (B l) cap).size, (bytesRow (B l) cap).size + 1))).heap[w.heap.size]? = some (.cells (bytesRow (B l) cap) 5 ((bytesRow (B l) cap).size, (bytesRow (B l) cap).size + 1)) := by
      show (Array.push w.heap _)[w.heap.size]? = _
      simp
    unfold World.cell?
    simp only [hh]
    simp [this]
  · have hh : (w.drew.alloc (.cells (bytesRow (B l) cap) 5 ((bytesRow (B l) cap).size, (bytesRow (B l) cap).size + 1))).heap[w.heap.size]? = some (.cells (bytesRow (B l) cap) 5 ((bytesRow (B l) cap).size, (bytesRow (B l) cap).size + 1)) := by
      show (Array.push w.heap _)[w.heap.size]? = _
      simp
    unfold World.frozen?
    simp only [hh]
    simp
    omega
end Go.Proofs.YtkefmapcaggefaaGreatDoor

namespace Go.Proofs.YtkefmapcaggefaaGreatDoor
open Go.RowKit

/-- parts, as a value -/
def PV (c : Int) (s g : Bool) (d : List UInt8) (e : Int) : Value := .agg #[.int .i64 c, .bool s, .bool g, .string (B d), .int .i64 e]
end Go.Proofs.YtkefmapcaggefaaGreatDoor

namespace Go.Proofs.YtkefmapcaggefaaGreatDoor
open Go.RowKit

/-- a number's parts -/
structure Prt where
  cls : Int
  sg : Bool
  sn : Bool
  dig : List UInt8
  ex : Int
def Prt.v (p : Prt) : Value := PV p.cls p.sg p.sn p.dig p.ex
def Prt.zero : Prt := ⟨0, false, false, [], 0⟩
end Go.Proofs.YtkefmapcaggefaaGreatDoor

namespace Go.Proofs.YtkefmapcaggefaaGreatDoor
open Go.RowKit

def Tb10 (w : World) : Prop := Lib.TabIs Tryz.prog w "internal/strconv.uint64pow10" .u64 Lib.pow10Tab
theorem Tb10.next {w w' : World} (h : Tb10 w) (hb : Below w.heap.size w w') : Tb10 w' := Lib.tabBelow_of_tabIs h w' hb
end Go.Proofs.YtkefmapcaggefaaGreatDoor

namespace Go.Proofs.YtkefmapcaggefaaGreatDoor
open Go.RowKit

theorem bl_mul (a b : Nat) : bl (a * b) ≤ bl a + bl b := by
  refine bl_le.2 ?_
  rw [Nat.pow_add]
  have h1 := bl_le.1 (Nat.le_refl (bl a))
  have h2 := bl_le.1 (Nat.le_refl (bl b))
  exact Nat.mul_lt_mul'' h1 h2
attribute [local irreducible] W4 Nz Nt
end Go.Proofs.YtkefmapcaggefaaGreatDoor

namespace Go.Proofs.YtkefmapcaggefaaGreatDoor
open Go.RowKit

theorem NT.nz {K V : Nat} {v : Value} {w : World} (h : NT K V v w) : Nz K V v w := by
  obtain ⟨g, k, cap, z, h1, h2, h3, h4, h5⟩ := h
  exact ⟨_, k, cap, z, h1, h2, h3, h4, h5⟩
theorem NT.nt {K V : Nat} {v : Value} {w : World} (h : NT K V v w) : Nt K V v w := h.nz.nt
theorem nt_un1 {W : World} {g V : Nat} {vi : Int} (hg : g = W.heap.size) (hv : vi = (V : Int)) (hb : V < 18446744073709551616) (h0 : V ≠ 0) : NT 1 V (.slice (some ⟨g, 0, none⟩) 1 1) (W.alloc (.cells #[.int .u64 vi] 22)) := by
  subst hg hv
  refine ⟨_, 1, 1, oneW V, rfl, Nat.le_refl _, num_one W V (by omega), val_one1 V, ?_⟩
  have : oneW (V : Int) 0 ≠ 0 := by simp [oneW]; omega
  simp [sizeL, this]
attribute [local irreducible] W4 Nz Nt NT
/-- the guessed place of the first digit -/
def gsP (k : Nat) (x : Int) : Int := (((bl k : Int) - 1 + x) * 30103).tdiv 100000 - 1
end Go.Proofs.YtkefmapcaggefaaGreatDoor
