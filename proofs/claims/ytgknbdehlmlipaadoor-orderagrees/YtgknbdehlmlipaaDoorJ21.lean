/-
  Texts that the proof leans on.
-/
import Derived.Test.YtgknbdehlmlipaaDoorJ19
import Derived.Test.YtgknbdehlmlipaaDoorJ1
import Derived.Test.YtgknbdehlmlipaaDoorJ3
import Derived.Test.YtgknbdehlmlipaaDoorJ20
import Derived.Test.YtgknbdehlmlipaaDoorJ9
import Derived.Test.YtgknbdehlmlipaaDoorJ16
import Derived.Test.YtgknbdehlmlipaaDoorJ17
set_option linter.unusedSectionVars false
set_option linter.unusedVariables false
set_option linter.unusedSimpArgs false
set_option maxRecDepth 20000
namespace Go.Proofs.YtgknbdehlmlipaaDoor
open Go.RowKit

/-- the words of a number -/
def W4 (A : Nat) (i : Nat) : Int := ((A / 2 ^ (64 * i) % 18446744073709551616 : Nat) : Int)
/-- a number of four words -/
abbrev A4 (A : Nat) : Value := .agg #[.int .u64 (W4 A 0), .int .u64 (W4 A 1), .int .u64 (W4 A 2), .int .u64 (W4 A 3)]
theorem W4_words (A : Nat) : Words (W4 A) := fun i => by
  unfold W4
  have := Nat.mod_lt (A / 2 ^ (64 * i)) (show 0 < 18446744073709551616 by decide)
  omega
theorem p64n (n : Nat) : (18446744073709551616 : Int) ^ n = ((2 ^ (64 * n) : Nat) : Int) := by
  rw [Nat.pow_mul]
  simp
theorem W4_val (A : Nat) : ∀ n, val (W4 A) n = ((A % 2 ^ (64 * n) : Nat) : Int)
  | 0 => by simp [val, Nat.mod_one]
  | n + 1 => by
    show val (W4 A) n + W4 A n * 18446744073709551616 ^ n = _
    have e : A % 2 ^ (64 * (n + 1)) = A % 2 ^ (64 * n) + 2 ^ (64 * n) * (A / 2 ^ (64 * n) % 18446744073709551616) := by
      rw [show 64 * (n + 1) = 64 * n + 64 by omega, Nat.pow_add]
      exact Nat.mod_mul
    rw [W4_val A n, p64n, e]
    unfold W4
    rw [Int.natCast_add, Int.natCast_mul, Int.mul_comm]
theorem W4_val4 {A : Nat} (h : A < 2 ^ 256) : val (W4 A) 4 = A := by
  rw [W4_val, Nat.mod_eq_of_lt h]
theorem arr_eq {x y : Nat → Int} (hx : Words x) (hy : Words y) (h : val x 4 = val y 4) : arrOf x 4 = arrOf y 4 :=
  arrOf_congr (val_inj hx hy 4 h)
theorem arr_A4 {x : Nat → Int} (hx : Words x) {A : Nat} (h : val x 4 = ((A % 2 ^ 256 : Nat) : Int)) : Value.agg (arrOf x 4) = A4 A := by
  have e : arrOf x 4 = arrOf (W4 A) 4 := arr_eq hx (W4_words A) (by rw [h, W4_val])
  rw [e]; rfl
theorem A4_mod (A : Nat) : A4 (A % 2 ^ 256) = A4 A := by
  have := arr_A4 (W4_words (A % 2 ^ 256)) (A := A) (by rw [W4_val, Nat.mod_mod])
  exact this
theorem A4_inj {A B : Nat} (hA : A < 2 ^ 256) (hB : B < 2 ^ 256) (h : ∀ i, i < 4 → W4 A i = W4 B i) : A = B := by
  have := val_congr (x := W4 A) (y := W4 B) 4 h
  rw [W4_val4 hA, W4_val4 hB] at this
  omega
/-- every pattern is a number's words -/
theorem words_A4 {x : Nat → Int} (hx : Words x) : ∃ A, A < 2 ^ 256 ∧ Value.agg (arrOf x 4) = A4 A ∧ val x 4 = A := by
  have hb := val_bd hx 4
  have e : (18446744073709551616 : Int) ^ 4 = ((2 ^ 256 : Nat) : Int) := by decide
  rw [e] at hb
  obtain ⟨A, hA⟩ := Int.eq_ofNat_of_zero_le hb.1
  have hlt : A < 2 ^ 256 := by rw [hA] at hb; exact Int.ofNat_lt.1 hb.2
  exact ⟨A, hlt, arr_A4 hx (by rw [Nat.mod_eq_of_lt hlt]; exact hA), hA⟩

theorem add4 (A B : Nat) (w : World) (hA : A < 2 ^ 256) (hB : B < 2 ^ 256) :
    Calls Tryd.prog 33 #[A4 A, A4 B] w fun e w' => e = .returned (.tuple #[A4 (A + B), .int .u64 (((A + B) / 2 ^ 256 : Nat) : Int)]) ∧ Below w.heap.size w w' := by
  refine (limAdd4 (W4 A) (W4 B) w (W4_words A) (W4_words B)).mono ?_
  rintro e w' ⟨rfl, hb⟩
  refine ⟨?_, hb⟩
  have hs := sum_val (x := W4 A) (y := W4 B) 4
  have hc := carryW_01 (W4_words A) (W4_words B) 4
  have hv := val_bd (sumW_words (W4 A) (W4 B)) 4
  rw [W4_val4 hA, W4_val4 hB] at hs
  have e4 : (18446744073709551616 : Int) ^ 4 = 115792089237316195423570985008687907853269984665640564039457584007913129639936 := by decide
  have e4n : (2 : Nat) ^ 256 = 115792089237316195423570985008687907853269984665640564039457584007913129639936 := by decide
  rw [e4] at hs hv
  rw [e4n] at hA hB ⊢
  rw [arr_A4 (sumW_words _ _) (A := A + B) (by rw [e4n]; omega)]
  have : carryW (W4 A) (W4 B) 4 = (((A + B) / 115792089237316195423570985008687907853269984665640564039457584007913129639936 : Nat) : Int) := by omega
  rw [this]
theorem sub4 (A B : Nat) (w : World) (hA : A < 2 ^ 256) (hB : B < 2 ^ 256) :
    Calls Tryd.prog 46 #[A4 A, A4 B] w fun e w' => e = .returned (.tuple #[A4 (A + 2 ^ 256 - B), .int .u64 (if A < B then 1 else 0)]) ∧ Below w.heap.size w w' := by
  refine (limSub4 (W4 A) (W4 B) w (W4_words A) (W4_words B)).mono ?_
  rintro e w' ⟨rfl, hb⟩
  refine ⟨?_, hb⟩
  have hs := dif_val (x := W4 A) (y := W4 B) (W4_words A) (W4_words B) 4
  have hc := borW_01 (W4 A) (W4 B) 4
  have hv := val_bd (difW_words (W4 A) (W4 B)) 4
  rw [W4_val4 hA, W4_val4 hB] at hs
  have e4 : (18446744073709551616 : Int) ^ 4 = 115792089237316195423570985008687907853269984665640564039457584007913129639936 := by decide
  have e4n : (2 : Nat) ^ 256 = 115792089237316195423570985008687907853269984665640564039457584007913129639936 := by decide
  rw [e4] at hs hv
  rw [e4n] at hA hB ⊢
  rw [arr_A4 (difW_words _ _) (A := A + 115792089237316195423570985008687907853269984665640564039457584007913129639936 - B) (by rw [e4n]; omega)]
  have : borW (W4 A) (W4 B) 4 = if A < B then 1 else 0 := by split <;> omega
  rw [this]
theorem A4_sub {A B : Nat} (h : B ≤ A) : A4 (A + 2 ^ 256 - B) = A4 (A - B) := by
  rw [← A4_mod (A - B), ← A4_mod (A + 2 ^ 256 - B), show A + 2 ^ 256 - B = A - B + 2 ^ 256 by omega, Nat.add_mod_right]

theorem shl4 (A n : Nat) (w : World) (hA : A < 2 ^ 256) (hn : n ≤ 100000) :
    Calls Tryd.prog 47 #[A4 A, .int .i64 n] w fun e w' => e = .returned (A4 (A * 2 ^ n)) ∧ Below w.heap.size w w' := by
  refine (shlA4 (W4 A) n w (W4_words A) (by omega)).mono ?_
  rintro e w' ⟨rfl, hb⟩
  refine ⟨?_, hb⟩
  congr 1
  by_cases h1 : n = 0
  · subst h1
    have e : shlA (W4 A) ((0 : Nat) : Int) = W4 A := by funext j; unfold shlA; rw [if_pos (by omega)]
    rw [e, Nat.pow_zero, Nat.mul_one]; rfl
  refine arr_A4 (shlA_words (W4_words A) _) ?_
  have hlow := shlL_fin (W4_words A) (N := 4) (((n : Int) / 64).toNat) (((n : Int) % 64).toNat)
  have es : shlA (W4 A) (n : Int) = shlL (W4 A) ((n : Int) / 64).toNat ((n : Int) % 64).toNat := by funext j; unfold shlA; rw [if_neg (by omega)]
  rw [es]
  obtain ⟨q, hq⟩ : ∃ q : Nat, ((n : Int) / 64).toNat = q := ⟨_, rfl⟩
  obtain ⟨r, hr⟩ : ∃ r : Nat, ((n : Int) % 64).toNat = r := ⟨_, rfl⟩
  rw [hq, hr] at hlow ⊢
  have hn : n = 64 * q + r := by omega
  have hr6 : r < 64 := by omega
  have h4 : val (shlL (W4 A) q r) 4 = val (finL (lowW (W4 A) 4) q r) 4 := by
    refine val_congr 4 fun i hi => ?_
    have := congrFun hlow i
    rw [lowW_lt hi, lowW_lt hi] at this
    exact this
  have hlw : Words (lowW (W4 A) 4) := lowW_words (W4_words A) 4
  have hz : ∀ i, 4 ≤ i → lowW (W4 A) 4 i = 0 := fun i hi => lowW_ge hi
  have hF := finL_val hlw hz q hr6
  have hvl : val (lowW (W4 A) 4) 4 = A := by
    rw [val_congr (x := lowW (W4 A) 4) (y := W4 A) 4 (fun i hi => lowW_lt hi), W4_val4 hA]
  rw [hvl, ← hn] at hF
  have hsp := val_split (finL (lowW (W4 A) 4) q r) 4 (q + 1)
  rw [show 4 + (q + 1) = 4 + q + 1 by omega, hF] at hsp
  have hbd := val_bd (finL_words hlw (q := q) (r := r)) 4
  have e4 : (18446744073709551616 : Int) ^ 4 = ((2 ^ 256 : Nat) : Int) := by decide
  rw [e4] at hbd hsp
  rw [h4]
  have : (A : Int) * 2 ^ n = ((A * 2 ^ n : Nat) : Int) := by simp
  rw [this] at hsp
  have h5 := congrArg (· % ((2 ^ 256 : Nat) : Int)) hsp
  simp only [Int.add_mul_emod_self_right, Int.emod_eq_of_lt hbd.1 hbd.2] at h5
  rw [← h5]
  rfl
theorem shr4 (A n : Nat) (w : World) (hA : A < 2 ^ 256) (hn : n ≤ 100000) :
    Calls Tryd.prog 45 #[A4 A, .int .i64 n] w fun e w' => e = .returned (A4 (A / 2 ^ n)) ∧ Below w.heap.size w w' := by
  refine (shrA4 (W4 A) n w (W4_words A) (by omega)).mono ?_
  rintro e w' ⟨rfl, hb⟩
  refine ⟨?_, hb⟩
  congr 1
  by_cases h1 : n = 0
  · subst h1
    have e : shrA (W4 A) ((0 : Nat) : Int) 4 = W4 A := by funext j; unfold shrA; rw [if_pos (by omega)]
    rw [e, Nat.pow_zero, Nat.div_one]; rfl
  refine arr_A4 (shrA_words (W4_words A) _ _) ?_
  have hlow := shrL_fin (W4_words A) (N := 4) (((n : Int) / 64).toNat) (((n : Int) % 64).toNat)
  have es : shrA (W4 A) (n : Int) 4 = shrL (W4 A) ((n : Int) / 64).toNat ((n : Int) % 64).toNat 4 := by funext j; unfold shrA; rw [if_neg (by omega)]
  rw [es]
  obtain ⟨q, hq⟩ : ∃ q : Nat, ((n : Int) / 64).toNat = q := ⟨_, rfl⟩
  obtain ⟨r, hr⟩ : ∃ r : Nat, ((n : Int) % 64).toNat = r := ⟨_, rfl⟩
  rw [hq, hr] at hlow ⊢
  have hn : n = 64 * q + r := by omega
  have hr6 : r < 64 := by omega
  have h4 : val (shrL (W4 A) q r 4) 4 = val (shrW (lowW (W4 A) 4) q r) 4 := by
    refine val_congr 4 fun i hi => ?_
    have := congrFun hlow i
    rw [lowW_lt hi] at this
    exact this
  rw [h4]
  exact (shrW_val (lowW_words (W4_words A) 4) (fun i hi => lowW_ge hi) hr6 4 (Nat.le_refl _) (by
    rw [val_congr (x := lowW (W4 A) 4) (y := W4 A) 4 (fun i hi => lowW_lt hi), W4_val4 hA])).trans (by rw [← hn, Nat.mod_eq_of_lt (Nat.lt_of_le_of_lt (Nat.div_le_self _ _) hA)])
theorem len4_le {A k : Nat} (hA : A < 2 ^ 256) : lenL (W4 A) 4 ≤ (k : Int) ↔ A < 2 ^ k := by
  have hv := W4_val4 hA
  by_cases h0 : 0 < sizeL (W4 A) 4
  · obtain ⟨L, h1, h2, h3⟩ := len_bd (W4_words A) h0
    rw [hv] at h2 h3
    rw [h1]
    have h2' : 2 ^ L ≤ A := by have : ((2 ^ L : Nat) : Int) ≤ A := by simpa using h2
                               omega
    have h3' : A < 2 ^ (L + 1) := by have : (A : Int) < ((2 ^ (L + 1) : Nat) : Int) := by simpa using h3
                                     omega
    constructor
    · intro h
      exact Nat.lt_of_lt_of_le h3' (Nat.pow_le_pow_right (by decide) (by omega))
    · intro h
      have : 2 ^ L < 2 ^ k := Nat.lt_of_le_of_lt h2' h
      have := (Nat.pow_lt_pow_iff_right (a := 2) (by decide)).1 this
      omega
  · have hz : sizeL (W4 A) 4 = 0 := by omega
    have hl : lenL (W4 A) 4 = 0 := by unfold lenL; rw [if_pos hz]
    have hA0 : (A : Int) = 0 := by
      rw [← hv, ← val_bare 4, hz]; rfl
    rw [hl]
    have : A = 0 := by omega
    subst this
    exact ⟨fun _ => Nat.two_pow_pos k, fun _ => by omega⟩
theorem len4_zero {A : Nat} (hA : A < 2 ^ 256) : lenL (W4 A) 4 = 0 ↔ A = 0 := by
  have h := len4_le (k := 0) hA
  have h2 : 0 ≤ lenL (W4 A) 4 := by
    by_cases h0 : 0 < sizeL (W4 A) 4
    · obtain ⟨L, h1, _⟩ := len_bd (W4_words A) h0
      omega
    · unfold lenL; rw [if_pos (by omega)]; exact Int.le_refl _
  constructor
  · intro h3; have := h.1 (by omega); omega
  · intro h3; have := h.2 (by omega); omega
theorem lenL_low (A : Nat) : lenL (lowW (W4 A) 4) 4 = lenL (W4 A) 4 := by
  unfold lenL
  rw [sizeL_congr (x := lowW (W4 A) 4) (y := W4 A) 4 (fun i hi => lowW_lt hi)]
  by_cases h : sizeL (W4 A) 4 = 0
  · rw [if_pos h, if_pos h]
  · have := sizeL_le (W4 A) 4
    rw [if_neg h, if_neg h, lowW_lt (by omega)]
theorem len4' (A : Nat) (w : World) : Calls Tryd.prog 48 #[A4 A] w fun e w' => e = .returned (.int .i64 (lenL (W4 A) 4)) ∧ Below w.heap.size w w' := len4 (W4 A) w (W4_words A)
theorem bit4 (A n : Nat) (w : World) (hA : A < 2 ^ 256) (hn : n < 256) :
    Calls Tryd.prog 44 #[A4 A, .int .i64 n] w fun e w' => e = .returned (.int .u64 ((A / 2 ^ n % 2 : Nat) : Int)) ∧ Below w.heap.size w w' := by
  refine (limBit4 (W4 A) n w (W4_words A) (by omega) (by omega)).mono ?_
  rintro e w' ⟨rfl, hb⟩
  refine ⟨?_, hb⟩
  have hb := W4_words A ((n : Int) / 64).toNat
  have h1 : bitV (W4 A ((n : Int) / 64).toNat) n = ((A / 2 ^ n % 2 : Nat) : Int) := by
    unfold bitV
    have h2 := and_mask (y := W4 A ((n : Int) / 64).toNat / 2 ^ ((n : Int) % 64).toNat) (r := 1) (div_word _ _ hb) (by decide)
    rw [show (1 : Int) = 2 ^ 1 - 1 by decide, h2]
    unfold W4
    obtain ⟨q, hq⟩ : ∃ q : Nat, ((n : Int) / 64).toNat = q := ⟨_, rfl⟩
    obtain ⟨r, hr⟩ : ∃ r : Nat, ((n : Int) % 64).toNat = r := ⟨_, rfl⟩
    rw [hq, hr]
    have hn : n = 64 * q + r := by omega
    have hr6 : r < 64 := by omega
    have e1 : ((2 : Int) ^ r) = ((2 ^ r : Nat) : Int) := by simp
    rw [e1, ← Int.natCast_ediv]
    have e2 : A / 2 ^ n = A / 2 ^ (64 * q) / 2 ^ r := by rw [hn, Nat.pow_add, Nat.div_div_eq_div_mul]
    rw [e2]
    generalize A / 2 ^ (64 * q) = B
    have e3 : B % 18446744073709551616 / 2 ^ r % 2 = B / 2 ^ r % 2 := by
      rw [show (18446744073709551616 : Nat) = 2 ^ r * (2 * 2 ^ (63 - r)) by rw [← Nat.pow_succ', ← Nat.pow_add, show r + (63 - r + 1) = 64 by omega]]
      rw [Nat.mod_mul_right_div_self, Nat.mod_mul_right_mod]
    have e4 : ((2 : Int) ^ 1) = ((2 : Nat) : Int) := by decide
    rw [e4, ← Int.natCast_emod, e3]
  rw [h1]
set_option maxHeartbeats 400000 in
theorem of4 (u : Nat) (w : World) (hu : u < 18446744073709551616) :
    Calls Tryd.prog 51 #[.int .u64 u] w fun e w' => e = .returned (A4 u) ∧ Below w.heap.size w w' := by
  have e0 : W4 u 0 = u := by unfold W4; rw [Nat.mul_zero, Nat.pow_zero, Nat.div_one, Nat.mod_eq_of_lt hu]
  have e1 : ∀ i, 0 < i → W4 u i = 0 := fun i hi => by
    unfold W4
    have : u < 2 ^ (64 * i) := Nat.lt_of_lt_of_le hu (by rw [show (18446744073709551616 : Nat) = 2 ^ 64 by decide]; exact Nat.pow_le_pow_right (by decide) (by omega))
    rw [Nat.div_eq_of_lt this]; rfl
  unfold A4
  rw [e0, e1 1 (by decide), e1 2 (by decide), e1 3 (by decide)]
  go_enter Tryd.func51, Tryd.ntmps51
  go_wp2
  exact bodyPost_ret (v := .agg #[.int .u64 u, .int .u64 0, .int .u64 0, .int .u64 0]) (by simp [results, Tryd.results51, go_sem]) rfl ⟨rfl, ((Below.refl _ _).alloc (Nat.le_refl _) _).alloc (by simp) _⟩
end Go.Proofs.YtgknbdehlmlipaaDoor

namespace Go.Proofs.YtgknbdehlmlipaaDoor
open Go.RowKit

/-- a binary format's layout: bits of the fraction, bits of the exponent, least and most -/
structure Fm (f e : Nat) (l m : Int) : Prop where
  f2 : 2 ≤ f
  f240 : f ≤ 240
  e2 : 2 ≤ e
  e15 : e ≤ 15
  fe : f + e ≤ 255
  l1 : -1000000 ≤ l
  l0 : l ≤ 0
  m : m = l + 2 ^ e - 3
abbrev LV (f e : Nat) (l m : Int) : Value := .agg #[.int .i64 f, .int .i64 e, .int .i64 l, .int .i64 m]
theorem pow_e {e : Nat} (h2 : 2 ≤ e) (h15 : e ≤ 15) : (4 : Int) ≤ 2 ^ e ∧ (2 : Int) ^ e ≤ 32768 := by
  have a : (2 : Nat) ^ 2 ≤ 2 ^ e := Nat.pow_le_pow_right (by decide) h2
  have b : (2 : Nat) ^ e ≤ 2 ^ 15 := Nat.pow_le_pow_right (by decide) h15
  have c : ((2 : Int) ^ e) = ((2 ^ e : Nat) : Int) := by simp
  rw [c]; omega
set_option maxHeartbeats 400000 in
theorem special_any (f e : Nat) (l m : Int) (w : World) (h : Fm f e l m) :
    Calls Tryd.prog 31 #[LV f e l m] w fun x w' => x = .returned (.int .u64 ((2 ^ e - 1 : Nat) : Int)) ∧ Below w.heap.size w w' := by
  have h2 := h.e2
  have h15 := h.e15
  have hp := pow_e h2 h15
  have hc : ((2 ^ e - 1 : Nat) : Int) = 2 ^ e - 1 := by
    have c : ((2 : Int) ^ e) = ((2 ^ e : Nat) : Int) := by simp
    have : 1 ≤ 2 ^ e := Nat.one_le_two_pow
    rw [c]; omega
  rw [hc]
  clear hc h
  go_enter Tryd.func31, Tryd.ntmps31
  go_wp2
  go_ret
  exact ⟨rfl, (Below.refl _ _).alloc (Nat.le_refl _) _⟩
theorem lt_below {n g : Nat} {W W' : World} (hb : Below n W W') (h : g < W.heap.size) : g < W'.heap.size := Nat.lt_of_lt_of_le h hb.size
theorem bnext {w0 W W' : World} (h : Below w0.heap.size w0 W) (hb : Below W.heap.size W W') : Below w0.heap.size w0 W' := h.trans (hb.mono h.size)
set_option maxHeartbeats 400000 in
theorem power_any (n : Nat) (w : World) (hn : n ≤ 100000) :
    Calls Tryd.prog 34 #[.int .i64 n] w fun x w' => x = .returned (A4 (2 ^ n)) ∧ Below w.heap.size w w' := by
  have c1 := fun w => of4 1 w (by decide)
  have c2 := fun w => shl4 1 n w (by decide) hn
  rw [Nat.one_mul] at c2
  go_enter Tryd.func34, Tryd.ntmps34
  go_wp2_with (first
    | (go_at_call 51; refine (c1 _).mono ?_; rintro x w1 ⟨rfl, hb1⟩; obtain ⟨hc1, hf1⟩ := bcell hb1; have hz1 := lt_alloc' hb1; have hA1 := bnext (w0 := w) bgo hb1; clear hb1)
    | (go_at_call 47; refine (c2 _).mono ?_; rintro x w2 ⟨rfl, hb2⟩; obtain ⟨hc2, hf2⟩ := bcell hb2; have hz2 := Nat.lt_of_lt_of_le hz1 hb2.size; have hA2 := bnext (w0 := w) bgo hb2; clear hb2))
  exact bodyPost_ret (v := A4 (2 ^ n)) (by simp [results, Tryd.results34, go_sem, *]) rfl ⟨rfl, bgo⟩
set_option maxHeartbeats 400000 in
theorem quiet_any (f e : Nat) (l m : Int) (w : World) (h : Fm f e l m) :
    Calls Tryd.prog 49 #[LV f e l m] w fun x w' => x = .returned (A4 (2 ^ (f - 1))) ∧ Below w.heap.size w w' := by
  have h2 := h.f2
  have h240 := h.f240
  have c1 := fun w => power_any (f - 1) w (by omega)
  rw [show ((f - 1 : Nat) : Int) = (f : Int) - 1 by omega] at c1
  clear h
  go_enter Tryd.func49, Tryd.ntmps49
  go_wp2_with (go_at_call 34; refine (c1 _).mono ?_; rintro x w1 ⟨rfl, hb1⟩; obtain ⟨hc1, hf1⟩ := bcell hb1)
  have hA1 := bnext (w0 := w) bgo hb1
  exact bodyPost_ret (v := A4 (2 ^ (f - 1))) (by simp [results, Tryd.results49, go_sem, hc1, hf1]) rfl ⟨rfl, bgo⟩
theorem mod_and {f e B : Nat} (he : e ≤ 15) : bits BinOp.and IntKind.u64 (W4 (B / 2 ^ f) 0) ((2 ^ e - 1 : Nat) : Int) = ((B / 2 ^ f % 2 ^ e : Nat) : Int) := by
  have hc : ((2 ^ e - 1 : Nat) : Int) = 2 ^ e - 1 := by
    have c : ((2 : Int) ^ e) = ((2 ^ e : Nat) : Int) := by simp
    have : 1 ≤ 2 ^ e := Nat.one_le_two_pow
    rw [c]; omega
  rw [hc, and_mask (W4_words _ 0) (by omega)]
  unfold W4
  rw [Nat.mul_zero, Nat.pow_zero, Nat.div_one]
  have e2 : ((2 : Int) ^ e) = ((2 ^ e : Nat) : Int) := by simp
  rw [e2, ← Int.natCast_emod]
  congr 1
  rw [show (18446744073709551616 : Nat) = 2 ^ e * 2 ^ (64 - e) by rw [← Nat.pow_add, show e + (64 - e) = 64 by omega]]
  exact Nat.mod_mul_right_mod _ _ _
theorem cell_set {W : World} {p : Addr} {u : Value} (h : W.cell? p = some u) (v : Value) : (W.setCell p v).cell? p = some v := by simp [go_sem, h]
theorem cell_set_ne {W : World} {g i j : Nat} (hij : i ≠ j) (v : Value) : (W.setCell ⟨g, i, none⟩ v).cell? ⟨g, j, none⟩ = W.cell? ⟨g, j, none⟩ := by simp [go_sem, hij]
theorem put4 {W : World} {g : Nat} {u0 u1 u2 u3 : Value} (h0 : W.cell? ⟨g, 0, none⟩ = some u0) (h1 : W.cell? ⟨g, 1, none⟩ = some u1) (h2 : W.cell? ⟨g, 2, none⟩ = some u2) (h3 : W.cell? ⟨g, 3, none⟩ = some u3) (v0 v1 v2 v3 : Value) :
    (W.setCell ⟨g, 0, none⟩ v0).cell? ⟨g, 0, none⟩ = some v0 ∧ ((W.setCell ⟨g, 0, none⟩ v0).setCell ⟨g, 1, none⟩ v1).cell? ⟨g, 1, none⟩ = some v1 ∧ (((W.setCell ⟨g, 0, none⟩ v0).setCell ⟨g, 1, none⟩ v1).setCell ⟨g, 2, none⟩ v2).cell? ⟨g, 2, none⟩ = some v2 ∧ ((((W.setCell ⟨g, 0, none⟩ v0).setCell ⟨g, 1, none⟩ v1).setCell ⟨g, 2, none⟩ v2).setCell ⟨g, 3, none⟩ v3).cell? ⟨g, 3, none⟩ = some v3 :=
  ⟨cell_set h0 _, cell_set ((cell_set_ne (by decide) _).trans h1) _, cell_set ((cell_set_ne (by decide) _).trans ((cell_set_ne (by decide) _).trans h2)) _, cell_set ((cell_set_ne (by decide) _).trans ((cell_set_ne (by decide) _).trans ((cell_set_ne (by decide) _).trans h3))) _⟩
/-- the sign's bit -/
def sgB (f e B : Nat) : Bool := (((B / 2 ^ (f + e) % 2 : Nat) : Int) == 1)
set_option maxHeartbeats 1000000 in
theorem split_any (f e : Nat) (l m : Int) (B : Nat) (w : World) (h : Fm f e l m) (hB : B < 2 ^ 256) :
    Calls Tryd.prog 30 #[LV f e l m, A4 B] w fun x w' => x = .returned (.tuple #[.bool (sgB f e B), .int .u64 ((B / 2 ^ f % 2 ^ e : Nat) : Int), A4 (B % 2 ^ f)]) ∧ Below w.heap.size w w' := by
  have hf2 := h.f2
  have hf240 := h.f240
  have he15 := h.e15
  have hfe := h.fe
  have c43 := fun w => bit4 B (f + e) w hB (by omega)
  have c44 := fun w => shr4 B f w hB (by omega)
  have c20 := fun w => special_any f e l m w h
  have hd : B / 2 ^ f < 2 ^ 256 := Nat.lt_of_le_of_lt (Nat.div_le_self _ _) hB
  have c45 := fun w => shl4 (B / 2 ^ f) f w hd (by omega)
  have hle : B / 2 ^ f * 2 ^ f ≤ B := Nat.div_mul_le_self _ _
  have c39 := fun w => sub4 B (B / 2 ^ f * 2 ^ f) w hB (Nat.lt_of_le_of_lt hle hB)
  rw [A4_sub hle, show B - B / 2 ^ f * 2 ^ f = B % 2 ^ f by have := Nat.div_add_mod' B (2 ^ f); omega, if_neg (show ¬ B < B / 2 ^ f * 2 ^ f by omega)] at c39
  have hand := mod_and (f := f) (B := B) he15
  unfold sgB
  rw [Int.natCast_add] at c43
  clear h hd hle hB
  generalize ((B / 2 ^ (f + e) % 2 : Nat) : Int) = S at *
  generalize ((B / 2 ^ f % 2 ^ e : Nat) : Int) = E at *
  generalize ((2 ^ e - 1 : Nat) : Int) = sp at *
  generalize B % 2 ^ f = Fr at *
  generalize B / 2 ^ f * 2 ^ f = Sh at *
  generalize B / 2 ^ f = Ab at *
  go_enter Tryd.func30, Tryd.ntmps30
  go_wp2_with (first
    | (go_at_call 44; refine (c43 _).mono ?_; rintro x w1 ⟨rfl, hb1⟩; obtain ⟨hc1, hf1⟩ := bcell hb1; have hz1_0 : w.heap.size < w1.heap.size := lt_below hb1 ltg; have hl1_0 := Nat.le_of_lt hz1_0; have hz1_1 : w.heap.size + 1 < w1.heap.size := lt_below hb1 ltg; have hl1_1 := Nat.le_of_lt hz1_1; have hz1_2 : w.heap.size + 1 + 1 < w1.heap.size := lt_below hb1 ltg; have hl1_2 := Nat.le_of_lt hz1_2; have hA1 := bnext (w0 := w) bgo hb1; have hs1 := hA1.size; clear hb1)
    | (go_at_call 45; refine (c44 _).mono ?_; rintro x w2 ⟨rfl, hb2⟩; obtain ⟨hc2, hf2⟩ := bcell hb2; have hz2_0 : w.heap.size < w2.heap.size := lt_below hb2 ltg; have hl2_0 := Nat.le_of_lt hz2_0; have hz2_1 : w.heap.size + 1 < w2.heap.size := lt_below hb2 ltg; have hl2_1 := Nat.le_of_lt hz2_1; have hz2_2 : w.heap.size + 1 + 1 < w2.heap.size := lt_below hb2 ltg; have hl2_2 := Nat.le_of_lt hz2_2; have hA2 := bnext (w0 := w) bgo hb2; have hs2 := hA2.size; clear hb2))
  refine wp_whole (by kernel_rfl) (by kernel_rfl) fun hne hcell => ?_
  repeat go_big_quiet_step (fail)
  go_big_quiet_step ((go_at_call 31; exact calls_wd _ bk_next (c20 _)))
  repeat go_big_quiet_step (fail)
  refine wpQuiet_nil fun w3 hb3 => ?_
  obtain ⟨hc3, hf3⟩ := bcell hb3; have hz3_0 : w.heap.size < w3.heap.size := lt_below hb3 ltg; have hl3_0 := Nat.le_of_lt hz3_0; have hz3_1 : w.heap.size + 1 < w3.heap.size := lt_below hb3 ltg; have hl3_1 := Nat.le_of_lt hz3_1; have hz3_2 : w.heap.size + 1 + 1 < w3.heap.size := lt_below hb3 ltg; have hl3_2 := Nat.le_of_lt hz3_2; have hz3_3 : w2.heap.size < w3.heap.size := lt_below hb3 ltg; have hl3_3 := Nat.le_of_lt hz3_3; have hA3 := bnext (w0 := w) bgo hb3; have hs3 := hA3.size; clear hb3
  go_wp2
  refine wp_tail 6 (by kernel_rfl) (by kernel_rfl) (by kernel_rfl) (fun _ _ d _ _ h => by cases d <;> exact h) fun hne hcell => ?_
  simp only [List.take_succ_cons, List.take_zero, List.drop_succ_cons, List.drop_zero]
  repeat go_big_quiet_step (fail)
  go_big_quiet_step ((go_at_call 47; exact calls_wd _ bk_next (c45 _)))
  repeat go_big_quiet_step (fail)
  go_big_quiet_step ((go_at_call 46; exact calls_wd _ bk_next (c39 _)))
  repeat go_big_quiet_step (fail)
  refine wpQuiet_nil fun w4 hb4 => ?_
  obtain ⟨hc4, hf4⟩ := bcell hb4; have hz4_0 : w.heap.size < w4.heap.size := lt_below hb4 ltg; have hl4_0 := Nat.le_of_lt hz4_0; have hz4_1 : w.heap.size + 1 < w4.heap.size := lt_below hb4 ltg; have hl4_1 := Nat.le_of_lt hz4_1; have hz4_2 : w.heap.size + 1 + 1 < w4.heap.size := lt_below hb4 ltg; have hl4_2 := Nat.le_of_lt hz4_2; have hz4_3 : w2.heap.size < w4.heap.size := lt_below hb4 ltg; have hl4_3 := Nat.le_of_lt hz4_3; have hA4 := bnext (w0 := w) bgo hb4; have hs4 := hA4.size; clear hb4
  have k4_wheapsize11_0 : w4.cell? ⟨w.heap.size + 1 + 1, 0, none⟩ = some (.int .u64 0) := (by go_simp); have k4_wheapsize11_1 : w4.cell? ⟨w.heap.size + 1 + 1, 1, none⟩ = some (.int .u64 0) := (by go_simp); have k4_wheapsize11_2 : w4.cell? ⟨w.heap.size + 1 + 1, 2, none⟩ = some (.int .u64 0) := (by go_simp); have k4_wheapsize11_3 : w4.cell? ⟨w.heap.size + 1 + 1, 3, none⟩ = some (.int .u64 0) := (by go_simp)
  go_wp2
  refine wp_tail 5 (by kernel_rfl) (by kernel_rfl) (by kernel_rfl) (fun _ _ d _ _ h => by cases d <;> exact h) fun hne hcell => ?_
  simp only [List.take_succ_cons, List.take_zero, List.drop_succ_cons, List.drop_zero]
  repeat go_big_quiet_step (fail)
  refine wpQuiet_nil fun w5 hb5 => ?_
  obtain ⟨hc5, hf5⟩ := bcell hb5; have hz5_0 : w.heap.size < w5.heap.size := lt_below hb5 ltg; have hl5_0 := Nat.le_of_lt hz5_0; have hz5_1 : w.heap.size + 1 < w5.heap.size := lt_below hb5 ltg; have hl5_1 := Nat.le_of_lt hz5_1; have hz5_2 : w.heap.size + 1 + 1 < w5.heap.size := lt_below hb5 ltg; have hl5_2 := Nat.le_of_lt hz5_2; have hz5_3 : w2.heap.size < w5.heap.size := lt_below hb5 ltg; have hl5_3 := Nat.le_of_lt hz5_3; have hA5 := bnext (w0 := w) bgo hb5; have hs5 := hA5.size; clear hb5
  have k5_wheapsize11_0 : w5.cell? ⟨w.heap.size + 1 + 1, 0, none⟩ = some (.int .u64 (W4 Fr 0)) := (by go_simp); have k5_wheapsize11_1 : w5.cell? ⟨w.heap.size + 1 + 1, 1, none⟩ = some (.int .u64 (W4 Fr 1)) := (by go_simp); have k5_wheapsize11_2 : w5.cell? ⟨w.heap.size + 1 + 1, 2, none⟩ = some (.int .u64 (W4 Fr 2)) := (by go_simp); have k5_wheapsize11_3 : w5.cell? ⟨w.heap.size + 1 + 1, 3, none⟩ = some (.int .u64 (W4 Fr 3)) := (by go_simp)
  obtain ⟨p5_0, p5_1, p5_2, p5_3⟩ := put4 k5_wheapsize11_0 k5_wheapsize11_1 k5_wheapsize11_2 k5_wheapsize11_3 (.int .u64 (W4 Fr 0)) (.int .u64 (W4 Fr 1)) (.int .u64 (W4 Fr 2)) (.int .u64 (W4 Fr 3))
  go_wp2
  exact bodyPost_ret (v := .tuple #[.bool (S == 1), .int .u64 E, A4 Fr]) (by simp only [results, Tryd.results30]; go_simp) rfl ⟨rfl, bgo⟩
end Go.Proofs.YtgknbdehlmlipaaDoor

namespace Go.Proofs.YtgknbdehlmlipaaDoor
open Go.RowKit

theorem cell_set_map (W : World) (b i : Nat) (v : Value) : (W.setCell ⟨b, i, none⟩ v).cell? ⟨b, i, none⟩ = (W.cell? ⟨b, i, none⟩).map fun _ => v := by
  unfold World.cell? World.setCell
  simp only [Array.getElem?_modify, if_true]
  cases h : W.heap[b]? with
  | none => simp
  | some o =>
    cases o with
    | cells c e fr =>
      simp only [Option.map_some, Option.isSome_none, Bool.false_eq_true, if_false]
      by_cases hi : i < c.size
      · simp [hi]
      · simp [hi]
    | _ => simp
/-- a datum: class, sign, signal, exponent, coefficient -/
structure Dat where
  c : Int
  s : Bool
  g : Bool
  x : Int
  k : Nat
abbrev DV (c : Int) (s g : Bool) (x : Int) (k : Nat) : Value := .agg #[.int .i64 c, .bool s, .bool g, .int .i64 x, .int .u64 (W4 k 0), .int .u64 (W4 k 1), .int .u64 (W4 k 2), .int .u64 (W4 k 3)]
abbrev Dat.v (d : Dat) : Value := DV d.c d.s d.g d.x d.k
theorem W4_zero (i : Nat) : W4 0 i = 0 := by unfold W4; simp
/-- what the pattern with that fraction means, the exponent all ones -/
def spc (f : Nat) (s : Bool) (F : Nat) : Dat := if F = 0 then ⟨2, s, false, 0, 0⟩ else if F < 2 ^ (f - 1) then ⟨3, s, true, 0, F⟩ else ⟨3, s, false, 0, F - 2 ^ (f - 1)⟩

set_option maxHeartbeats 1000000 in
theorem special_zero (f e : Nat) (l m : Int) (s : Bool) (w : World) :
    Calls Tryd.prog 32 #[LV f e l m, .bool s, A4 0] w fun x w' => x = .returned (DV 2 s false 0 0) ∧ Below w.heap.size w w' := by
  have c46 := fun w => len4' 0 w
  rw [(len4_zero (A := 0) (by decide)).2 rfl] at c46
  unfold DV
  simp only [A4, W4_zero] at c46 ⊢
  go_enter Tryd.func32, Tryd.ntmps32
  go_wp2_with (go_at_call 48; refine (c46 _).mono ?_; rintro x w1 ⟨rfl, hb1⟩; obtain ⟨hc1, hf1⟩ := bcell hb1; have hz1_0 : w.heap.size < w1.heap.size := lt_below hb1 ltg; have hl1_0 := Nat.le_of_lt hz1_0; have hz1_1 : w.heap.size + 1 < w1.heap.size := lt_below hb1 ltg; have hl1_1 := Nat.le_of_lt hz1_1; have hz1_2 : w.heap.size + 1 + 1 < w1.heap.size := lt_below hb1 ltg; have hl1_2 := Nat.le_of_lt hz1_2; have hA1 := bnext (w0 := w) bgo hb1; have hs1 := hA1.size; clear hb1)
  have hsm := cell_set_map
  exact bodyPost_ret (v := .agg #[.int .i64 2, .bool s, .bool false, .int .i64 0, .int .u64 0, .int .u64 0, .int .u64 0, .int .u64 0]) (by simp only [results, Tryd.results32]; go_simp) rfl ⟨rfl, bgo⟩
set_option maxHeartbeats 1000000 in
theorem special_nan (f e : Nat) (l m : Int) (s : Bool) (F : Nat) (w : World) (h : Fm f e l m) (hF : F < 2 ^ 256) (h0 : F ≠ 0) :
    Calls Tryd.prog 32 #[LV f e l m, .bool s, A4 F] w fun x w' => x = .returned (if F < 2 ^ (f - 1) then DV 3 s true 0 F else DV 3 s false 0 (F - 2 ^ (f - 1))) ∧ Below w.heap.size w w' := by
  have hf2 := h.f2
  have hf240 := h.f240
  have c46 := fun w => len4' F w
  have hL : lenL (W4 F) 4 ≠ 0 := fun h1 => h0 ((len4_zero hF).1 h1)
  generalize lenL (W4 F) 4 = L at *
  have hLb : (L == 0) = false := by simpa using hL
  have c47 := fun w => quiet_any f e l m w h
  have c39 := fun w => sub4 F (2 ^ (f - 1)) w hF (Nat.pow_lt_pow_right (by decide) (by omega))
  clear h hF h0 hL hf2 hf240
  by_cases hlt : F < 2 ^ (f - 1)
  · rw [if_pos hlt]
    rw [if_pos hlt] at c39
    clear hlt
    generalize F + 2 ^ 256 - 2 ^ (f - 1) = Pl at *
    generalize 2 ^ (f - 1) = Qt at *
    go_enter Tryd.func32, Tryd.ntmps32
    go_wp2_with (go_at_call 48; refine (c46 _).mono ?_; rintro x w1 ⟨rfl, hb1⟩; obtain ⟨hc1, hf1⟩ := bcell hb1; have hz1_0 : w.heap.size < w1.heap.size := lt_below hb1 ltg; have hl1_0 := Nat.le_of_lt hz1_0; have hz1_1 : w.heap.size + 1 < w1.heap.size := lt_below hb1 ltg; have hl1_1 := Nat.le_of_lt hz1_1; have hz1_2 : w.heap.size + 1 + 1 < w1.heap.size := lt_below hb1 ltg; have hl1_2 := Nat.le_of_lt hz1_2; have hA1 := bnext (w0 := w) bgo hb1; have hs1 := hA1.size; clear hb1)
    refine wp_made 4 7 7 #[.int .u64 0, .int .u64 0, .int .u64 0, .int .u64 0] (by kernel_rfl) (by kernel_rfl) (by kernel_rfl) rfl (fun oa hoa a w => ?_) (by kernel_rfl) (by kernel_rfl) rfl rfl (fun _ _ d _ _ h => by cases d <;> exact h) ?_
    · cases hoa; exact ⟨23, by simp [go_sem]⟩
    apply Exists.intro
    refine ⟨fun al hne hcell => ?_, fun w2 hb2 => ?_, fun g w2 hb2 hg0 hg1 hg2 hg3 => ?_⟩
    · simp only [List.take_succ_cons, List.take_zero]
      repeat go_big_quiet_step (fail)
      go_big_quiet_step ((go_at_call 49; exact calls_wd _ al_next (c47 _)))
      repeat go_big_quiet_step (fail)
      go_big_quiet_step ((go_at_call 46; exact calls_wd _ al_next (c39 _)))
      exact wpQuiet_nil rfl
    · simp only [List.drop_succ_cons, List.drop_zero]
      obtain ⟨hc2, hf2⟩ := bcell hb2; have hz2_0 : w.heap.size < w2.heap.size := lt_below hb2 ltg; have hl2_0 := Nat.le_of_lt hz2_0; have hz2_1 : w.heap.size + 1 < w2.heap.size := lt_below hb2 ltg; have hl2_1 := Nat.le_of_lt hz2_1; have hz2_2 : w.heap.size + 1 + 1 < w2.heap.size := lt_below hb2 ltg; have hl2_2 := Nat.le_of_lt hz2_2; have hA2 := bnext (w0 := w) bgo hb2; have hs2 := hA2.size; clear hb2
      go_wp2
      have hsm := cell_set_map
      exact bodyPost_ret (v := DV 3 s true 0 F) (by simp only [results, Tryd.results32]; go_simp) rfl ⟨rfl, bgo⟩
    · simp only [List.drop_succ_cons, List.drop_zero, Nat.reduceSub, List.eraseIdx_cons_succ, List.eraseIdx_cons_zero]
      have hgw := hA1.size
      have hz0 : g ≠ w.heap.size := by omega
      have hz1 : g ≠ w.heap.size + 1 := by omega
      have hz2 : g ≠ w.heap.size + 1 + 1 := by omega
      obtain ⟨hc2, hf2⟩ := bcell hb2; have hz2_0 : w.heap.size < w2.heap.size := lt_below hb2 ltg; have hl2_0 := Nat.le_of_lt hz2_0; have hz2_1 : w.heap.size + 1 < w2.heap.size := lt_below hb2 ltg; have hl2_1 := Nat.le_of_lt hz2_1; have hz2_2 : w.heap.size + 1 + 1 < w2.heap.size := lt_below hb2 ltg; have hl2_2 := Nat.le_of_lt hz2_2; have hA2 := bnext (w0 := w) bgo hb2; have hs2 := hA2.size; clear hb2
      have hsm := cell_set_map
      go_wp2
      exact bodyPost_ret (v := DV 3 s true 0 F) (by simp only [results, Tryd.results32]; go_simp) rfl ⟨rfl, bgo⟩
  · rw [if_neg hlt]
    rw [if_neg hlt, A4_sub (by omega)] at c39
    clear hlt
    generalize F - 2 ^ (f - 1) = Pl at *
    generalize 2 ^ (f - 1) = Qt at *
    go_enter Tryd.func32, Tryd.ntmps32
    go_wp2_with (go_at_call 48; refine (c46 _).mono ?_; rintro x w1 ⟨rfl, hb1⟩; obtain ⟨hc1, hf1⟩ := bcell hb1; have hz1_0 : w.heap.size < w1.heap.size := lt_below hb1 ltg; have hl1_0 := Nat.le_of_lt hz1_0; have hz1_1 : w.heap.size + 1 < w1.heap.size := lt_below hb1 ltg; have hl1_1 := Nat.le_of_lt hz1_1; have hz1_2 : w.heap.size + 1 + 1 < w1.heap.size := lt_below hb1 ltg; have hl1_2 := Nat.le_of_lt hz1_2; have hA1 := bnext (w0 := w) bgo hb1; have hs1 := hA1.size; clear hb1)
    refine wp_made 4 7 7 #[.int .u64 0, .int .u64 0, .int .u64 0, .int .u64 0] (by kernel_rfl) (by kernel_rfl) (by kernel_rfl) rfl (fun oa hoa a w => ?_) (by kernel_rfl) (by kernel_rfl) rfl rfl (fun _ _ d _ _ h => by cases d <;> exact h) ?_
    · cases hoa; exact ⟨23, by simp [go_sem]⟩
    apply Exists.intro
    refine ⟨fun al hne hcell => ?_, fun w2 hb2 => ?_, fun g w2 hb2 hg0 hg1 hg2 hg3 => ?_⟩
    · simp only [List.take_succ_cons, List.take_zero]
      repeat go_big_quiet_step (fail)
      go_big_quiet_step ((go_at_call 49; exact calls_wd _ al_next (c47 _)))
      repeat go_big_quiet_step (fail)
      go_big_quiet_step ((go_at_call 46; exact calls_wd _ al_next (c39 _)))
      exact wpQuiet_nil rfl
    · simp only [List.drop_succ_cons, List.drop_zero]
      obtain ⟨hc2, hf2⟩ := bcell hb2; have hz2_0 : w.heap.size < w2.heap.size := lt_below hb2 ltg; have hl2_0 := Nat.le_of_lt hz2_0; have hz2_1 : w.heap.size + 1 < w2.heap.size := lt_below hb2 ltg; have hl2_1 := Nat.le_of_lt hz2_1; have hz2_2 : w.heap.size + 1 + 1 < w2.heap.size := lt_below hb2 ltg; have hl2_2 := Nat.le_of_lt hz2_2; have hA2 := bnext (w0 := w) bgo hb2; have hs2 := hA2.size; clear hb2
      go_wp2
      have hsm := cell_set_map
      exact bodyPost_ret (v := DV 3 s false 0 Pl) (by simp only [results, Tryd.results32]; go_simp) rfl ⟨rfl, bgo⟩
    · simp only [List.drop_succ_cons, List.drop_zero, Nat.reduceSub, List.eraseIdx_cons_succ, List.eraseIdx_cons_zero]
      have hgw := hA1.size
      have hz0 : g ≠ w.heap.size := by omega
      have hz1 : g ≠ w.heap.size + 1 := by omega
      have hz2 : g ≠ w.heap.size + 1 + 1 := by omega
      obtain ⟨hc2, hf2⟩ := bcell hb2; have hz2_0 : w.heap.size < w2.heap.size := lt_below hb2 ltg; have hl2_0 := Nat.le_of_lt hz2_0; have hz2_1 : w.heap.size + 1 < w2.heap.size := lt_below hb2 ltg; have hl2_1 := Nat.le_of_lt hz2_1; have hz2_2 : w.heap.size + 1 + 1 < w2.heap.size := lt_below hb2 ltg; have hl2_2 := Nat.le_of_lt hz2_2; have hA2 := bnext (w0 := w) bgo hb2; have hs2 := hA2.size; clear hb2
      have hsm := cell_set_map
      go_wp2
      exact bodyPost_ret (v := DV 3 s false 0 Pl) (by simp only [results, Tryd.results32]; go_simp) rfl ⟨rfl, bgo⟩
theorem special_spc (f e : Nat) (l m : Int) (s : Bool) (F : Nat) (w : World) (h : Fm f e l m) (hF : F < 2 ^ 256) :
    Calls Tryd.prog 32 #[LV f e l m, .bool s, A4 F] w fun x w' => x = .returned (spc f s F).v ∧ Below w.heap.size w w' := by
  unfold spc
  by_cases h0 : F = 0
  · subst h0
    rw [if_pos rfl]
    exact special_zero f e l m s w
  · rw [if_neg h0]
    refine (special_nan f e l m s F w h hF h0).mono ?_
    rintro x w' ⟨rfl, hb⟩
    refine ⟨?_, hb⟩
    split <;> rfl
end Go.Proofs.YtgknbdehlmlipaaDoor

namespace Go.Proofs.YtgknbdehlmlipaaDoor
open Go.RowKit

/-- a binary format -/
def binN (n : Int) : Prop := 1 ≤ n ∧ n ≤ 6
instance (n : Int) : Decidable (binN n) := inferInstanceAs (Decidable (_ ∧ _))
def fN (n : Int) : Nat := (precN n - 1).toNat
def eN (n : Int) : Nat := (expN n).toNat
theorem bin_cases {n : Int} (h : binN n) : n = 1 ∨ n = 2 ∨ n = 3 ∨ n = 4 ∨ n = 5 ∨ n = 6 := by unfold binN at h; omega
theorem bin_fm {n : Int} (h : binN n) : Fm (fN n) (eN n) (leastN n) (mostN n) := by
  rcases bin_cases h with rfl | rfl | rfl | rfl | rfl | rfl <;> exact ⟨by decide, by decide, by decide, by decide, by decide, by decide, by decide, by decide⟩
theorem bin_fields {n : Int} (h : binN n) : okN n ∧ baseN n = 2 ∧ precN n = (fN n : Int) + 1 ∧ expN n = (eN n : Int) ∧ widthN n = ((fN n + eN n + 1 : Nat) : Int) ∧ payN n = (fN n : Int) - 1 := by
  rcases bin_cases h with rfl | rfl | rfl | rfl | rfl | rfl <;> exact ⟨by decide, by decide, by decide, by decide, by decide, by decide⟩
theorem not_bin {n : Int} (h : ¬ binN n) : (okN n ∧ baseN n = 10) ∨ ¬ okN n := by
  by_cases hk : okN n
  · left
    refine ⟨hk, ?_⟩
    rcases okN_cases hk with rfl | rfl | rfl | rfl | rfl | rfl | rfl | rfl | rfl | rfl | rfl | rfl <;> first | rfl | exact absurd (by decide) h
  · exact Or.inr hk
abbrev LZ : Value := .agg #[.int .i64 0, .int .i64 0, .int .i64 0, .int .i64 0]

set_option maxHeartbeats 1000000 in
theorem layoutOf_ok (n : Int) (w : World) (hT : Tab w) (h : binN n) :
    Calls Tryd.prog 43 #[.int .i64 n] w fun x w' => x = .returned (.tuple #[LV (fN n) (eN n) (leastN n) (mostN n), .int .i64 0]) ∧ Below w.heap.size w w' := by
  have c1 := fun w hT => ofv_any n w hT
  obtain ⟨hk, hb, hp, he, hw, hy⟩ := bin_fields h
  have hE : infoE n = 0 := if_pos hk
  have hF := bin_fm h
  have hf1 := hF.f240
  simp only [hE, hb, hp, he] at c1
  clear hE hb hp he hw hy hk hF
  go_enter Tryd.func43, Tryd.ntmps43
  go_wp2_with (go_at_call 20; refine (c1 _ (hT.alloc _)).mono ?_; rintro x w1 ⟨rfl, hb1⟩; obtain ⟨hc1, hf1⟩ := bcell hb1; have hz1_0 : w.heap.size < w1.heap.size := lt_below hb1 ltg; have hl1_0 := Nat.le_of_lt hz1_0; have hA1 := bnext (w0 := w) bgo hb1; have hs1 := hA1.size; clear hb1)
  have hsm := cell_set_map
  exact bodyPost_ret (v := .tuple #[LV (fN n) (eN n) (leastN n) (mostN n), .int .i64 0]) (by simp only [results, Tryd.results43]; go_simp) rfl ⟨rfl, bgo⟩
set_option maxHeartbeats 1000000 in
theorem layoutOf_bad (n : Int) (w : World) (hT : Tab w) (h : ¬ binN n) :
    Calls Tryd.prog 43 #[.int .i64 n] w fun x w' => x = .returned (.tuple #[LZ, .int .i64 1]) ∧ Below w.heap.size w w' := by
  have c1 := fun w hT => ofv_any n w hT
  rcases not_bin h with ⟨hk, hb⟩ | hk
  · have hE : infoE n = 0 := if_pos hk
    simp only [hE, hb] at c1
    clear hE hb hk h
    go_enter Tryd.func43, Tryd.ntmps43
    go_wp2_with (go_at_call 20; refine (c1 _ (hT.alloc _)).mono ?_; rintro x w1 ⟨rfl, hb1⟩; obtain ⟨hc1, hf1⟩ := bcell hb1; have hz1_0 : w.heap.size < w1.heap.size := lt_below hb1 ltg; have hl1_0 := Nat.le_of_lt hz1_0; have hA1 := bnext (w0 := w) bgo hb1; have hs1 := hA1.size; clear hb1)
    have hsm := cell_set_map
    exact bodyPost_ret (v := .tuple #[LZ, .int .i64 1]) (by simp only [results, Tryd.results43]; go_simp) rfl ⟨rfl, bgo⟩
  · have hE : infoE n = 1 := if_neg hk
    simp only [hE] at c1
    clear hE hk h
    go_enter Tryd.func43, Tryd.ntmps43
    go_wp2_with (go_at_call 20; refine (c1 _ (hT.alloc _)).mono ?_; rintro x w1 ⟨rfl, hb1⟩; obtain ⟨hc1, hf1⟩ := bcell hb1; have hz1_0 : w.heap.size < w1.heap.size := lt_below hb1 ltg; have hl1_0 := Nat.le_of_lt hz1_0; have hA1 := bnext (w0 := w) bgo hb1; have hs1 := hA1.size; clear hb1)
    have hsm := cell_set_map
    exact bodyPost_ret (v := .tuple #[LZ, .int .i64 1]) (by simp only [results, Tryd.results43]; go_simp) rfl ⟨rfl, bgo⟩

/-- a binary format's pattern -/
def goodN (n : Int) (B : Nat) : Prop := binN n ∧ B < 2 ^ (fN n + eN n + 1)
instance (n : Int) (B : Nat) : Decidable (goodN n B) := inferInstanceAs (Decidable (_ ∧ _))
theorem A4_get (B : Nat) : ∀ i, i < 4 → (#[Value.int .u64 (W4 B 0), .int .u64 (W4 B 1), .int .u64 (W4 B 2), .int .u64 (W4 B 3)] : Array Value)[i]? = some (.int .u64 (W4 B i)) := fun i hi => by
  have : i = 0 ∨ i = 1 ∨ i = 2 ∨ i = 3 := by omega
  rcases this with rfl | rfl | rfl | rfl <;> rfl
theorem fits4 (n : Int) (B : Nat) (hB : B < 2 ^ 256) (w : World) (hT : Tab w) :
    Calls Tryd.prog 42 #[.int .i64 n, A4 B] w fun x w' => x = .returned (.bool (decide (okN n ∧ B < 2 ^ (widthN n).toNat))) ∧ Below w.heap.size w w' := by
  refine (fits_any n (W4 B) (W4_words B) _ (A4_get B) rfl w hT).mono ?_
  rintro x w' ⟨rfl, hb⟩
  refine ⟨?_, hb⟩
  have hwd := (fields_bounds n).2.1
  have e : (fitsP n (W4 B)) ↔ (okN n ∧ B < 2 ^ (widthN n).toNat) := by
    unfold fitsP
    rw [lenL_low]
    have := len4_le (k := (widthN n).toNat) hB
    rw [show (((widthN n).toNat : Nat) : Int) = widthN n by omega] at this
    rw [this]
  rw [decide_eq_decide.2 e]
set_option maxHeartbeats 1000000 in
theorem layoutFor_ok (n : Int) (B : Nat) (w : World) (hT : Tab w) (hB : B < 2 ^ 256) (h : goodN n B) :
    Calls Tryd.prog 29 #[.int .i64 n, A4 B] w fun x w' => x = .returned (.tuple #[LV (fN n) (eN n) (leastN n) (mostN n), .int .i64 0]) ∧ Below w.heap.size w w' := by
  have hF := bin_fields h.1
  have c42 := fun w hT => fits4 n B hB w hT
  rw [decide_eq_true (show okN n ∧ B < 2 ^ (widthN n).toNat from ⟨hF.1, by rw [hF.2.2.2.2.1, Int.toNat_natCast]; exact h.2⟩)] at c42
  have c31 := fun w hT => layoutOf_ok n w hT h.1
  clear hF h hB
  go_enter Tryd.func29, Tryd.ntmps29
  go_wp2_with (first
    | (go_at_call 42; refine (c42 _ ((hT.alloc _).alloc _)).mono ?_; rintro x w1 ⟨rfl, hb1⟩; obtain ⟨hc1, hf1⟩ := bcell hb1; have hz1_0 : w.heap.size < w1.heap.size := lt_below hb1 ltg; have hl1_0 := Nat.le_of_lt hz1_0; have hz1_1 : w.heap.size + 1 < w1.heap.size := lt_below hb1 ltg; have hl1_1 := Nat.le_of_lt hz1_1; have hA1 := bnext (w0 := w) bgo hb1; have hs1 := hA1.size; clear hb1)
    | (go_at_call 43; refine (c31 _ (hT.go hA1)).mono ?_; rintro x w2 ⟨rfl, hb2⟩; obtain ⟨hc2, hf2⟩ := bcell hb2; have hz2_0 : w.heap.size < w2.heap.size := lt_below hb2 ltg; have hl2_0 := Nat.le_of_lt hz2_0; have hz2_1 : w.heap.size + 1 < w2.heap.size := lt_below hb2 ltg; have hl2_1 := Nat.le_of_lt hz2_1; have hA2 := bnext (w0 := w) bgo hb2; have hs2 := hA2.size; clear hb2))
  have hsm := cell_set_map
  exact bodyPost_ret (v := .tuple #[LV (fN n) (eN n) (leastN n) (mostN n), .int .i64 0]) (by simp only [results, Tryd.results29]; go_simp) rfl ⟨rfl, bgo⟩
set_option maxHeartbeats 1000000 in
theorem layoutFor_bad (n : Int) (B : Nat) (w : World) (hT : Tab w) (hB : B < 2 ^ 256) (h : ¬ goodN n B) :
    Calls Tryd.prog 29 #[.int .i64 n, A4 B] w fun x w' => x = .returned (.tuple #[LZ, .int .i64 1]) ∧ Below w.heap.size w w' := by
  have c42 := fun w hT => fits4 n B hB w hT
  by_cases hf : okN n ∧ B < 2 ^ (widthN n).toNat
  · rw [decide_eq_true hf] at c42
    have hnb : ¬ binN n := fun hb => h ⟨hb, by have := bin_fields hb; rw [this.2.2.2.2.1, Int.toNat_natCast] at hf; exact hf.2⟩
    have c31 := fun w hT => layoutOf_bad n w hT hnb
    clear h hB hf hnb
    go_enter Tryd.func29, Tryd.ntmps29
    go_wp2_with (first
      | (go_at_call 42; refine (c42 _ ((hT.alloc _).alloc _)).mono ?_; rintro x w1 ⟨rfl, hb1⟩; obtain ⟨hc1, hf1⟩ := bcell hb1; have hz1_0 : w.heap.size < w1.heap.size := lt_below hb1 ltg; have hl1_0 := Nat.le_of_lt hz1_0; have hz1_1 : w.heap.size + 1 < w1.heap.size := lt_below hb1 ltg; have hl1_1 := Nat.le_of_lt hz1_1; have hA1 := bnext (w0 := w) bgo hb1; have hs1 := hA1.size; clear hb1)
      | (go_at_call 43; refine (c31 _ (hT.go hA1)).mono ?_; rintro x w2 ⟨rfl, hb2⟩; obtain ⟨hc2, hf2⟩ := bcell hb2; have hz2_0 : w.heap.size < w2.heap.size := lt_below hb2 ltg; have hl2_0 := Nat.le_of_lt hz2_0; have hz2_1 : w.heap.size + 1 < w2.heap.size := lt_below hb2 ltg; have hl2_1 := Nat.le_of_lt hz2_1; have hA2 := bnext (w0 := w) bgo hb2; have hs2 := hA2.size; clear hb2))
    have hsm := cell_set_map
    exact bodyPost_ret (v := .tuple #[LZ, .int .i64 1]) (by simp only [results, Tryd.results29]; go_simp) rfl ⟨rfl, bgo⟩
  · rw [decide_eq_false hf] at c42
    clear h hB hf
    go_enter Tryd.func29, Tryd.ntmps29
    go_wp2_with (go_at_call 42; refine (c42 _ ((hT.alloc _).alloc _)).mono ?_; rintro x w1 ⟨rfl, hb1⟩; obtain ⟨hc1, hf1⟩ := bcell hb1; have hz1_0 : w.heap.size < w1.heap.size := lt_below hb1 ltg; have hl1_0 := Nat.le_of_lt hz1_0; have hz1_1 : w.heap.size + 1 < w1.heap.size := lt_below hb1 ltg; have hl1_1 := Nat.le_of_lt hz1_1; have hA1 := bnext (w0 := w) bgo hb1; have hs1 := hA1.size; clear hb1)
    have hsm := cell_set_map
    exact bodyPost_ret (v := .tuple #[LZ, .int .i64 1]) (by simp only [results, Tryd.results29]; go_simp) rfl ⟨rfl, bgo⟩
end Go.Proofs.YtgknbdehlmlipaaDoor

namespace Go.Proofs.YtgknbdehlmlipaaDoor
open Go.RowKit
/-- a natural number, of at most K words -/
def NV (K V : Nat) (v : Value) (w : World) : Prop := ∃ g k cap z, v = .slice (some ⟨g, 0, none⟩) k cap ∧ k ≤ K ∧ Num w (some ⟨g, 0, none⟩) k cap z ∧ val z k = (V : Int)
theorem NV.next {K V : Nat} {v : Value} {w w' : World} (h : NV K V v w) (hb : Below w.heap.size w w') : NV K V v w' := by
  obtain ⟨g, k, cap, z, h1, h2, h3, h4⟩ := h
  exact ⟨g, k, cap, z, h1, h2, h3.next hb, h4⟩
/-- a natural number without noughts at its end -/
def NT (K V : Nat) (v : Value) (w : World) : Prop := ∃ g k cap z, v = .slice (some ⟨g, 0, none⟩) k cap ∧ k ≤ K ∧ Num w (some ⟨g, 0, none⟩) k cap z ∧ val z k = (V : Int) ∧ sizeL z k = k
theorem NT.next {K V : Nat} {v : Value} {w w' : World} (h : NT K V v w) (hb : Below w.heap.size w w') : NT K V v w' := by
  obtain ⟨g, k, cap, z, h1, h2, h3, h4, h5⟩ := h
  exact ⟨g, k, cap, z, h1, h2, h3.next hb, h4, h5⟩
theorem NT.zero {K V : Nat} {v : Value} {w : World} (h : NT K V v w) : ∃ g k cap, v = .slice (some ⟨g, 0, none⟩) k cap ∧ k ≤ K ∧ (k = 0 ↔ V = 0) := by
  obtain ⟨g, k, cap, z, h1, h2, h3, h4, h5⟩ := h
  refine ⟨g, k, cap, h1, h2, ?_⟩
  constructor
  · intro hk; subst hk
    have : val z 0 = 0 := rfl
    omega
  · intro hV
    rcases Nat.eq_zero_or_pos k with hk | hk
    · exact hk
    · exfalso
      have ht := sizeL_top (x := z) k (by omega)
      rw [h5] at ht
      obtain ⟨j, rfl⟩ : ∃ j, k = j + 1 := ⟨k - 1, by omega⟩
      have hs : val z (j + 1) = val z j + z j * 18446744073709551616 ^ j := rfl
      have hb := val_bd h3.2.2.1 j
      have hp := pw_pos j
      have hj := h3.2.2.1 j
      have hz : z j ≠ 0 := ht
      have : 1 * 18446744073709551616 ^ j ≤ z j * 18446744073709551616 ^ j := Int.mul_le_mul_of_nonneg_right (by omega) (Int.le_of_lt hp)
      omega
end Go.Proofs.YtgknbdehlmlipaaDoor

namespace Go.Proofs.YtgknbdehlmlipaaDoor
open Go.RowKit

/-- a decimal format: T's bits, G's bits behind the five, declets, the least exponent, dense -/
structure DF where
  t : Nat
  w : Nat
  j : Nat
  l : Int
  dn : Bool
def DF.ok (f : DF) : Prop := (f.t = 20 ∧ f.w = 6 ∧ f.j = 2 ∧ f.l = -101) ∨ (f.t = 50 ∧ f.w = 8 ∧ f.j = 5 ∧ f.l = -398) ∨ (f.t = 110 ∧ f.w = 12 ∧ f.j = 11 ∧ f.l = -6176)
/-- the fields of a pattern -/
def vR (f : DF) (B : Nat) : Nat := B % 2 ^ f.t
def vG (f : DF) (B : Nat) : Nat := B / 2 ^ f.t % 2 ^ (f.w + 5)
def vS (f : DF) (B : Nat) : Bool := decide (B / 2 ^ (f.t + (f.w + 5)) % 2 = 1)
/-- the five bits -/
def vV (w G : Nat) : Nat := G / 2 ^ w
/-- the exponent's field, the first digit or bits -/
def vF (dn : Bool) (w G : Nat) : Nat :=
  if dn then (if vV w G < 24 then vV w G / 8 * 2 ^ w + G % 2 ^ w else vV w G / 2 % 4 * 2 ^ w + G % 2 ^ w)
  else (if vV w G < 24 then G / 8 else G / 2 % 2 ^ (w + 2))
def vL (dn : Bool) (w G : Nat) : Nat :=
  if dn then (if vV w G < 24 then vV w G % 8 else 8 + vV w G % 2) else (if vV w G < 24 then G % 8 else 8 + G % 2)
/-- the tail's number -/
def vT (f : DF) (R : Nat) : Nat := if f.dn then dlU f.j R else R
/-- what the first digit counts -/
def vQ (f : DF) : Nat := if f.dn then 10 ^ (3 * f.j) else 2 ^ f.t
/-- what fields mean -/
def vD (f : DF) (s : Bool) (G R : Nat) : Dat :=
  if vV f.w G = 30 then ⟨2, s, false, 0, 0⟩
  else if vV f.w G = 31 then ⟨3, s, decide (G / 2 ^ (f.w - 1) % 2 = 1), 0, if vT f R < 10 ^ (3 * f.j) then vT f R else 0⟩
  else ⟨1, s, false, (vF f.dn f.w G : Int) + f.l, if vL f.dn f.w G * vQ f + vT f R < 10 ^ (3 * f.j + 1) then vL f.dn f.w G * vQ f + vT f R else 0⟩
/-- what a pattern means -/
def vM (f : DF) (B : Nat) : Dat := vD f (vS f B) (vG f B) (vR f B)
/-- a datum is the format's -/
def vI (f : DF) (d : Dat) : Prop :=
  (d.c = 1 ∧ d.g = false ∧ d.k < 10 ^ (3 * f.j + 1) ∧ f.l ≤ d.x ∧ d.x ≤ f.l + 3 * 2 ^ f.w - 1) ∨ (d.c = 2 ∧ d.g = false ∧ d.k = 0 ∧ d.x = 0) ∨ (d.c = 3 ∧ d.x = 0 ∧ d.k < 10 ^ (3 * f.j))
/-- G of an exponent's field and a first digit -/
def vN (dn : Bool) (w E a : Nat) : Nat :=
  if dn then (if 8 ≤ a then 24 + E / 2 ^ w * 2 + a % 2 else E / 2 ^ w * 8 + a) * 2 ^ w + E % 2 ^ w
  else (if 8 ≤ a then 3 * 2 ^ (w + 3) + E * 2 + a % 2 else E * 8 + a)
/-- a datum's fields -/
def vPG (f : DF) (d : Dat) : Nat :=
  if d.c = 2 then 30 * 2 ^ f.w else if d.c = 3 then 31 * 2 ^ f.w + (if d.g then 2 ^ (f.w - 1) else 0)
  else vN f.dn f.w (d.x - f.l).toNat (d.k / vQ f)
def vPR (f : DF) (d : Dat) : Nat :=
  if d.c = 2 then 0 else if d.c = 3 then (if f.dn then dlP f.j d.k else d.k)
  else if f.dn then dlP f.j (d.k % 10 ^ (3 * f.j)) else d.k % 2 ^ f.t
/-- a datum's pattern -/
def vP (f : DF) (d : Dat) : Nat := (if d.s then 2 ^ (f.t + (f.w + 5)) else 0) + vPG f d * 2 ^ f.t + vPR f d

theorem ten3 (j : Nat) : (10 : Nat) ^ (3 * j) = 1000 ^ j := by rw [Nat.pow_mul]
theorem DF.ok.t10 {f : DF} (h : f.ok) : f.t = 10 * f.j := by
  rcases h with ⟨h1, h2, h3, h4⟩ | ⟨h1, h2, h3, h4⟩ | ⟨h1, h2, h3, h4⟩ <;> omega
theorem DF.ok.pt {f : DF} (h : f.ok) : 2 ^ f.t = 1024 ^ f.j := by rw [h.t10, Nat.pow_mul]
theorem vG_lt (f : DF) (B : Nat) : vG f B < 2 ^ (f.w + 5) := Nat.mod_lt _ (Nat.two_pow_pos _)
theorem vR_lt (f : DF) (B : Nat) : vR f B < 2 ^ f.t := Nat.mod_lt _ (Nat.two_pow_pos _)
theorem vT_lt {f : DF} (h : f.ok) (hd : f.dn = true) (R : Nat) : vT f R < 10 ^ (3 * f.j) := by
  unfold vT
  rw [hd, if_pos rfl, ten3]
  exact dlU_lt _ _
/-- what a pattern means is the format's -/
theorem vD_is {f : DF} (h : f.ok) (s : Bool) {G R : Nat} (hG : G < 2 ^ (f.w + 5)) (hR : R < 2 ^ f.t) : vI f (vD f s G R) := by
  have hp : 0 < (10 : Nat) ^ (3 * f.j) := Nat.pow_pos (by decide)
  have hp' : 0 < (10 : Nat) ^ (3 * f.j + 1) := Nat.pow_pos (by decide)
  unfold vD
  by_cases h30 : vV f.w G = 30
  · rw [if_pos h30]; exact Or.inr (Or.inl ⟨rfl, rfl, rfl, rfl⟩)
  · rw [if_neg h30]
    by_cases h31 : vV f.w G = 31
    · rw [if_pos h31]
      refine Or.inr (Or.inr ⟨rfl, rfl, ?_⟩)
      show (if vT f R < 10 ^ (3 * f.j) then vT f R else 0) < 10 ^ (3 * f.j)
      split <;> omega
    · rw [if_neg h31]
      refine Or.inl ⟨rfl, rfl, ?_, ?_, ?_⟩
      · show (if vL f.dn f.w G * vQ f + vT f R < 10 ^ (3 * f.j + 1) then vL f.dn f.w G * vQ f + vT f R else 0) < 10 ^ (3 * f.j + 1)
        split <;> omega
      · show f.l ≤ (vF f.dn f.w G : Int) + f.l
        omega
      · show (vF f.dn f.w G : Int) + f.l ≤ f.l + 3 * 2 ^ f.w - 1
        have : vF f.dn f.w G < 3 * 2 ^ f.w := by
          unfold vF
          unfold vV at *
          rcases h with ⟨h1, h2, h3, h4⟩ | ⟨h1, h2, h3, h4⟩ | ⟨h1, h2, h3, h4⟩ <;> rw [h2] at hG h30 h31 ⊢ <;> cases f.dn <;> simp only [Bool.false_eq_true, if_false, if_true] <;> simp only [Nat.reducePow, Nat.reduceAdd] at * <;> split <;> omega
        have e : ((3 * 2 ^ f.w : Nat) : Int) = 3 * 2 ^ f.w := by simp
        omega
theorem vM_is {f : DF} (h : f.ok) (B : Nat) : vI f (vM f B) := vD_is h _ (vG_lt f B) (vR_lt f B)
theorem vPG_lt {f : DF} (h : f.ok) {d : Dat} (hd : vI f d) : vPG f d < 2 ^ (f.w + 5) := by
  have hq : d.c = 1 → d.k / vQ f ≤ 9 := fun h1 => by
    rcases hd with ⟨_, _, hk, _, _⟩ | ⟨h2, _⟩ | ⟨h2, _⟩
    · unfold vQ
      rcases h with ⟨h1, h2, h3, h4⟩ | ⟨h1, h2, h3, h4⟩ | ⟨h1, h2, h3, h4⟩ <;> rw [h3] at hk ⊢ <;> rw [h1] <;> cases f.dn <;> simp only [Bool.false_eq_true, if_false, if_true] <;> simp only [Nat.reducePow, Nat.reduceAdd, Nat.reduceMul] at * <;> omega
    · omega
    · omega
  unfold vPG
  rcases hd with ⟨c1, g1, hk, hx, hx'⟩ | ⟨c1, g1, hk, hx⟩ | ⟨c1, hx, hk⟩
  · have h9 := hq c1
    rw [if_neg (by omega), if_neg (by omega)]
    generalize d.k / vQ f = a at *
    have hE : (d.x - f.l).toNat < 3 * 2 ^ f.w := by
      have e : ((3 * 2 ^ f.w : Nat) : Int) = 3 * 2 ^ f.w := by simp
      omega
    generalize (d.x - f.l).toNat = E at *
    unfold vN
    rcases h with ⟨h1, h2, h3, h4⟩ | ⟨h1, h2, h3, h4⟩ | ⟨h1, h2, h3, h4⟩ <;> rw [h2] at hE ⊢ <;> cases f.dn <;> simp only [Bool.false_eq_true, if_false, if_true] <;> simp only [Nat.reducePow, Nat.reduceAdd, Nat.reduceMul] at * <;> split <;> omega
  · rw [if_pos c1]
    rcases h with ⟨h1, h2, h3, h4⟩ | ⟨h1, h2, h3, h4⟩ | ⟨h1, h2, h3, h4⟩ <;> rw [h2] <;> decide
  · rw [if_neg (by omega), if_pos c1]
    rcases h with ⟨h1, h2, h3, h4⟩ | ⟨h1, h2, h3, h4⟩ | ⟨h1, h2, h3, h4⟩ <;> rw [h2] <;> cases d.g <;> decide
theorem vPR_lt {f : DF} (h : f.ok) {d : Dat} (hd : vI f d) : vPR f d < 2 ^ f.t := by
  unfold vPR
  rcases hd with ⟨c1, g1, hk, hx, hx'⟩ | ⟨c1, g1, hk, hx⟩ | ⟨c1, hx, hk⟩
  · rw [if_neg (by omega), if_neg (by omega)]
    split
    · rw [h.pt]; exact dlP_lt _ _
    · exact Nat.mod_lt _ (Nat.two_pow_pos _)
  · rw [if_pos c1]; exact Nat.two_pow_pos _
  · rw [if_neg (by omega), if_pos c1]
    split
    · rw [h.pt]; exact dlP_lt _ _
    · refine Nat.lt_of_lt_of_le hk ?_
      rcases h with ⟨h1, h2, h3, h4⟩ | ⟨h1, h2, h3, h4⟩ | ⟨h1, h2, h3, h4⟩ <;> rw [h1, h3] <;> decide
theorem vP_lt {f : DF} (h : f.ok) {d : Dat} (hd : vI f d) : vP f d < 2 ^ (f.t + (f.w + 6)) := by
  have h1 := vPG_lt h hd
  have h2 := vPR_lt h hd
  unfold vP
  have e5 : 2 ^ (f.t + (f.w + 5)) = 2 ^ (f.w + 5) * 2 ^ f.t := by rw [← Nat.pow_add, Nat.add_comm]
  have e6 : 2 ^ (f.t + (f.w + 6)) = 2 * (2 ^ (f.w + 5) * 2 ^ f.t) := by rw [← Nat.pow_add, ← Nat.pow_succ']; congr 1; omega
  have h3 : (if d.s then 2 ^ (f.t + (f.w + 5)) else 0) ≤ 2 ^ (f.w + 5) * 2 ^ f.t := by split <;> omega
  have h4 : (vPG f d + 1) * 2 ^ f.t ≤ 2 ^ (f.w + 5) * 2 ^ f.t := Nat.mul_le_mul_right _ h1
  rw [Nat.add_mul, Nat.one_mul] at h4
  rw [e6]
  omega
theorem vP_256 {f : DF} (h : f.ok) {d : Dat} (hd : vI f d) : vP f d < 2 ^ 256 := by
  refine Nat.lt_of_lt_of_le (vP_lt h hd) (Nat.pow_le_pow_right (by decide) ?_)
  rcases h with ⟨h1, h2, h3, h4⟩ | ⟨h1, h2, h3, h4⟩ | ⟨h1, h2, h3, h4⟩ <;> omega
theorem vM_256 {f : DF} (h : f.ok) (B : Nat) : (vM f B).k < 2 ^ 256 := by
  have hi := vM_is h B
  have e : (10 : Nat) ^ (3 * f.j + 1) ≤ 10 ^ 34 := Nat.pow_le_pow_right (by decide) (by rcases h with ⟨h1, h2, h3, h4⟩ | ⟨h1, h2, h3, h4⟩ | ⟨h1, h2, h3, h4⟩ <;> omega)
  have e' : (10 : Nat) ^ (3 * f.j) ≤ 10 ^ 34 := Nat.pow_le_pow_right (by decide) (by rcases h with ⟨h1, h2, h3, h4⟩ | ⟨h1, h2, h3, h4⟩ | ⟨h1, h2, h3, h4⟩ <;> omega)
  have e2 : (10 : Nat) ^ 34 < 2 ^ 256 := by decide
  rcases hi with ⟨_, _, hk, _⟩ | ⟨_, _, hk, _⟩ | ⟨_, _, hk⟩ <;> omega
end Go.Proofs.YtgknbdehlmlipaaDoor

namespace Go.Proofs.YtgknbdehlmlipaaDoor
open Go.RowKit
attribute [local go_sem] setCell_drewN alloc_drewN

set_option maxHeartbeats 1000000 in
theorem limMul4 (x : Nat → Int) (n : Int) (w : World) (hx : Words x) (hn : 0 ≤ n ∧ n ≤ 18446744073709551615) :
    Calls Tryd.prog 59 #[.agg (arrOf x 4), .int .u64 n] w fun e w' => e = .returned (.tuple #[.agg (arrOf (mulP x n) 4), .int .u64 (mulC x n 4)]) ∧ Below w.heap.size w w' := by
  have sx : (arrOf x 4).size = 4 := arrOf_size x 4
  have gx := fun i h => arrOf_get x 4 i h
  generalize arrOf x 4 = ax at *
  go_enter Tryd.func59, Tryd.ntmps59
  go_wp2
  go_loopw [7, 15] (fun c i wr => ∃ (k : Nat) (ss : Array Value), k ≤ 4 ∧ i = .int .i64 k ∧ c = .int .u64 (mulC x n k) ∧ ss.size = 4 ∧ (∀ j h, ss[j]'h = Value.int .u64 (if j < k then mulP x n j else 0)) ∧ wr = ((w.alloc (.cells ax 23)).alloc (.cells #[.int .u64 0, .int .u64 0, .int .u64 0, .int .u64 0] 23)).alloc (.cells ss 23)) (fun _ i _ => 4 - (intOf i).toNat)
  case atStart => exact ⟨0, _, Nat.zero_le _, rfl, rfl, rfl, by intro j h; have h' : j < 4 := h; match j, h' with | 0, _ => rfl | 1, _ => rfl | 2, _ => rfl | 3, _ => rfl, rfl⟩
  case round =>
    obtain ⟨k, ss, hk, rfl, rfl, hsz, hss, rfl⟩ := hrel
    by_cases h8 : k < 4
    · have h8i : (k : Int) < 4 := by omega
      have h8s : k < ss.size := by omega
      have bx := hx k
      have bc := mulC_word hx hn k
      have bc' := mulC_word hx hn (k + 1)
      have hcx : ∀ h, ax[k]'h = .int .u64 (x k) := fun h => gx k h
      have hsk : ss[k]? = some (.int .u64 0) := by rw [Array.getElem?_eq_getElem h8s, hss k h8s, if_neg (by omega)]
      have HR : Hid (∀ (i : Nat) (h : i < (ss.setIfInBounds k (.int .u64 (mulP x n k))).size), (ss.setIfInBounds k (.int .u64 (mulP x n k)))[i]'h = Value.int .u64 (if i < k + 1 then mulP x n i else 0)) := set_next hss
      have hmul := mul64 (x k) n bx hn
      have e1 : mulC x n (k + 1) = x k * n / 18446744073709551616 + (x k * n % 18446744073709551616 + mulC x n k) / 18446744073709551616 := rfl
      have e2 : mulP x n k = (x k * n % 18446744073709551616 + mulC x n k) % 18446744073709551616 := rfl
      rw [e1] at bc'
      have HE1 : Hid (mulC x n (k + 1) = x k * n / 18446744073709551616 + (x k * n % 18446744073709551616 + mulC x n k) / 18446744073709551616) := e1
      have HE2 : Hid (mulP x n k = (x k * n % 18446744073709551616 + mulC x n k) % 18446744073709551616) := e2
      have hP : 0 ≤ x k * n := Int.mul_nonneg bx.1 hn.1
      clear hss gx e1 e2 hx
      generalize x k * n = P at *
      have hL : 0 ≤ P % 18446744073709551616 := by omega
      have hH : 0 ≤ P / 18446744073709551616 := by omega
      generalize P / 18446744073709551616 = hi at *
      generalize P % 18446744073709551616 = lo at *
      generalize hCC : mulC x n k = c at *
      have hadd := fun w => add64z lo c hL bc.1 w
      go_wp2_with (go_at_call 71; refine (hmul _).mono ?_; rintro e w' ⟨rfl, rfl⟩)
      go_roundw
      case rel => refine ⟨k + 1, ss.setIfInBounds k (.int .u64 (mulP x n k)), by omega, by go_num, by rw [HE1.out], by simp [hsz], HR.out, by rw [HE2.out]⟩
      case measure => simp [intOf]; omega
    · obtain rfl : k = 4 := by omega
      have hss' : ∀ j h, ss[j]'h = Value.int .u64 (mulP x n j) := by
        intro j h; rw [hss j h, if_pos (by omega)]
      clear hss
      go_wp2
      exact bodyPost_ret (v := .tuple #[.agg (arrOf (mulP x n) 4), .int .u64 (mulC x n 4)]) (by simp [results, Tryd.results59, go_sem]; rfl) rfl ⟨rfl, below_alloc3 _ _ _ _ 0⟩
set_option maxHeartbeats 1000000 in
theorem limDiv4 (x : Nat → Int) (d : Int) (w : World) (hd : 0 < d ∧ d ≤ 18446744073709551615)
    (H : ∀ j, j < 4 → ∀ w, Calls Tryd.prog 85 #[.int .u64 (remJ x d 4 (4 - 1 - j)), .int .u64 (x j), .int .u64 d] w fun e w' => e = .returned (.tuple #[.int .u64 (quoW x d 4 j), .int .u64 (remJ x d 4 (4 - j))]) ∧ ∃ m, w' = w.drewN m) :
    Calls Tryd.prog 82 #[.agg (arrOf x 4), .int .u64 d] w fun e w' => e = .returned (.tuple #[.agg (arrOf (quoW x d 4) 4), .int .u64 (remJ x d 4 4)]) ∧ Below w.heap.size w w' := by
  have sx : (arrOf x 4).size = 4 := arrOf_size x 4
  have gx := fun i h => arrOf_get x 4 i h
  have hd0 : (d == 0) = false := by simp; omega
  generalize arrOf x 4 = ax at *
  go_enter Tryd.func82, Tryd.ntmps82
  go_wp2
  go_loopw [7, 8, 19] (fun c i u19 wr => ∃ (k m : Nat) (ss : Array Value), k ≤ 4 ∧ i = .int .i64 ((k : Int) - 1) ∧ c = .int .u64 (remJ x d 4 (4 - k)) ∧ ss.size = 4 ∧ (∀ j h, ss[j]'h = Value.int .u64 (if k ≤ j then quoW x d 4 j else 0)) ∧ wr = ((((w.alloc (.cells ax 23)).alloc (.cells #[.int .u64 0, .int .u64 0, .int .u64 0, .int .u64 0] 23)).alloc (.cells ss 23)).drewN m)) (fun _ i _ _ => (intOf i + 1).toNat)
  case atStart => exact ⟨4, 0, _, Nat.le_refl _, rfl, rfl, rfl, by intro j h; have h' : j < 4 := h; match j, h' with | 0, _ => rfl | 1, _ => rfl | 2, _ => rfl | 3, _ => rfl, rfl⟩
  case round =>
    obtain ⟨k, m, ss, hk, rfl, rfl, hsz, hss, rfl⟩ := hrel
    by_cases h0 : k = 0
    · subst h0
      have hss' : ∀ j h, ss[j]'h = Value.int .u64 (quoW x d 4 j) := by
        intro j h; rw [hss j h, if_pos (by omega)]
      clear hss H
      go_wp2
      exact bodyPost_ret (v := .tuple #[.agg (arrOf (quoW x d 4) 4), .int .u64 (remJ x d 4 4)]) (by simp [results, Tryd.results82, go_sem]; rfl) rfl ⟨rfl, below_alloc3 _ _ _ _ _⟩
    · obtain ⟨j, rfl⟩ : ∃ j, k = j + 1 := ⟨k - 1, by omega⟩
      have hj8 : (j : Int) < 4 := by omega
      have ej : ((j + 1 : Nat) : Int) - 1 = j := by omega
      have ej2 : 4 - (j + 1) = 4 - 1 - j := by omega
      rw [ej, ej2]
      have hjs : j < ss.size := by omega
      have hcx : ax[j]? = some (.int .u64 (x j)) := by rw [Array.getElem?_eq_getElem (by omega), gx j (by omega)]
      have HJ := H j (by omega)
      have hsj : ss[j]? = some (.int .u64 0) := by rw [Array.getElem?_eq_getElem hjs, hss j hjs, if_neg (by omega)]
      have hrel1 := set_prev (k := j) (f := quoW x d 4) hss
      have HR : Hid (∀ (i : Nat) (h : i < (ss.setIfInBounds j (.int .u64 (quoW x d 4 j))).size), (ss.setIfInBounds j (.int .u64 (quoW x d 4 j)))[i]'h = Value.int .u64 (if j ≤ i then quoW x d 4 i else 0)) := hrel1
      clear hss H hrel1 ej ej2
      go_wp2_with (go_at_call 85; refine (HJ _).mono ?_; rintro e w' ⟨rfl, m', rfl⟩)
      go_roundw
      case rel => exact ⟨j, m + m', ss.setIfInBounds j (.int .u64 (quoW x d 4 j)), by omega, by go_num, rfl, by simp [hsz], HR.out, rfl⟩
      case measure => simp [intOf]
/-- a product by one word -/
theorem mul4 (A n : Nat) (w : World) (hA : A < 2 ^ 256) (hn : n < 18446744073709551616) :
    Calls Tryd.prog 59 #[A4 A, .int .u64 (n : Int)] w fun e w' => e = .returned (.tuple #[A4 (A * n), .int .u64 ((A * n / 2 ^ 256 : Nat) : Int)]) ∧ Below w.heap.size w w' := by
  refine (limMul4 (W4 A) n w (W4_words A) (by omega)).mono ?_
  rintro e w' ⟨rfl, hb⟩
  refine ⟨?_, hb⟩
  have hs := mul_val (W4 A) (n : Int) 4
  have hv := val_bd (mulP_words (W4 A) (n : Int)) 4
  have hc := mulC_word (W4_words A) (n := (n : Int)) (by omega) 4
  rw [W4_val4 hA] at hs
  have e4 : (18446744073709551616 : Int) ^ 4 = 115792089237316195423570985008687907853269984665640564039457584007913129639936 := by decide
  have e4n : (2 : Nat) ^ 256 = 115792089237316195423570985008687907853269984665640564039457584007913129639936 := by decide
  have hcast : (A : Int) * (n : Int) = ((A * n : Nat) : Int) := by simp
  rw [e4, hcast] at hs
  rw [e4] at hv
  rw [e4n]
  generalize A * n = P at *
  rw [arr_A4 (mulP_words _ _) (A := P) (by rw [e4n]; omega)]
  have : mulC (W4 A) (n : Int) 4 = ((P / 115792089237316195423570985008687907853269984665640564039457584007913129639936 : Nat) : Int) := by omega
  rw [this]
/-- a quotient by one word, and the rest -/
theorem div4 (A d : Nat) (w : World) (hA : A < 2 ^ 256) (hd : 0 < d) (hd' : d < 18446744073709551616) :
    Calls Tryd.prog 82 #[A4 A, .int .u64 (d : Int)] w fun e w' => e = .returned (.tuple #[A4 (A / d), .int .u64 ((A % d : Nat) : Int)]) ∧ Below w.heap.size w w' := by
  have hdi : 0 < (d : Int) ∧ (d : Int) ≤ 18446744073709551615 := by omega
  refine (limDiv4 (W4 A) d w hdi (fun j hj w => limDiv_ok (W4 A) d 4 (W4_words A) hdi j hj w)).mono ?_
  rintro e w' ⟨rfl, hb⟩
  refine ⟨?_, hb⟩
  have hs := div_val (W4 A) (d : Int) 4 4 (Nat.le_refl _)
  have hr := remJ_bd (W4 A) (d : Int) 4 4 hdi.1
  obtain ⟨Q, hQ⟩ : ∃ Q, val (quoW (W4 A) (d : Int) 4) 4 = Q := ⟨_, rfl⟩
  rw [W4_val4 hA, hQ] at hs
  simp only [Nat.sub_self, val, Int.zero_add, Int.pow_zero, Int.mul_one, Int.sub_zero] at hs
  generalize hq : remJ (W4 A) (d : Int) 4 4 = r at *
  have h1 : (A : Int) % (d : Int) = r := by
    rw [← hs, Int.add_mul_emod_self_left, Int.emod_eq_of_lt hr.1 hr.2]
  have h2 : val (quoW (W4 A) (d : Int) 4) 4 = (A : Int) / (d : Int) := by
    rw [hQ]
    have : (A : Int) / (d : Int) = r / (d : Int) + Q := by
      rw [← Int.add_mul_ediv_left r _ (show (d : Int) ≠ 0 by omega)]
      exact congrArg (· / (d : Int)) hs.symm
    rw [this, Int.ediv_eq_zero_of_lt hr.1 hr.2, Int.zero_add]
  have hlt : A / d < 2 ^ 256 := Nat.lt_of_le_of_lt (Nat.div_le_self _ _) hA
  rw [arr_A4 (quoW_words (W4_words A) hdi.1 4) (A := A / d) (by rw [h2, Nat.mod_eq_of_lt hlt]; simp), ← h1]
  simp
end Go.Proofs.YtgknbdehlmlipaaDoor
