/-
  Texts that the proof leans on, joined: Ovm, Muls, Ove, Lvm, Lv4, Qt, Bs.
-/
import Derived.Test.YtjjaamdgochilaaDoorJ6
import Derived.Test.YtjjaamdgochilaaDoorJ5
import Derived.Test.YtjjaamdgochilaaDoorJ4
import Derived.BigQuiet
import Derived.StillTail
import Derived.WalkKit
import Derived.Test.YtjjaamdgochilaaDoorJ3
set_option linter.unusedVariables false
set_option linter.unusedSimpArgs false
set_option maxRecDepth 20000
set_option linter.unusedSectionVars false
namespace Go.Proofs.YtjjaamdgochilaaDoor
open Go.RowKit

theorem p64' (q r : Nat) : (18446744073709551616 : Int) ^ q * 2 ^ r = 2 ^ (64 * q + r) := by rw [Int.mul_comm]; exact p64 q r
/-- a number lies between two powers of two, by its length -/
theorem len_bd {x : Nat → Int} (hx : Words x) {n : Nat} (h : 0 < sizeL x n) : ∃ L : Nat, lenL x n = (L : Int) + 1 ∧ 2 ^ L ≤ val x n ∧ val x n < 2 ^ (L + 1) := by
  obtain ⟨j, hj⟩ : ∃ j, sizeL x n = j + 1 := ⟨sizeL x n - 1, by omega⟩
  have ht := sizeL_top (x := x) n h
  rw [hj] at ht
  have hxj := hx j
  have hne : x j ≠ 0 := ht
  obtain ⟨u, hu⟩ := Int.eq_ofNat_of_zero_le hxj.1
  have hb := bitLen_spec u (by omega) (by omega)
  have hv : val x n = val x j + x j * 18446744073709551616 ^ j := by rw [← val_bare n, hj]; rfl
  have hbd := val_bd hx j
  have hP := pw_pos j
  refine ⟨64 * j + (Lib.bitLen u - 1), ?_, ?_, ?_⟩
  · unfold lenL; rw [if_neg (by omega), hj]
    show 64 * ((j + 1 : Nat) : Int) - 64 + (Lib.bitLen (x j).toNat : Nat) = _
    rw [hu, Int.toNat_natCast]; omega
  · rw [hv, ← p64', hu]
    have h1 : (2 : Int) ^ (Lib.bitLen u - 1) ≤ u := by rw [← powCast]; omega
    have h2 : 18446744073709551616 ^ j * 2 ^ (Lib.bitLen u - 1) ≤ 18446744073709551616 ^ j * (u : Int) := Int.mul_le_mul_of_nonneg_left h1 (Int.le_of_lt hP)
    rw [Int.mul_comm _ (u : Int)] at h2
    omega
  · rw [hv, show 64 * j + (Lib.bitLen u - 1) + 1 = 64 * j + Lib.bitLen u by omega, ← p64', hu]
    have h1 : (u : Int) + 1 ≤ 2 ^ Lib.bitLen u := by rw [← powCast]; omega
    have h2 : 18446744073709551616 ^ j * ((u : Int) + 1) ≤ 18446744073709551616 ^ j * 2 ^ Lib.bitLen u := Int.mul_le_mul_of_nonneg_left h1 (Int.le_of_lt hP)
    rw [Int.mul_add, Int.mul_one, Int.mul_comm _ (u : Int)] at h2
    omega
theorem word_mod {q : Nat → Int} (hq : Words q) {N m r : Nat} (hm : m < N) (hr : r ≤ 64) (h : val q N % 2 ^ (64 * m + r) = 0) : q m % 2 ^ r = 0 := by
  obtain ⟨k, rfl⟩ : ∃ k, N = m + (k + 1) := ⟨N - m - 1, by omega⟩
  have hs := val_split q m (k + 1)
  have h1 : val (segW q m (k + 1)) (k + 1) = q m + val (segW q (m + 1) k) k * 18446744073709551616 := by
    have := val_split (segW q m (k + 1)) 1 k
    rw [Nat.add_comm 1 k] at this
    rw [this]
    have e1 : val (segW q m (k + 1)) 1 = q m := by simp [val, segW]
    have e2 : val (segW (segW q m (k + 1)) 1 k) k = val (segW q (m + 1) k) k := val_congr k fun i hi => by
      rw [segW_lt _ _ _ i hi, segW_lt _ _ _ i hi, segW_lt _ _ _ (1 + i) (by omega)]; congr 1; omega
    rw [e1, e2]; simp
  have hb := val_bd hq m
  rw [← p64'] at h
  have hd : (18446744073709551616 : Int) ^ m * 2 ^ r ∣ val q (m + (k + 1)) := Int.dvd_of_emod_eq_zero h
  obtain ⟨c, hc⟩ := hd
  rw [hs] at hc
  have hm0 : val q m = 0 := by
    have e : val q m = (2 ^ r * c - val (segW q m (k + 1)) (k + 1)) * 18446744073709551616 ^ m := by grind
    rcases Int.lt_trichotomy (2 ^ r * c - val (segW q m (k + 1)) (k + 1)) 0 with hl | he | hg
    · have : (2 ^ r * c - val (segW q m (k + 1)) (k + 1)) * 18446744073709551616 ^ m ≤ (-1) * 18446744073709551616 ^ m := Int.mul_le_mul_of_nonneg_right (by omega) (Int.le_of_lt (pw_pos m))
      have := pw_pos m
      omega
    · rw [he, Int.zero_mul] at e; exact e
    · have : 1 * 18446744073709551616 ^ m ≤ (2 ^ r * c - val (segW q m (k + 1)) (k + 1)) * 18446744073709551616 ^ m := Int.mul_le_mul_of_nonneg_right (by omega) (Int.le_of_lt (pw_pos m))
      omega
  have h2 : val (segW q m (k + 1)) (k + 1) = 2 ^ r * c := by
    have hp := pw_pos m
    have e : (val (segW q m (k + 1)) (k + 1) - 2 ^ r * c) * 18446744073709551616 ^ m = 0 := by grind
    rcases Int.mul_eq_zero.1 e with h3 | h3
    · omega
    · omega
  rw [h1] at h2
  have e3 := p2_split hr
  have : q m = 2 ^ r * (c - val (segW q (m + 1) k) k * 2 ^ (64 - r)) := by
    rw [← e3] at h2; grind
  rw [this]; exact Int.mul_emod_right _ _
theorem or_bit {u : Int} {r : Nat} (hu : 0 ≤ u ∧ u ≤ 18446744073709551615) (hr : r < 64) (h : u % 2 ^ (r + 1) = 0) : orW u (2 ^ r) = u + 2 ^ r ∧ u + 2 ^ r ≤ 18446744073709551615 := by
  have hp := p2_pos r
  have hl := p2_le hr
  obtain ⟨n, rfl⟩ := Int.eq_ofNat_of_zero_le hu.1
  rw [← powCast, ← Int.natCast_emod] at h
  have hn : n % 2 ^ (r + 1) = 0 := by omega
  obtain ⟨k, rfl⟩ := Nat.dvd_of_mod_eq_zero hn
  have hlt : 2 ^ r < 2 ^ (r + 1) := Nat.pow_lt_pow_right (by omega) (by omega)
  have e := Nat.two_pow_add_eq_or_of_lt hlt k
  have h64 : 2 ^ (r + 1) * k ||| 2 ^ r < 2 ^ 64 := Nat.or_lt_two_pow (by omega) (Nat.pow_lt_pow_right (by omega) hr)
  have hw : (2 : Int) ^ r ≤ 18446744073709551615 := by omega
  rw [orW_eq _ _ hu ⟨by omega, hw⟩, Int.toNat_natCast, ← powCast, Int.toNat_natCast, ← e]
  rw [← e] at h64
  constructor
  · rw [Int.natCast_add]
  · have : ((2 ^ (r + 1) * k : Nat) : Int) + ((2 ^ r : Nat) : Int) = ((2 ^ (r + 1) * k + 2 ^ r : Nat) : Int) := by rw [Int.natCast_add]
    rw [this]; omega
theorem mod_half {Q T : Int} (h : Q % (T * 2) = 0) : Q % T = 0 := by
  obtain ⟨c, hc⟩ := Int.dvd_of_emod_eq_zero h
  rw [hc, Int.mul_assoc]; exact Int.mul_emod_right _ _
end Go.Proofs.YtjjaamdgochilaaDoor

namespace Go.Proofs.YtjjaamdgochilaaDoor
open Go.RowKit

theorem times_val (b off n c b' off' n' c' : Nat) (x y : Nat → Int) (w : World) (hn : n < 1000000) (hn' : n' < 1000000) (h : Num w (some ⟨b, off, none⟩) n c x) (h' : Num w (some ⟨b', off', none⟩) n' c' y) :
    Calls Tryd.prog 51 #[.slice (some ⟨b, off, none⟩) n c, .slice (some ⟨b', off', none⟩) n' c'] w fun e w' => ∃ g k cap z, e = .returned (.slice (some ⟨g, 0, none⟩) k cap) ∧ k ≤ n + n' + 1 ∧ Num w' (some ⟨g, 0, none⟩) k cap z ∧ val z k = val x n * val y n' ∧ Below w.heap.size w w' :=
  (times_raw b off n c b' off' n' c' x y w hn hn' h h').mono fun e w' ⟨g, k, cap, z, e1, hk, hN, hv, hB⟩ => ⟨g, k, cap, z, e1, hk, hN, by rw [← hv, val_more hN.2.2.2.1 _ hk], hB⟩

end Go.Proofs.YtjjaamdgochilaaDoor

namespace Go.Proofs.YtjjaamdgochilaaDoor
open Go.RowKit

theorem half_any (g k c : Nat) (z : Nat → Int) (w : World) (hk : 0 < k) (hk2 : k < 1000000) (h : Num w (some ⟨g, 0, none⟩) k c z) :
    Calls Tryd.prog 33 #[.slice (some ⟨g, 0, none⟩) k c, .int .i64 1] w fun e w' => ∃ g' k' cap b z', e = .returned (.tuple #[.slice (some ⟨g', 0, none⟩) k' cap, .bool b]) ∧ k' ≤ k ∧ Num w' (some ⟨g', 0, none⟩) k' cap z' ∧ (∀ V, val z k = V * 2 → val z' k' = V) ∧ Below w.heap.size w w' ∧ w.heap.size ≤ g' := by
  refine (frgt_p g 0 k c 0 1 1 z w (by omega) (by omega) (by omega) (by omega) (by decide) (by decide) (by decide) hk h).mono fun e w' ⟨g', k', cap, e1, hk', hN, hB, hf⟩ => ⟨g', k', cap, _, _, e1, hk', hN, fun V hV => ?_, hB, hf⟩
  have hd := dn_val h.2.2.1 (r := 1) (by omega) k
  rw [h.2.2.2.1 k (Nat.le_refl _), hV, ← val_more hN.2.2.2.1 k hk'] at *
  have e2 : (2 : Int) ^ 1 = 2 := rfl
  rw [e2] at hd
  have := Int.emod_nonneg (z 0) (show (2 : Int) ≠ 0 by decide)
  have := Int.emod_lt_of_pos (z 0) (show (0 : Int) < 2 by decide)
  simp at hd
  omega
theorem fleft_val (b off n c : Nat) (d : Int) (x : Nat → Int) (w : World) (hn : n < 1000000) (hd : 0 ≤ d) (hd2 : d ≤ 6300000) (h : Num w (some ⟨b, off, none⟩) n c x) :
    Calls Tryd.prog 52 #[.slice (some ⟨b, off, none⟩) n c, .int .i64 d] w fun e w' => ∃ g k cap z, e = .returned (.slice (some ⟨g, 0, none⟩) k cap) ∧ k ≤ n + d.toNat / 64 + 1 ∧ Num w' (some ⟨g, 0, none⟩) k cap z ∧ val z k = val x n * 2 ^ d.toNat ∧ Below w.heap.size w w' ∧ w.heap.size ≤ g ∧ sizeL z k = k := by
  obtain ⟨q, hq⟩ : ∃ q : Nat, d / 64 = q := ⟨(d / 64).toNat, by omega⟩
  obtain ⟨r, hr⟩ : ∃ r : Nat, d % 64 = r := ⟨(d % 64).toNat, by omega⟩
  have hdn : d.toNat = 64 * q + r := by omega
  have hr64 : r < 64 := by omega
  have hq2 : q < 99000 := by omega
  have hx := h.2.2.1
  have hv := finL_val hx h.2.2.2.1 q hr64
  rw [hdn]
  by_cases hr0 : 0 < r
  · exact (fleft_p b off n c q r d x w (by omega) (by omega) hr64 hr0 hq hr hd h).mono fun e w' ⟨g, k, cap, e1, hk, hN, hB, hf, htr⟩ => ⟨g, k, cap, _, e1, by omega, hN, by rw [← hv, val_more hN.2.2.2.1 _ hk], hB, hf, htr⟩
  · obtain rfl : r = 0 := by omega
    exact (fleft_z b off n c q d x w (by omega) (by omega) hq hr hd h).mono fun e w' ⟨g, k, cap, e1, hk, hN, hB, hf, htr⟩ => ⟨g, k, cap, _, e1, by omega, hN, by rw [← hv, val_more hN.2.2.2.1 _ hk], hB, hf, htr⟩
theorem frless_val (a a' : Option Addr) (n c n' c' : Nat) (x y : Nat → Int) (w : World) (hn : n < 4000000000) (hn' : n' < 4000000000) (h : Num w a n c x) (h' : Num w a' n' c' y) (hv : val y n' ≤ val x n) :
    Calls Tryd.prog 63 #[.slice a n c, .slice a' n' c'] w fun e w' => ∃ g k cap z, e = .returned (.slice (some ⟨g, 0, none⟩) k cap) ∧ k ≤ max n n' ∧ Num w' (some ⟨g, 0, none⟩) k cap z ∧ val z k = val x n - val y n' ∧ Below w.heap.size w w' ∧ w.heap.size ≤ g ∧ sizeL z k = k := by
  refine (frless_any a a' n c n' c' x y w (by omega) (by omega) h h').mono fun e w' ⟨g, k, cap, e1, hk, hN, hB, hf, htr⟩ => ⟨g, k, cap, _, e1, hk, hN, ?_, hB, hf, htr⟩
  have ex := val_more h.2.2.2.1 (max n n') (by omega)
  have ey := val_more h'.2.2.2.1 (max n n') (by omega)
  have e := dif_val h.2.2.1 h'.2.2.1 (max n n')
  rw [borW_end h.2.2.1 h'.2.2.1 (by omega), ex, ey] at e
  rw [← val_more hN.2.2.2.1 _ hk, val_congr (y := difW x y) (max n n') fun i hi => by unfold difZ; rw [if_pos hi]]
  omega
theorem pos_len {z : Nat → Int} {k : Nat} (h : 0 < val z k) : 0 < k := by
  rcases Nat.eq_zero_or_pos k with e | e
  · subst e; simp [val] at h
  · exact e

end Go.Proofs.YtjjaamdgochilaaDoor

namespace Go.Proofs.YtjjaamdgochilaaDoor
open Go.RowKit

/-- words shifted down, by whole words and bits: their value -/
theorem shrW_val {y : Nat → Int} {n q r A : Nat} (hy : Words y) (hz : ∀ i, n ≤ i → y i = 0) (hr : r < 64) (m : Nat) (hm : n ≤ m) (hA : val y n = A) : val (shrW y q r) m = ((A / 2 ^ (64 * q + r) : Nat) : Int) := by
  have hw : Words (fun i => y (q + i)) := fun i => hy (q + i)
  have e1 : shrW y q r = shrW (fun i => y (q + i)) 0 r := by
    funext j; unfold shrW; simp only [Nat.zero_add, Nat.add_assoc]
  have h1 := dn_val hw hr m
  have h2 : y (q + m) = 0 := hz _ (by omega)
  simp only [h2, Int.zero_emod, Int.zero_mul, Int.add_zero, Nat.add_zero] at h1
  have h3 := val_split y q m
  have h4 : val (segW y q m) m = val (fun i => y (q + i)) m := val_congr m fun i hi => segW_lt y q m i hi
  rw [h4, val_more hz (q + m) (by omega), hA] at h3
  rw [e1]
  have hb1 := val_bd hy q
  have hb2 := val_bd (shrW_words hw (q := 0) (r := r)) m
  have hp : (0 : Int) < 2 ^ r := p2_pos r
  have hm1 := Int.emod_nonneg (y q) (Int.ne_of_gt hp)
  have hm2 := Int.emod_lt_of_pos (y q) hp
  generalize val (shrW (fun i => y (q + i)) 0 r) m = S at *
  generalize val (fun i => y (q + i)) m = Z at *
  have eZ : Z / 2 ^ r = S := by
    rw [← h1, Int.add_comm, Int.add_mul_ediv_right _ _ (Int.ne_of_gt hp), Int.ediv_eq_zero_of_lt hm1 hm2, Int.zero_add]
  have eA : (A : Int) / 18446744073709551616 ^ q = Z := by
    rw [h3, Int.add_mul_ediv_right _ _ (Int.ne_of_gt (pw_pos q)), Int.ediv_eq_zero_of_lt hb1.1 hb1.2, Int.zero_add]
  rw [← eZ, ← eA, Int.natCast_ediv, Int.ediv_ediv_of_nonneg (Int.le_of_lt (pw_pos q)), p64']
  simp
end Go.Proofs.YtjjaamdgochilaaDoor

namespace Go.Proofs.YtjjaamdgochilaaDoor
open Go.RowKit

/-- the words of a number -/
def W4 (A : Nat) (i : Nat) : Int := ((A / 2 ^ (64 * i) % 18446744073709551616 : Nat) : Int)
/-- a number of four words -/
abbrev A4 (A : Nat) : Value := .agg #[.int .u64 (W4 A 0), .int .u64 (W4 A 1), .int .u64 (W4 A 2), .int .u64 (W4 A 3)]
theorem W4_words (A : Nat) : Words (W4 A) := fun i => by
  unfold W4
  have := Nat.mod_lt (A / 2 ^ (64 * i)) (show 0 < 18446744073709551616 by decide)
  omega
theorem p64n (n : Nat) : (18446744073709551616 : Int) ^ n = ((2 ^ (64 * n) : Nat) : Int) := by
  rw [Nat.pow_mul]
  simp
theorem W4_val (A : Nat) : ∀ n, val (W4 A) n = ((A % 2 ^ (64 * n) : Nat) : Int)
  | 0 => by simp [val, Nat.mod_one]
  | n + 1 => by
    show val (W4 A) n + W4 A n * 18446744073709551616 ^ n = _
    have e : A % 2 ^ (64 * (n + 1)) = A % 2 ^ (64 * n) + 2 ^ (64 * n) * (A / 2 ^ (64 * n) % 18446744073709551616) := by
      rw [show 64 * (n + 1) = 64 * n + 64 by omega, Nat.pow_add]
      exact Nat.mod_mul
    rw [W4_val A n, p64n, e]
    unfold W4
    rw [Int.natCast_add, Int.natCast_mul, Int.mul_comm]
theorem W4_val4 {A : Nat} (h : A < 2 ^ 256) : val (W4 A) 4 = A := by
  rw [W4_val, Nat.mod_eq_of_lt h]
theorem arr_eq {x y : Nat → Int} (hx : Words x) (hy : Words y) (h : val x 4 = val y 4) : arrOf x 4 = arrOf y 4 :=
  arrOf_congr (val_inj hx hy 4 h)
theorem arr_A4 {x : Nat → Int} (hx : Words x) {A : Nat} (h : val x 4 = ((A % 2 ^ 256 : Nat) : Int)) : Value.agg (arrOf x 4) = A4 A := by
  have e : arrOf x 4 = arrOf (W4 A) 4 := arr_eq hx (W4_words A) (by rw [h, W4_val])
  rw [e]; rfl
theorem A4_mod (A : Nat) : A4 (A % 2 ^ 256) = A4 A := by
  have := arr_A4 (W4_words (A % 2 ^ 256)) (A := A) (by rw [W4_val, Nat.mod_mod])
  exact this
theorem A4_inj {A B : Nat} (hA : A < 2 ^ 256) (hB : B < 2 ^ 256) (h : ∀ i, i < 4 → W4 A i = W4 B i) : A = B := by
  have := val_congr (x := W4 A) (y := W4 B) 4 h
  rw [W4_val4 hA, W4_val4 hB] at this
  omega
/-- every pattern is a number's words -/
theorem words_A4 {x : Nat → Int} (hx : Words x) : ∃ A, A < 2 ^ 256 ∧ Value.agg (arrOf x 4) = A4 A ∧ val x 4 = A := by
  have hb := val_bd hx 4
  have e : (18446744073709551616 : Int) ^ 4 = ((2 ^ 256 : Nat) : Int) := by decide
  rw [e] at hb
  obtain ⟨A, hA⟩ := Int.eq_ofNat_of_zero_le hb.1
  have hlt : A < 2 ^ 256 := by rw [hA] at hb; exact Int.ofNat_lt.1 hb.2
  exact ⟨A, hlt, arr_A4 hx (by rw [Nat.mod_eq_of_lt hlt]; exact hA), hA⟩

theorem add4 (A B : Nat) (w : World) (hA : A < 2 ^ 256) (hB : B < 2 ^ 256) :
    Calls Tryd.prog 43 #[A4 A, A4 B] w fun e w' => e = .returned (.tuple #[A4 (A + B), .int .u64 (((A + B) / 2 ^ 256 : Nat) : Int)]) ∧ Below w.heap.size w w' := by
  refine (limAdd4 (W4 A) (W4 B) w (W4_words A) (W4_words B)).mono ?_
  rintro e w' ⟨rfl, hb⟩
  refine ⟨?_, hb⟩
  have hs := sum_val (x := W4 A) (y := W4 B) 4
  have hc := carryW_01 (W4_words A) (W4_words B) 4
  have hv := val_bd (sumW_words (W4 A) (W4 B)) 4
  rw [W4_val4 hA, W4_val4 hB] at hs
  have e4 : (18446744073709551616 : Int) ^ 4 = 115792089237316195423570985008687907853269984665640564039457584007913129639936 := by decide
  have e4n : (2 : Nat) ^ 256 = 115792089237316195423570985008687907853269984665640564039457584007913129639936 := by decide
  rw [e4] at hs hv
  rw [e4n] at hA hB ⊢
  rw [arr_A4 (sumW_words _ _) (A := A + B) (by rw [e4n]; omega)]
  have : carryW (W4 A) (W4 B) 4 = (((A + B) / 115792089237316195423570985008687907853269984665640564039457584007913129639936 : Nat) : Int) := by omega
  rw [this]
theorem sub4 (A B : Nat) (w : World) (hA : A < 2 ^ 256) (hB : B < 2 ^ 256) :
    Calls Tryd.prog 67 #[A4 A, A4 B] w fun e w' => e = .returned (.tuple #[A4 (A + 2 ^ 256 - B), .int .u64 (if A < B then 1 else 0)]) ∧ Below w.heap.size w w' := by
  refine (limSub4 (W4 A) (W4 B) w (W4_words A) (W4_words B)).mono ?_
  rintro e w' ⟨rfl, hb⟩
  refine ⟨?_, hb⟩
  have hs := dif_val (x := W4 A) (y := W4 B) (W4_words A) (W4_words B) 4
  have hc := borW_01 (W4 A) (W4 B) 4
  have hv := val_bd (difW_words (W4 A) (W4 B)) 4
  rw [W4_val4 hA, W4_val4 hB] at hs
  have e4 : (18446744073709551616 : Int) ^ 4 = 115792089237316195423570985008687907853269984665640564039457584007913129639936 := by decide
  have e4n : (2 : Nat) ^ 256 = 115792089237316195423570985008687907853269984665640564039457584007913129639936 := by decide
  rw [e4] at hs hv
  rw [e4n] at hA hB ⊢
  rw [arr_A4 (difW_words _ _) (A := A + 115792089237316195423570985008687907853269984665640564039457584007913129639936 - B) (by rw [e4n]; omega)]
  have : borW (W4 A) (W4 B) 4 = if A < B then 1 else 0 := by split <;> omega
  rw [this]
theorem A4_sub {A B : Nat} (h : B ≤ A) : A4 (A + 2 ^ 256 - B) = A4 (A - B) := by
  rw [← A4_mod (A - B), ← A4_mod (A + 2 ^ 256 - B), show A + 2 ^ 256 - B = A - B + 2 ^ 256 by omega, Nat.add_mod_right]

theorem shl4 (A n : Nat) (w : World) (hA : A < 2 ^ 256) (hn : n ≤ 100000) :
    Calls Tryd.prog 56 #[A4 A, .int .i64 n] w fun e w' => e = .returned (A4 (A * 2 ^ n)) ∧ Below w.heap.size w w' := by
  refine (shlA4 (W4 A) n w (W4_words A) (by omega)).mono ?_
  rintro e w' ⟨rfl, hb⟩
  refine ⟨?_, hb⟩
  congr 1
  by_cases h1 : n = 0
  · subst h1
    have e : shlA (W4 A) ((0 : Nat) : Int) = W4 A := by funext j; unfold shlA; rw [if_pos (by omega)]
    rw [e, Nat.pow_zero, Nat.mul_one]; rfl
  refine arr_A4 (shlA_words (W4_words A) _) ?_
  have hlow := shlL_fin (W4_words A) (N := 4) (((n : Int) / 64).toNat) (((n : Int) % 64).toNat)
  have es : shlA (W4 A) (n : Int) = shlL (W4 A) ((n : Int) / 64).toNat ((n : Int) % 64).toNat := by funext j; unfold shlA; rw [if_neg (by omega)]
  rw [es]
  obtain ⟨q, hq⟩ : ∃ q : Nat, ((n : Int) / 64).toNat = q := ⟨_, rfl⟩
  obtain ⟨r, hr⟩ : ∃ r : Nat, ((n : Int) % 64).toNat = r := ⟨_, rfl⟩
  rw [hq, hr] at hlow ⊢
  have hn : n = 64 * q + r := by omega
  have hr6 : r < 64 := by omega
  have h4 : val (shlL (W4 A) q r) 4 = val (finL (lowW (W4 A) 4) q r) 4 := by
    refine val_congr 4 fun i hi => ?_
    have := congrFun hlow i
    rw [lowW_lt hi, lowW_lt hi] at this
    exact this
  have hlw : Words (lowW (W4 A) 4) := lowW_words (W4_words A) 4
  have hz : ∀ i, 4 ≤ i → lowW (W4 A) 4 i = 0 := fun i hi => lowW_ge hi
  have hF := finL_val hlw hz q hr6
  have hvl : val (lowW (W4 A) 4) 4 = A := by
    rw [val_congr (x := lowW (W4 A) 4) (y := W4 A) 4 (fun i hi => lowW_lt hi), W4_val4 hA]
  rw [hvl, ← hn] at hF
  have hsp := val_split (finL (lowW (W4 A) 4) q r) 4 (q + 1)
  rw [show 4 + (q + 1) = 4 + q + 1 by omega, hF] at hsp
  have hbd := val_bd (finL_words hlw (q := q) (r := r)) 4
  have e4 : (18446744073709551616 : Int) ^ 4 = ((2 ^ 256 : Nat) : Int) := by decide
  rw [e4] at hbd hsp
  rw [h4]
  have : (A : Int) * 2 ^ n = ((A * 2 ^ n : Nat) : Int) := by simp
  rw [this] at hsp
  have h5 := congrArg (· % ((2 ^ 256 : Nat) : Int)) hsp
  simp only [Int.add_mul_emod_self_right, Int.emod_eq_of_lt hbd.1 hbd.2] at h5
  rw [← h5]
  rfl
theorem shr4 (A n : Nat) (w : World) (hA : A < 2 ^ 256) (hn : n ≤ 100000) :
    Calls Tryd.prog 66 #[A4 A, .int .i64 n] w fun e w' => e = .returned (A4 (A / 2 ^ n)) ∧ Below w.heap.size w w' := by
  refine (shrA4 (W4 A) n w (W4_words A) (by omega)).mono ?_
  rintro e w' ⟨rfl, hb⟩
  refine ⟨?_, hb⟩
  congr 1
  by_cases h1 : n = 0
  · subst h1
    have e : shrA (W4 A) ((0 : Nat) : Int) 4 = W4 A := by funext j; unfold shrA; rw [if_pos (by omega)]
    rw [e, Nat.pow_zero, Nat.div_one]; rfl
  refine arr_A4 (shrA_words (W4_words A) _ _) ?_
  have hlow := shrL_fin (W4_words A) (N := 4) (((n : Int) / 64).toNat) (((n : Int) % 64).toNat)
  have es : shrA (W4 A) (n : Int) 4 = shrL (W4 A) ((n : Int) / 64).toNat ((n : Int) % 64).toNat 4 := by funext j; unfold shrA; rw [if_neg (by omega)]
  rw [es]
  obtain ⟨q, hq⟩ : ∃ q : Nat, ((n : Int) / 64).toNat = q := ⟨_, rfl⟩
  obtain ⟨r, hr⟩ : ∃ r : Nat, ((n : Int) % 64).toNat = r := ⟨_, rfl⟩
  rw [hq, hr] at hlow ⊢
  have hn : n = 64 * q + r := by omega
  have hr6 : r < 64 := by omega
  have h4 : val (shrL (W4 A) q r 4) 4 = val (shrW (lowW (W4 A) 4) q r) 4 := by
    refine val_congr 4 fun i hi => ?_
    have := congrFun hlow i
    rw [lowW_lt hi] at this
    exact this
  rw [h4]
  exact (shrW_val (lowW_words (W4_words A) 4) (fun i hi => lowW_ge hi) hr6 4 (Nat.le_refl _) (by
    rw [val_congr (x := lowW (W4 A) 4) (y := W4 A) 4 (fun i hi => lowW_lt hi), W4_val4 hA])).trans (by rw [← hn, Nat.mod_eq_of_lt (Nat.lt_of_le_of_lt (Nat.div_le_self _ _) hA)])
theorem len4_le {A k : Nat} (hA : A < 2 ^ 256) : lenL (W4 A) 4 ≤ (k : Int) ↔ A < 2 ^ k := by
  have hv := W4_val4 hA
  by_cases h0 : 0 < sizeL (W4 A) 4
  · obtain ⟨L, h1, h2, h3⟩ := len_bd (W4_words A) h0
    rw [hv] at h2 h3
    rw [h1]
    have h2' : 2 ^ L ≤ A := by have : ((2 ^ L : Nat) : Int) ≤ A := by simpa using h2
                               omega
    have h3' : A < 2 ^ (L + 1) := by have : (A : Int) < ((2 ^ (L + 1) : Nat) : Int) := by simpa using h3
                                     omega
    constructor
    · intro h
      exact Nat.lt_of_lt_of_le h3' (Nat.pow_le_pow_right (by decide) (by omega))
    · intro h
      have : 2 ^ L < 2 ^ k := Nat.lt_of_le_of_lt h2' h
      have := (Nat.pow_lt_pow_iff_right (a := 2) (by decide)).1 this
      omega
  · have hz : sizeL (W4 A) 4 = 0 := by omega
    have hl : lenL (W4 A) 4 = 0 := by unfold lenL; rw [if_pos hz]
    have hA0 : (A : Int) = 0 := by
      rw [← hv, ← val_bare 4, hz]; rfl
    rw [hl]
    have : A = 0 := by omega
    subst this
    exact ⟨fun _ => Nat.two_pow_pos k, fun _ => by omega⟩
theorem len4_zero {A : Nat} (hA : A < 2 ^ 256) : lenL (W4 A) 4 = 0 ↔ A = 0 := by
  have h := len4_le (k := 0) hA
  have h2 : 0 ≤ lenL (W4 A) 4 := by
    by_cases h0 : 0 < sizeL (W4 A) 4
    · obtain ⟨L, h1, _⟩ := len_bd (W4_words A) h0
      omega
    · unfold lenL; rw [if_pos (by omega)]; exact Int.le_refl _
  constructor
  · intro h3; have := h.1 (by omega); omega
  · intro h3; have := h.2 (by omega); omega
theorem lenL_low (A : Nat) : lenL (lowW (W4 A) 4) 4 = lenL (W4 A) 4 := by
  unfold lenL
  rw [sizeL_congr (x := lowW (W4 A) 4) (y := W4 A) 4 (fun i hi => lowW_lt hi)]
  by_cases h : sizeL (W4 A) 4 = 0
  · rw [if_pos h, if_pos h]
  · have := sizeL_le (W4 A) 4
    rw [if_neg h, if_neg h, lowW_lt (by omega)]
theorem len4' (A : Nat) (w : World) : Calls Tryd.prog 87 #[A4 A] w fun e w' => e = .returned (.int .i64 (lenL (W4 A) 4)) ∧ Below w.heap.size w w' := len4 (W4 A) w (W4_words A)
theorem bit4 (A n : Nat) (w : World) (hA : A < 2 ^ 256) (hn : n < 256) :
    Calls Tryd.prog 68 #[A4 A, .int .i64 n] w fun e w' => e = .returned (.int .u64 ((A / 2 ^ n % 2 : Nat) : Int)) ∧ Below w.heap.size w w' := by
  refine (limBit4 (W4 A) n w (W4_words A) (by omega) (by omega)).mono ?_
  rintro e w' ⟨rfl, hb⟩
  refine ⟨?_, hb⟩
  have hb := W4_words A ((n : Int) / 64).toNat
  have h1 : bitV (W4 A ((n : Int) / 64).toNat) n = ((A / 2 ^ n % 2 : Nat) : Int) := by
    unfold bitV
    have h2 := and_mask (y := W4 A ((n : Int) / 64).toNat / 2 ^ ((n : Int) % 64).toNat) (r := 1) (div_word _ _ hb) (by decide)
    rw [show (1 : Int) = 2 ^ 1 - 1 by decide, h2]
    unfold W4
    obtain ⟨q, hq⟩ : ∃ q : Nat, ((n : Int) / 64).toNat = q := ⟨_, rfl⟩
    obtain ⟨r, hr⟩ : ∃ r : Nat, ((n : Int) % 64).toNat = r := ⟨_, rfl⟩
    rw [hq, hr]
    have hn : n = 64 * q + r := by omega
    have hr6 : r < 64 := by omega
    have e1 : ((2 : Int) ^ r) = ((2 ^ r : Nat) : Int) := by simp
    rw [e1, ← Int.natCast_ediv]
    have e2 : A / 2 ^ n = A / 2 ^ (64 * q) / 2 ^ r := by rw [hn, Nat.pow_add, Nat.div_div_eq_div_mul]
    rw [e2]
    generalize A / 2 ^ (64 * q) = B
    have e3 : B % 18446744073709551616 / 2 ^ r % 2 = B / 2 ^ r % 2 := by
      rw [show (18446744073709551616 : Nat) = 2 ^ r * (2 * 2 ^ (63 - r)) by rw [← Nat.pow_succ', ← Nat.pow_add, show r + (63 - r + 1) = 64 by omega]]
      rw [Nat.mod_mul_right_div_self, Nat.mod_mul_right_mod]
    have e4 : ((2 : Int) ^ 1) = ((2 : Nat) : Int) := by decide
    rw [e4, ← Int.natCast_emod, e3]
  rw [h1]
set_option maxHeartbeats 400000 in
theorem of4 (u : Nat) (w : World) (hu : u < 18446744073709551616) :
    Calls Tryd.prog 57 #[.int .u64 u] w fun e w' => e = .returned (A4 u) ∧ Below w.heap.size w w' := by
  have e0 : W4 u 0 = u := by unfold W4; rw [Nat.mul_zero, Nat.pow_zero, Nat.div_one, Nat.mod_eq_of_lt hu]
  have e1 : ∀ i, 0 < i → W4 u i = 0 := fun i hi => by
    unfold W4
    have : u < 2 ^ (64 * i) := Nat.lt_of_lt_of_le hu (by rw [show (18446744073709551616 : Nat) = 2 ^ 64 by decide]; exact Nat.pow_le_pow_right (by decide) (by omega))
    rw [Nat.div_eq_of_lt this]; rfl
  unfold A4
  rw [e0, e1 1 (by decide), e1 2 (by decide), e1 3 (by decide)]
  go_enter Tryd.func57, Tryd.ntmps57
  go_wp2
  exact bodyPost_ret (v := .agg #[.int .u64 u, .int .u64 0, .int .u64 0, .int .u64 0]) (by simp [results, Tryd.results57, go_sem]) rfl ⟨rfl, ((Below.refl _ _).alloc (Nat.le_refl _) _).alloc (by simp) _⟩
end Go.Proofs.YtjjaamdgochilaaDoor

namespace Go.Proofs.YtjjaamdgochilaaDoor
open Go.RowKit

section
variable {P : Program} {ops : Array Oper} {md : Region.Mode} {C : World → Prop}

/-- the first k of m have come up -/
def fdone (k m : Nat) : Array Bool := (List.replicate k true ++ List.replicate (m - k) false).toArray
theorem fdone_zero (m : Nat) : fdone 0 m = Array.replicate m false := by
  simp [fdone]
theorem fdone_next {k m : Nat} (h : k < m) : (fdone k m).setIfInBounds k true = fdone (k + 1) m := by
  apply Array.ext
  · simp [fdone]; omega
  · intro i h1 h2
    have hi : i < m := by simp [fdone] at h2; omega
    simp only [fdone, List.setIfInBounds_toArray, List.getElem_toArray, List.getElem_set, List.getElem_append, List.length_replicate, List.getElem_replicate]
    split
    · subst_vars; simp
    · by_cases hk : i < k
      · simp [hk, show i < k + 1 by omega]
      · simp [hk, show ¬ i < k + 1 by omega]
theorem fdone_out {k m j : Nat} (h : (fdone k m).getD j true = false) : k ≤ j := by
  rcases Nat.lt_or_ge j k with h1 | h1
  · simp [fdone, List.getElem?_append, h1] at h
  · exact h1

/-- every one behind n waits for one between n and itself -/
def chainC (md : Region.Mode) (ops : Array Oper) (n : Nat) : Bool :=
  (List.range ops.size).all fun t => decide (t ≤ n) || (List.range t).any fun s => decide (n ≤ s) && Region.waitsFor md ops t s
/-- all the checks of a head in one -/
def headB (md : Region.Mode) (ops : Array Oper) (n : Nat) : Bool :=
  Region.noSelect ops && decide (n < ops.size) && Region.sinkB md ops n && chainC md ops n && (List.range n).all fun k => (Region.ready md ops (fdone k ops.size)).contains k && Region.free md ops (fdone k ops.size) k

theorem waits_sink {n : Nat} {done : Array Bool} (hs : Region.sinkB md ops n = true) (hn : n < ops.size) (inv : HeadInv md ops n done) :
    ∀ (d i : Nat), n - i = d → i < n → done.getD i true = false → n ∉ Region.ready md ops done := by
  intro d
  induction d using Nat.strongRecOn with
  | _ d ih =>
    intro i hd hi hun hr
    obtain ⟨_, ot, hot, hall⟩ := mem_ready.1 hr
    obtain ⟨j, hj, hj2⟩ := List.any_eq_true.1 (List.all_eq_true.1 hs i (List.mem_range.2 hi))
    simp only [Bool.and_eq_true, decide_eq_true_eq] at hj2
    obtain ⟨oj, hoj, e, he, hb, hon⟩ := Region.waitsFor_spec hj2.2
    have hjle : j ≤ n := by have := List.mem_range.1 hj; omega
    by_cases hjn : j = n
    · subst hjn
      obtain rfl : oj = ot := Option.some.inj (hoj.symm.trans hot)
      have h2 := hall e he hb
      rw [hon, getD_both hun] at h2
      cases h2
    · cases hl : done.getD j false with
      | true =>
        have h2 := inv.closed j oj hoj hl e he hb
        rw [hon, getD_both hun] at h2
        cases h2
      | false =>
        exact ih (n - j) (by omega) j rfl (by omega) (getD_in (by rw [inv.size]; omega) hl) hr
theorem waits_tail {n i : Nat} {done : Array Bool} (hs : Region.sinkB md ops n = true) (hc : chainC md ops n = true) (hn : n < ops.size) (inv : HeadInv md ops n done) (hi : i < n) (hun : done.getD i true = false) (t : Nat) (ht : n ≤ t) : t ∉ Region.ready md ops done := by
  intro hr
  by_cases htn : t = n
  · subst htn; exact waits_sink hs hn inv _ i rfl hi hun hr
  · obtain ⟨_, ot, hot, hall⟩ := mem_ready.1 hr
    have htlt : t < ops.size := (Array.getElem?_eq_some_iff.1 hot).1
    have h1 := List.all_eq_true.1 hc t (List.mem_range.2 htlt)
    simp only [Bool.or_eq_true, decide_eq_true_eq] at h1
    rcases h1 with h1 | h1
    · omega
    · obtain ⟨s, hsm, hs2⟩ := List.any_eq_true.1 h1
      simp only [Bool.and_eq_true, decide_eq_true_eq] at hs2
      obtain ⟨o', ho', e, he, hb, hon⟩ := Region.waitsFor_spec hs2.2
      obtain rfl : o' = ot := Option.some.inj (ho'.symm.trans hot)
      have hst := List.mem_range.1 hsm
      have h2 := hall e he hb
      rw [hon, getD_both (inv.tail s hs2.1 (by omega))] at h2
      cases h2

/-- the first n come up in any order, each quiet in the class -/
def headQ (P : Program) (md : Region.Mode) (ops : Array Oper) (C : World → Prop) (n : Nat) (L : Array Bool → Act → Prop) : Nat → Array Bool → Act → Prop
  | 0, done, a => L done a
  | f + 1, done, a => Region.ready md ops done ≠ [] ∧ ∀ i ∈ Region.ready md ops done, i < n ∧ qOp P ops C i (headQ P md ops C n L f (done.setIfInBounds i true)) a

theorem headQ_any {n g : Nat} {L : Array Bool → Act → Prop} {Q : Exit → Act → World → Prop} (hL : ∀ done a w, C w → L done a → wpAny P md ops Q g done a w) :
    ∀ (f : Nat) (done : Array Bool) (a : Act) (w : World), C w → headQ P md ops C n L f done a → wpAny P md ops Q (f + g) done a w
  | 0, done, a, w, hw, h => by rw [Nat.zero_add]; exact hL _ _ _ hw h
  | f + 1, done, a, w, hw, h => by
    rw [show f + 1 + g = (f + g) + 1 by omega]
    exact ⟨fun h0 => absurd h0 h.1, fun i hi => wpOp_of_qOp hw (fun a' w' hw' h' => headQ_any hL f _ a' w' hw' h') (h.2 i hi).2⟩

theorem headQ_first {n i : Nat} {oi : Oper} {v : Value} {L : Array Bool → Act → Prop} (hi : ops[i]? = some oi) (hsel : ∀ (j : Nat) (o : Oper) cs b, ops[j]? = some o → o.op ≠ .select cs b)
    (hs : Region.sinkB md ops n = true) (hc : chainC md ops n = true) (hn : n < ops.size) (hin : i < n) (hend : ∀ done a, L done a → ∀ j ∈ Region.ready md ops done, n ≤ j) :
    ∀ (f : Nat) (done : Array Bool) (a : Act), HeadInv md ops n done →
      (∀ j oj, ops[j]? = some oj → j ≠ i → done.getD j true = false → (∀ e ∈ oj.after, Region.binds md e = true → e.on ≠ i) → oi.apart ops oj = true) →
      i ∈ Region.ready md ops done → YieldsIn P ops C oi v a → headQ P md ops C n L f (done.setIfInBounds i true) (a.put oi.dst v) → headQ P md ops C n L (f + 1) done a := by
  intro f
  induction f with
  | zero =>
    intro done a inv _ hr hy H
    refine ⟨fun h => (by rw [h] at hr; cases hr), fun j hj => ?_⟩
    have hjn : j < n := Nat.lt_of_not_le fun h => waits_tail hs hc hn inv hin (mem_ready.1 hr).1 j h hj
    refine ⟨hjn, ?_⟩
    by_cases hji : j = i
    · subst hji; exact hy.qOp hi H
    · have := hend _ _ H j (ready_mono hj hji)
      omega
  | succ f ih =>
    intro done a inv hfree hr hy H
    have hun := (mem_ready.1 hr).1
    refine ⟨fun h => (by rw [h] at hr; cases hr), fun j hj => ?_⟩
    have hjn : j < n := Nat.lt_of_not_le fun h => waits_tail hs hc hn inv hin hun j h hj
    refine ⟨hjn, ?_⟩
    by_cases hji : j = i
    · subst hji; exact hy.qOp hi H
    · obtain ⟨hjun, oj, hoj, hall⟩ := mem_ready.1 hj
      have hnot : ∀ e ∈ oj.after, Region.binds md e = true → e.on ≠ i := fun e he hb heq => by
        have h1 := hall e he hb
        rw [heq, getD_both hun] at h1
        cases h1
      have h2 := qOp_put hoj (hfree j oj hoj hji hjun hnot) (fun cs b => hsel i oi cs b hi) (fun cs b => hsel j oj cs b hoj) hy (H.2 j (ready_mono hj hji)).2
      refine qOp_mono (fun a' h3 => ih (done.setIfInBounds j true) a' (inv.set hj hjn) (fun k ok hk hki hku hno => hfree k ok hk hki ?_ hno) (ready_mono hr (Ne.symm hji)) h3.1 ?_) h2
      · by_cases hjk : j = k
        · subst hjk; exact hjun
        · rw [getD_set_ne true hjk] at hku; exact hku
      · rw [Array.setIfInBounds_comm _ _ hji]
        exact h3.2

theorem headQ_lex {n : Nat} {K : Act → Prop} (hsel : Region.noSelect ops = true) (hs : Region.sinkB md ops n = true) (hc : chainC md ops n = true) (hn : n < ops.size)
    (hB : ∀ k, k < n → (Region.ready md ops (fdone k ops.size)).contains k = true ∧ Region.free md ops (fdone k ops.size) k = true) :
    ∀ (l : List Oper) (k : Nat) (a : Act), (∀ j, j < l.length → l[j]? = ops[k + j]?) → k + l.length = n → HeadInv md ops n (fdone k ops.size) →
    wpQuiet P ops C K l a → headQ P md ops C n (fun done' a' => done' = fdone n ops.size ∧ K a') l.length (fdone k ops.size) a
  | [], k, a, _, hk, _, h => by
    have : k = n := by simpa using hk
    subst this
    exact ⟨rfl, h⟩
  | o :: l, k, a, hl, hk, inv, h => by
    have h0 : ops[k]? = some o := by simpa using (hl 0 (by simp)).symm
    have hkn : k < n := by simp only [List.length_cons] at hk; omega
    obtain ⟨hr, hf⟩ := hB k hkn
    have hr' : k ∈ Region.ready md ops (fdone k ops.size) := by simpa using hr
    have hst : qOp P ops C k (wpQuiet P ops C K l) a := by unfold qOp; simp only [h0]; exact h
    obtain ⟨v, hy, hK⟩ := yieldsIn_of_qOp h0 hst
    have inv' := inv.set hr' hkn
    rw [fdone_next (by omega)] at inv'
    refine headQ_first h0 (Region.noSelect_spec hsel) hs hc hn hkn (fun done' a' hL j hj => ?_) l.length _ a inv (Region.free_spec h0 hf) hr' hy ?_
    · rw [hL.1] at hj; exact fdone_out (mem_ready.1 hj).1
    · rw [fdone_next (by omega)]
      exact headQ_lex hsel hs hc hn hB l (k + 1) _ (fun j hj => by have := hl (j + 1) (by simp; omega); simpa [Nat.add_assoc, Nat.add_comm 1 j] using this) (by simp only [List.length_cons] at hk; omega) inv' hK

/-- what only hands values on -/
def wless : Op → Bool
  | .move _ => true
  | .assign _ => true
  | .extract _ _ => true
  | _ => false
theorem wless_run {o : Oper} {a : Act} {w : World} {K : Act → World → Prop} {Q : Exit → Act → World → Prop} (hk : wless o.op = true) (h : o.wp P a w K Q ∨ (o.asks P a w ∧ LetsOut Q)) :
    ∃ v, (∀ w, (execOp a.eval o).run P w = .ok (.value v) w) ∧ K (a.put o.dst v) w := by
  have key : ∀ v, execOp a.eval o = pure (.value v) → ∃ v, (∀ w, (execOp a.eval o).run P w = .ok (.value v) w) ∧ K (a.put o.dst v) w := by
    intro v hv
    rcases h with h | ⟨h, _⟩
    · refine ⟨v, fun w => by rw [hv]; rfl, ?_⟩
      unfold Oper.wp at h
      rw [hv] at h
      exact h
    · exfalso
      have h1 := h.1
      rw [hv] at h1
      have e : (Sem.runT P (pure (Next.value v)) w #[]).2 = #[] := rfl
      rw [e] at h1
      simp at h1
  cases hop : o.op <;> simp only [hop, wless, Bool.false_eq_true] at hk
  case move x => exact key (a.eval x) (by simp [execOp, hop])
  case assign x => exact key (a.eval x) (by simp [execOp, hop])
  case extract x ix =>
    have bad : ∀ st, execOp a.eval o = ((stuck st : Sem Value) >>= fun v => pure (Next.value v)) → False := by
      intro st hst
      rcases h with h | ⟨h, _⟩
      · unfold Oper.wp at h
        rw [hst] at h
        exact h
      · have h1 := h.1
        rw [hst] at h1
        have e : (Sem.runT P ((stuck st : Sem Value) >>= fun v => pure (Next.value v)) w #[]).2 = #[] := rfl
        rw [e] at h1
        simp at h1
    cases hx : a.eval x
    case tuple vs =>
      cases hv : vs[ix]? with
      | some v => exact key v (by simp [execOp, hop, Instr.extract, hx, hv])
      | none => exact (bad "Extract: no such component" (by simp only [execOp, hop, Instr.extract, hx, hv])).elim
    all_goals exact (bad "Extract: tuple expected" (by simp only [execOp, hop, Instr.extract, hx])).elim

/-- what is left comes up one by one, but for what only hands values on -/
def restB (md : Region.Mode) (ops : Array Oper) (n : Nat) : Bool :=
  Region.noSelect ops && (List.range (ops.size - n)).all (fun j => decide (Region.ready md ops (fdone (n + j) ops.size) = [n + j]) || ((Region.ready md ops (fdone (n + j) ops.size)).contains (n + j) && Region.free md ops (fdone (n + j) ops.size) (n + j) && ((ops[n + j]?).map fun o => wless o.op && o.guard.isNone).getD false)) && (Region.ready md ops (fdone ops.size ops.size)).isEmpty
theorem wpAny_rest {Q : Exit → Act → World → Prop} (hsel : Region.noSelect ops = true) (hQ : ∀ c a d v w, Q (.panic c) (Act.put a d v) w → Q (.panic c) a w) (hend : Region.ready md ops (fdone ops.size ops.size) = []) :
    ∀ (l : List Oper) (k : Nat) (a : Act) (w : World), (∀ j, l[j]? = ops[k + j]?) → k + l.length = ops.size →
    (∀ j, k ≤ j → j < ops.size → Region.ready md ops (fdone j ops.size) = [j] ∨ ((Region.ready md ops (fdone j ops.size)).contains j = true ∧ Region.free md ops (fdone j ops.size) j = true ∧ ∃ o, ops[j]? = some o ∧ wless o.op = true ∧ o.guard = none)) →
    wpList P ops Q l a w → wpAny P md ops Q l.length (fdone k ops.size) a w
  | [], k, a, w, _, hk, _, h => by
    have : k = ops.size := by simpa using hk
    subst this
    exact ⟨hend, h⟩
  | o :: l, k, a, w, hl, hk, hB, h => by
    have h0 : ops[k]? = some o := by simpa using (hl 0).symm
    have hks : k < ops.size := by simp only [List.length_cons] at hk; omega
    have hl' : ∀ j, l[j]? = ops[k + 1 + j]? := fun j => by have := hl (j + 1); simpa [Nat.add_assoc, Nat.add_comm 1 j] using this
    have hk' : k + 1 + l.length = ops.size := by simp only [List.length_cons] at hk; omega
    have ih := fun a w => wpAny_rest hsel hQ hend l (k + 1) a w hl' hk' (fun j h1 h2 => hB j (by omega) h2)
    rcases hB k (Nat.le_refl _) hks with hr | ⟨hr, hf, o', ho', hwl, hg⟩
    · refine ⟨fun h1 => (by rw [hr] at h1; cases h1), fun i hi => ?_⟩
      rw [hr] at hi
      obtain rfl : i = k := by simpa using hi
      rw [fdone_next hks]
      have hw : wpOp P ops Q i (wpList P ops Q l) a w := by unfold wpOp; simp only [h0]; exact h
      exact wpOp_mono (fun a' w' h' => ih a' w' h') hw
    · obtain rfl : o' = o := Option.some.inj (ho'.symm.trans h0)
      have hwt : Region.wanted o' (yielded ops a.tmps) = true := by unfold Region.wanted; rw [hg]
      unfold wpList at h
      rw [if_pos hwt] at h
      obtain ⟨v, hv, hK⟩ := wless_run hwl h
      refine wpAny_take h0 hsel hf hr (fun c a w => hQ c a _ v w) (Or.inl ⟨hwt, hv⟩) ?_
      rw [fdone_next hks]
      exact ih _ _ hK

theorem wpQuiet_mono {K K' : Act → Prop} (h : ∀ a, K a → K' a) : ∀ (l : List Oper) (a : Act), wpQuiet P ops C K l a → wpQuiet P ops C K' l a
  | [], a, hh => h a hh
  | o :: l, a, hh => by
    unfold wpQuiet at *
    split
    · rename_i hw; rw [if_pos hw] at hh; exact Oper.quiet_mono (wpQuiet_mono h l) hh
    · rename_i hw; rw [if_neg hw] at hh; exact wpQuiet_mono h l _ hh
/-- the class: whatever has been made behind w -/
abbrev Bk (w : World) : World → Prop := fun W => Below w.heap.size w W
theorem bk_iff {w : World} (X : World → Prop) : (∀ w', (∃ t : Wd (Bk w), w' = t.w) → X w') = (∀ w', Below w.heap.size w w' → X w') :=
  propext ⟨fun h w' hb => h w' ⟨⟨w', hb⟩, rfl⟩, fun h w' ⟨t, e⟩ => h w' (by rw [e]; exact t.h)⟩
theorem bk_next {w : World} : ∀ v v' : World, Bk w v → Below v.heap.size v v' → Bk w v' := fun v v' h hb => h.trans (hb.mono h.size)

/-- **A region that draws its order: the first n, which read and call, walked once in the order of the text; what is left then may still come up in any order.** -/
theorem wp_head {id : Nat} {Q : Exit → Act → World → Prop} {a : Act} {w : World} {l : List Oper} (n : Nat) (hm : P.follows .mixedOrders = true) (hB : headB .any l.toArray n = true)
    (h : Nonempty (Wd (Bk w)) → (∀ (t : Wd (Bk w)) (b o : Nat), b < w.heap.size → t.w.cell? ⟨b, o, none⟩ = w.cell? ⟨b, o, none⟩) →
      wpQuiet P l.toArray (fun w' => ∃ t : Wd (Bk w), w' = t.w) (fun a' => ∀ w', Below w.heap.size w w' → wpAny P .any l.toArray Q (l.length - n) (fdone n l.length) a' w') (l.take n) a) : (Code.region id l.toArray true).wp P Q a w := by
  simp only [headB, Bool.and_eq_true, decide_eq_true_eq] at hB
  obtain ⟨⟨⟨⟨hsel, hn⟩, hs⟩, hc⟩, hlex⟩ := hB
  have hn' : n < l.length := by simpa using hn
  have htl : (l.take n).length = n := by simp; omega
  have h' := h ⟨⟨w, Below.refl _ _⟩⟩ fun t b o hb => t.h.cell (p := ⟨b, o, none⟩) hb
  simp only [← bk_iff] at h'
  have hsz : l.toArray.size = l.length := by simp
  have inv0 : HeadInv .any l.toArray n (fdone 0 l.toArray.size) := by
    rw [fdone_zero]
    exact ⟨by simp, fun j oj _ hl => (by rw [getD_replicate_false] at hl; cases hl), fun t _ ht => getD_in (by simpa using ht) (getD_replicate_false _ _)⟩
  have H := headQ_lex (md := .any) hsel hs hc hn (fun k hk => by
    have := List.all_eq_true.1 hlex k (List.mem_range.2 hk)
    simpa only [Bool.and_eq_true] using this) (l.take n) 0 a (fun j hj => by
    have hj' : j < n := by rw [htl] at hj; exact hj
    simp [hj']) (by simpa using htl) inv0 h'
  refine wp_region_any hm ?_
  have := headQ_any (Q := Q) (g := l.length - n) (fun done a' w' hw' hL => by
    rw [hL.1, hsz]
    exact hL.2 w' hw') _ _ _ w.drew ⟨⟨w.drew, (Below.refl _ _).drew⟩, rfl⟩ H
  rw [htl, show n + (l.length - n) = l.toArray.size by rw [hsz]; omega, fdone_zero] at this
  exact this
theorem wp_tail {id : Nat} {Q : Exit → Act → World → Prop} {a : Act} {w : World} {l : List Oper} (n : Nat) (hm : P.follows .mixedOrders = true) (hB : headB .any l.toArray n = true) (hR : restB .any l.toArray n = true) (hQ : ∀ c a d v w, Q (.panic c) (Act.put a d v) w → Q (.panic c) a w)
    (h : Nonempty (Wd (Bk w)) → (∀ (t : Wd (Bk w)) (b o : Nat), b < w.heap.size → t.w.cell? ⟨b, o, none⟩ = w.cell? ⟨b, o, none⟩) →
      wpQuiet P l.toArray (fun w' => ∃ t : Wd (Bk w), w' = t.w) (fun a' => ∀ w', Below w.heap.size w w' → wpList P l.toArray Q (l.drop n) a' w') (l.take n) a) : (Code.region id l.toArray true).wp P Q a w := by
  refine wp_head n hm hB fun h1 h2 => ?_
  have hsz : l.toArray.size = l.length := by simp
  have hn : n < l.length := by
    simp only [headB, Bool.and_eq_true, decide_eq_true_eq] at hB
    have := hB.1.1.1.2; rwa [hsz] at this
  simp only [restB, Bool.and_eq_true, List.isEmpty_iff] at hR
  obtain ⟨⟨hsel, hall⟩, hend⟩ := hR
  refine wpQuiet_mono (fun a' h3 w' hw' => ?_) (l.take n) a (h h1 h2)
  have := wpAny_rest (P := P) (md := .any) (Q := Q) hsel hQ hend (l.drop n) n a' w' (fun j => by simp [List.getElem?_drop]) (by simp; omega) (fun j hj1 hj2 => by
    have h5 := List.all_eq_true.1 hall (j - n) (List.mem_range.2 (by omega))
    rw [show n + (j - n) = j by omega] at h5
    simp only [Bool.or_eq_true, Bool.and_eq_true, decide_eq_true_eq] at h5
    rcases h5 with h5 | ⟨⟨h5, h6⟩, h7⟩
    · exact Or.inl h5
    · refine Or.inr ⟨h5, h6, ?_⟩
      cases ho : l.toArray[j]? with
      | none => rw [ho] at h7; cases h7
      | some o =>
        rw [ho] at h7
        simp only [Option.map_some, Option.getD_some, Bool.and_eq_true, Option.isNone_iff_eq_none] at h7
        exact ⟨o, rfl, h7.1, h7.2⟩) (h3 w' hw')
  rw [hsz] at this
  simpa using this
end
end Go.Proofs.YtjjaamdgochilaaDoor

namespace Go.Proofs.YtjjaamdgochilaaDoor
open Go.RowKit

theorem lt_below {n g : Nat} {W W' : World} (hb : Below n W W') (h : g < W.heap.size) : g < W'.heap.size := Nat.lt_of_lt_of_le h hb.size
theorem bnext {w0 W W' : World} (h : Below w0.heap.size w0 W) (hb : Below W.heap.size W W') : Below w0.heap.size w0 W' := h.trans (hb.mono h.size)
/-- the sign's bit -/
def sgB (f e B : Nat) : Bool := (((B / 2 ^ (f + e) % 2 : Nat) : Int) == 1)
end Go.Proofs.YtjjaamdgochilaaDoor
