/-
  Texts that the proof leans on.
-/
import Derived.Test.YtpemdcnneabbfaaGreatDoorJ29
import Derived.Test.YtpemdcnneabbfaaGreatDoorJ25
import Derived.Test.YtpemdcnneabbfaaGreatDoorJ16
import Derived.Test.YtpemdcnneabbfaaGreatDoorJ3
import Derived.Deep.Cut
import Derived.Deep.CutRange
import Derived.Test.YtpemdcnneabbfaaGreatDoorJ7
import Derived.Test.YtpemdcnneabbfaaGreatDoorJ27
import Derived.Test.YtpemdcnneabbfaaGreatDoorJ23
import Derived.Deep.QuietTactic
import Derived.BigQuiet
import Derived.Test.YtpemdcnneabbfaaGreatDoorJ11
set_option linter.unusedVariables false
set_option linter.unusedSimpArgs false
set_option linter.unusedSectionVars false
set_option maxRecDepth 20000
namespace Go.Proofs.YtpemdcnneabbfaaGreatDoor
open Go.RowKit
theorem p64' (q r : Nat) : (18446744073709551616 : Int) ^ q * 2 ^ r = 2 ^ (64 * q + r) := by rw [Int.mul_comm]; exact p64 q r
/-- a number lies between two powers of two, by its length -/
theorem len_bd {x : Nat → Int} (hx : Words x) {n : Nat} (h : 0 < sizeL x n) : ∃ L : Nat, lenL x n = (L : Int) + 1 ∧ 2 ^ L ≤ val x n ∧ val x n < 2 ^ (L + 1) := by
  obtain ⟨j, hj⟩ : ∃ j, sizeL x n = j + 1 := ⟨sizeL x n - 1, by omega⟩
  have ht := sizeL_top (x := x) n h
  rw [hj] at ht
  have hxj := hx j
  have hne : x j ≠ 0 := ht
  obtain ⟨u, hu⟩ := Int.eq_ofNat_of_zero_le hxj.1
  have hb := bitLen_spec u (by omega) (by omega)
  have hv : val x n = val x j + x j * 18446744073709551616 ^ j := by rw [← val_bare n, hj]; rfl
  have hbd := val_bd hx j
  have hP := pw_pos j
  refine ⟨64 * j + (Lib.bitLen u - 1), ?_, ?_, ?_⟩
  · unfold lenL; rw [if_neg (by omega), hj]
    show 64 * ((j + 1 : Nat) : Int) - 64 + (Lib.bitLen (x j).toNat : Nat) = _
    rw [hu, Int.toNat_natCast]; omega
  · rw [hv, ← p64', hu]
    have h1 : (2 : Int) ^ (Lib.bitLen u - 1) ≤ u := by rw [← powCast]; omega
    have h2 : 18446744073709551616 ^ j * 2 ^ (Lib.bitLen u - 1) ≤ 18446744073709551616 ^ j * (u : Int) := Int.mul_le_mul_of_nonneg_left h1 (Int.le_of_lt hP)
    rw [Int.mul_comm _ (u : Int)] at h2
    omega
  · rw [hv, show 64 * j + (Lib.bitLen u - 1) + 1 = 64 * j + Lib.bitLen u by omega, ← p64', hu]
    have h1 : (u : Int) + 1 ≤ 2 ^ Lib.bitLen u := by rw [← powCast]; omega
    have h2 : 18446744073709551616 ^ j * ((u : Int) + 1) ≤ 18446744073709551616 ^ j * 2 ^ Lib.bitLen u := Int.mul_le_mul_of_nonneg_left h1 (Int.le_of_lt hP)
    rw [Int.mul_add, Int.mul_one, Int.mul_comm _ (u : Int)] at h2
    omega
theorem word_mod {q : Nat → Int} (hq : Words q) {N m r : Nat} (hm : m < N) (hr : r ≤ 64) (h : val q N % 2 ^ (64 * m + r) = 0) : q m % 2 ^ r = 0 := by
  obtain ⟨k, rfl⟩ : ∃ k, N = m + (k + 1) := ⟨N - m - 1, by omega⟩
  have hs := val_split q m (k + 1)
  have h1 : val (segW q m (k + 1)) (k + 1) = q m + val (segW q (m + 1) k) k * 18446744073709551616 := by
    have := val_split (segW q m (k + 1)) 1 k
    rw [Nat.add_comm 1 k] at this
    rw [this]
    have e1 : val (segW q m (k + 1)) 1 = q m := by simp [val, segW]
    have e2 : val (segW (segW q m (k + 1)) 1 k) k = val (segW q (m + 1) k) k := val_congr k fun i hi => by
      rw [segW_lt _ _ _ i hi, segW_lt _ _ _ i hi, segW_lt _ _ _ (1 + i) (by omega)]; congr 1; omega
    rw [e1, e2]; simp
  have hb := val_bd hq m
  rw [← p64'] at h
  have hd : (18446744073709551616 : Int) ^ m * 2 ^ r ∣ val q (m + (k + 1)) := Int.dvd_of_emod_eq_zero h
  obtain ⟨c, hc⟩ := hd
  rw [hs] at hc
  have hm0 : val q m = 0 := by
    have e : val q m = (2 ^ r * c - val (segW q m (k + 1)) (k + 1)) * 18446744073709551616 ^ m := by grind
    rcases Int.lt_trichotomy (2 ^ r * c - val (segW q m (k + 1)) (k + 1)) 0 with hl | he | hg
    · have : (2 ^ r * c - val (segW q m (k + 1)) (k + 1)) * 18446744073709551616 ^ m ≤ (-1) * 18446744073709551616 ^ m := Int.mul_le_mul_of_nonneg_right (by omega) (Int.le_of_lt (pw_pos m))
      have := pw_pos m
      omega
    · rw [he, Int.zero_mul] at e; exact e
    · have : 1 * 18446744073709551616 ^ m ≤ (2 ^ r * c - val (segW q m (k + 1)) (k + 1)) * 18446744073709551616 ^ m := Int.mul_le_mul_of_nonneg_right (by omega) (Int.le_of_lt (pw_pos m))
      omega
  have h2 : val (segW q m (k + 1)) (k + 1) = 2 ^ r * c := by
    have hp := pw_pos m
    have e : (val (segW q m (k + 1)) (k + 1) - 2 ^ r * c) * 18446744073709551616 ^ m = 0 := by grind
    rcases Int.mul_eq_zero.1 e with h3 | h3
    · omega
    · omega
  rw [h1] at h2
  have e3 := p2_split hr
  have : q m = 2 ^ r * (c - val (segW q (m + 1) k) k * 2 ^ (64 - r)) := by
    rw [← e3] at h2; grind
  rw [this]; exact Int.mul_emod_right _ _
theorem or_bit {u : Int} {r : Nat} (hu : 0 ≤ u ∧ u ≤ 18446744073709551615) (hr : r < 64) (h : u % 2 ^ (r + 1) = 0) : orW u (2 ^ r) = u + 2 ^ r ∧ u + 2 ^ r ≤ 18446744073709551615 := by
  have hp := p2_pos r
  have hl := p2_le hr
  obtain ⟨n, rfl⟩ := Int.eq_ofNat_of_zero_le hu.1
  rw [← powCast, ← Int.natCast_emod] at h
  have hn : n % 2 ^ (r + 1) = 0 := by omega
  obtain ⟨k, rfl⟩ := Nat.dvd_of_mod_eq_zero hn
  have hlt : 2 ^ r < 2 ^ (r + 1) := Nat.pow_lt_pow_right (by omega) (by omega)
  have e := Nat.two_pow_add_eq_or_of_lt hlt k
  have h64 : 2 ^ (r + 1) * k ||| 2 ^ r < 2 ^ 64 := Nat.or_lt_two_pow (by omega) (Nat.pow_lt_pow_right (by omega) hr)
  have hw : (2 : Int) ^ r ≤ 18446744073709551615 := by omega
  rw [orW_eq _ _ hu ⟨by omega, hw⟩, Int.toNat_natCast, ← powCast, Int.toNat_natCast, ← e]
  rw [← e] at h64
  constructor
  · rw [Int.natCast_add]
  · have : ((2 ^ (r + 1) * k : Nat) : Int) + ((2 ^ r : Nat) : Int) = ((2 ^ (r + 1) * k + 2 ^ r : Nat) : Int) := by rw [Int.natCast_add]
    rw [this]; omega
theorem mod_half {Q T : Int} (h : Q % (T * 2) = 0) : Q % T = 0 := by
  obtain ⟨c, hc⟩ := Int.dvd_of_emod_eq_zero h
  rw [hc, Int.mul_assoc]; exact Int.mul_emod_right _ _
section
set_option maxHeartbeats 400000 in
theorem of_any (c : Int) (w : World) (hc : 0 ≤ c ∧ c ≤ 18446744073709551615) :
    Calls Tryz.prog 39 #[.int .u64 c] w fun e w' => ∃ g k cap z, e = .returned (.slice (some ⟨g, 0, none⟩) k cap) ∧ k ≤ 1 ∧ Num w' (some ⟨g, 0, none⟩) k cap z ∧ val z k = c ∧ Below w.heap.size w w' ∧ sizeL z k = k := by
  have hN := num_one w c hc
  have hT := trim_any _ 1 1 (oneW c) _ (by omega) hN
  have hle := sizeL_le (oneW c) 1
  have HV : Hid (val (oneW c) (sizeL (oneW c) 1) = c) := by show _ = _; rw [val_bare, val_oneA]
  have HB := below1 w (.cells #[.int .u64 c] 23)
  have HS : Hid (sizeL (oneW c) (sizeL (oneW c) 1) = sizeL (oneW c) 1) := sizeL_sizeL _ _
  generalize sizeL (oneW c) 1 = s at *
  clear hN
  go_enter Tryz.func39, Tryz.ntmps39
  go_wp2_with (go_at_call 18; refine hT.mono ?_; rintro e w1 ⟨g, cap, rfl, hN, hB⟩)
  go_ret
  exact ⟨g, s, cap, _, rfl, hle, hN, HV.out, HB.trans (hB.mono HB.size), HS.out⟩
/-- the quotient's words from k on -/
def quoK (x : Nat → Int) (d : Int) (s k i : Nat) : Int := if k ≤ i ∧ i < s then quoW x d s i else 0
set_option maxHeartbeats 1000000 in
theorem small_any (a : Option Addr) (s c : Nat) (x : Nat → Int) (d : Int) (w : World) (hs : s < 100000) (h : Num w a s c x) (hd : 0 < d ∧ d ≤ 18446744073709551615) :
    Calls Tryz.prog 19 #[.slice a s c, .int .u64 d] w fun e w' => ∃ g k cap z g' k' cap' z', e = .returned (.tuple #[.slice (some ⟨g, 0, none⟩) k cap, .slice (some ⟨g', 0, none⟩) k' cap']) ∧ k ≤ s ∧ k' ≤ 1 ∧ Num w' (some ⟨g, 0, none⟩) k cap z ∧ Num w' (some ⟨g', 0, none⟩) k' cap' z' ∧ val z k = val x s / d ∧ val z' k' = val x s % d ∧ Below w.heap.size w w' ∧ sizeL z' k' = k' := by
  have hx := h.2.2.1
  have H := fun j hj w => limDiv_ok x d s hx hd j hj w
  have hd0 : (d == 0) = false := by simp; omega
  have hmk := fun w => make_any (s : Int) s rfl (by omega) w
  have hA := apart_of h
  have hBW := below1 w (.cells (arrOf (fun _ => 0) s) 23)
  have hnx := h.next hBW
  have hO := Own.new w (fun _ => 0) s
  have hqv := quo_val hx hd.1 s
  have HQW : Hid (Words (quoW x d s)) := quoW_words hx hd.1 s
  have hrb := remJ_bd x d s s hd.1
  have HB : Hid (Below w.heap.size w (w.alloc (.cells (arrOf (fun _ => 0) s) 23))) := hBW
  clear hBW h hx
  go_enter Tryz.func19, Tryz.ntmps19
  go_wp2
  generalize w.alloc (.cells (arrOf (fun _ => 0) s) 23) = wA at *
  go_loopw [7, 8, 19] (fun c i u19 wr => ∃ (k : Nat), k ≤ s ∧ i = .int .i64 ((k : Int) - 1) ∧ c = .int .u64 (remJ x d s (s - k)) ∧ Own w.heap.size s (quoK x d s k) wr ∧ Upd w.heap.size wA wr) (fun _ i _ _ => (intOf i + 1).toNat)
  case atStart => exact ⟨s, Nat.le_refl _, by go_num, by rw [Nat.sub_self]; rfl, hO.congr fun i _ => by unfold quoK; rw [if_neg (by omega)], Upd.refl _ _⟩
  case round =>
    clear hO
    obtain ⟨k, hk, rfl, rfl, hO, hU⟩ := hrel
    by_cases h0 : k = 0
    · subst h0
      have hN := hO.num (x := quoK x d s 0) (fun i => by unfold quoK; split; exact HQW.out i; decide) 0 s s (by omega) (Nat.le_refl _) (by unfold maxLen; omega)
      have hT := trim_any _ s s _ _ (by omega) hN
      have hle := sizeL_le (segW (quoK x d s 0) 0 s) s
      have HV : Hid (val (segW (quoK x d s 0) 0 s) (sizeL (segW (quoK x d s 0) 0 s) s) = val x s / d) := by
        show _ = _
        rw [val_bare, val_congr (y := quoW x d s) s fun i hi => by rw [segW_lt _ _ _ i hi, Nat.zero_add]; unfold quoK; rw [if_pos (by omega)], hqv.1]
      have HR : Hid (remJ x d s s = val x s % d) := hqv.2
      have HBr : Hid (Below w.heap.size w wr) := HB.out.trans (hU.below (Nat.le_refl _))
      generalize segW (quoK x d s 0) 0 s = qz at *
      generalize sizeL qz s = k1 at *
      have hof := fun wr => of_any (remJ x d s s) wr (by omega)
      rw [Nat.sub_zero]
      generalize remJ x d s s = rm at *
      clear hN hO hU H hqv
      go_wp2_with (go_at_call 18; refine hT.mono ?_; rintro e w1 ⟨g, cap, rfl, hN1, hB1⟩; clear hT)
      go_wp2_with (go_at_call 39; refine (hof _).mono ?_; rintro e w2 ⟨g2, k2, p2, z2, rfl, hk2, hN2, hv2, hB2, hs2⟩; clear hof)
      go_ret2
      exact ⟨g, k1, cap, qz, g2, k2, p2, z2, rfl, hle, hk2, hN1.next hB2, hN2, HV.out, by rw [hv2, HR.out], (HBr.out.trans (hB1.mono HBr.out.size)).trans (hB2.mono (Nat.le_trans HBr.out.size hB1.size)), hs2⟩
    · obtain ⟨j, rfl⟩ : ∃ j, k = j + 1 := ⟨k - 1, by omega⟩
      have hjm : (j : Int) < s := by omega
      have ej : ((j + 1 : Nat) : Int) - 1 = j := by omega
      have ej2 : s - (j + 1) = s - 1 - j := by omega
      rw [ej, ej2]
      obtain ⟨b, off, rfl, hbs, hc⟩ := (hU.num' hA hnx).cells (by omega)
      have hcx := hc j (by omega)
      have hcj : ∃ u, wr.cell? ⟨w.heap.size, j, none⟩ = some (.int .u64 u) := ⟨_, hO.cell j (by omega)⟩
      obtain ⟨u, hcj⟩ := hcj
      have hfj := hO.frozen j
      have HJ := H j (by omega)
      have HO : Hid (Own w.heap.size s (quoK x d s j) (wr.setCell ⟨w.heap.size, j, none⟩ (.int .u64 (quoW x d s j)))) := (hO.set j (quoW x d s j)).congr fun i hi => by
        unfold quoK
        by_cases e : i = j
        · subst e; rw [if_pos rfl, if_pos (by omega)]
        · rw [if_neg e]
          by_cases e2 : j + 1 ≤ i ∧ i < s
          · rw [if_pos e2, if_pos (by omega)]
          · rw [if_neg e2, if_neg (by omega)]
      have HU : Hid (Upd w.heap.size wA (wr.setCell ⟨w.heap.size, j, none⟩ (.int .u64 (quoW x d s j)))) := hU.set j _
      clear hO hU H ej ej2 hc hqv hA hnx
      go_wp2_with (go_at_call 38; refine (HJ _).mono ?_; rintro e w' ⟨rfl, m', rfl⟩)
      go_roundw
      case rel => exact ⟨j, by omega, by go_num, rfl, HO.out, HU.out.drewN m'⟩
      case measure => simp [intOf]
end
section
theorem half_any (g k c : Nat) (z : Nat → Int) (w : World) (hk : 0 < k) (hk2 : k < 1000000) (h : Num w (some ⟨g, 0, none⟩) k c z) :
    Calls Tryz.prog 34 #[.slice (some ⟨g, 0, none⟩) k c, .int .i64 1] w fun e w' => ∃ g' k' cap b z', e = .returned (.tuple #[.slice (some ⟨g', 0, none⟩) k' cap, .bool b]) ∧ k' ≤ k ∧ Num w' (some ⟨g', 0, none⟩) k' cap z' ∧ (∀ V, val z k = V * 2 → val z' k' = V) ∧ Below w.heap.size w w' ∧ w.heap.size ≤ g' := by
  refine (frgt_p g 0 k c 0 1 1 z w (by omega) (by omega) (by omega) (by omega) (by decide) (by decide) (by decide) hk h).mono fun e w' ⟨g', k', cap, e1, hk', hN, hB, hf⟩ => ⟨g', k', cap, _, _, e1, hk', hN, fun V hV => ?_, hB, hf⟩
  have hd := dn_val h.2.2.1 (r := 1) (by omega) k
  rw [h.2.2.2.1 k (Nat.le_refl _), hV, ← val_more hN.2.2.2.1 k hk'] at *
  have e2 : (2 : Int) ^ 1 = 2 := rfl
  rw [e2] at hd
  have := Int.emod_nonneg (z 0) (show (2 : Int) ≠ 0 by decide)
  have := Int.emod_lt_of_pos (z 0) (show (0 : Int) < 2 by decide)
  simp at hd
  omega
theorem fleft_val (b off n c : Nat) (d : Int) (x : Nat → Int) (w : World) (hn : n < 1000000) (hd : 0 ≤ d) (hd2 : d ≤ 6300000) (h : Num w (some ⟨b, off, none⟩) n c x) :
    Calls Tryz.prog 71 #[.slice (some ⟨b, off, none⟩) n c, .int .i64 d] w fun e w' => ∃ g k cap z, e = .returned (.slice (some ⟨g, 0, none⟩) k cap) ∧ k ≤ n + d.toNat / 64 + 1 ∧ Num w' (some ⟨g, 0, none⟩) k cap z ∧ val z k = val x n * 2 ^ d.toNat ∧ Below w.heap.size w w' ∧ w.heap.size ≤ g ∧ sizeL z k = k := by
  obtain ⟨q, hq⟩ : ∃ q : Nat, d / 64 = q := ⟨(d / 64).toNat, by omega⟩
  obtain ⟨r, hr⟩ : ∃ r : Nat, d % 64 = r := ⟨(d % 64).toNat, by omega⟩
  have hdn : d.toNat = 64 * q + r := by omega
  have hr64 : r < 64 := by omega
  have hq2 : q < 99000 := by omega
  have hx := h.2.2.1
  have hv := finL_val hx h.2.2.2.1 q hr64
  rw [hdn]
  by_cases hr0 : 0 < r
  · exact (fleft_p b off n c q r d x w (by omega) (by omega) hr64 hr0 hq hr hd h).mono fun e w' ⟨g, k, cap, e1, hk, hN, hB, hf, htr⟩ => ⟨g, k, cap, _, e1, by omega, hN, by rw [← hv, val_more hN.2.2.2.1 _ hk], hB, hf, htr⟩
  · obtain rfl : r = 0 := by omega
    exact (fleft_z b off n c q d x w (by omega) (by omega) hq hr hd h).mono fun e w' ⟨g, k, cap, e1, hk, hN, hB, hf, htr⟩ => ⟨g, k, cap, _, e1, by omega, hN, by rw [← hv, val_more hN.2.2.2.1 _ hk], hB, hf, htr⟩
theorem frless_val (a a' : Option Addr) (n c n' c' : Nat) (x y : Nat → Int) (w : World) (hn : n < 4000000000) (hn' : n' < 4000000000) (h : Num w a n c x) (h' : Num w a' n' c' y) (hv : val y n' ≤ val x n) :
    Calls Tryz.prog 75 #[.slice a n c, .slice a' n' c'] w fun e w' => ∃ g k cap z, e = .returned (.slice (some ⟨g, 0, none⟩) k cap) ∧ k ≤ max n n' ∧ Num w' (some ⟨g, 0, none⟩) k cap z ∧ val z k = val x n - val y n' ∧ Below w.heap.size w w' ∧ w.heap.size ≤ g ∧ sizeL z k = k := by
  refine (frless_any a a' n c n' c' x y w (by omega) (by omega) h h').mono fun e w' ⟨g, k, cap, e1, hk, hN, hB, hf, htr⟩ => ⟨g, k, cap, _, e1, hk, hN, ?_, hB, hf, htr⟩
  have ex := val_more h.2.2.2.1 (max n n') (by omega)
  have ey := val_more h'.2.2.2.1 (max n n') (by omega)
  have e := dif_val h.2.2.1 h'.2.2.1 (max n n')
  rw [borW_end h.2.2.1 h'.2.2.1 (by omega), ex, ey] at e
  rw [← val_more hN.2.2.2.1 _ hk, val_congr (y := difW x y) (max n n') fun i hi => by unfold difZ; rw [if_pos hi]]
  omega
theorem pos_len {z : Nat → Int} {k : Nat} (h : 0 < val z k) : 0 < k := by
  rcases Nat.eq_zero_or_pos k with e | e
  · subst e; simp [val] at h
  · exact e

/-- what Over answers -/
def OvOut (X Y : Int) (w : World) (e : Ending) (w' : World) : Prop :=
  ∃ g k cap z g' k' cap' z', e = .returned (.tuple #[.slice (some ⟨g, 0, none⟩) k cap, .slice (some ⟨g', 0, none⟩) k' cap']) ∧ k ≤ 41000 ∧ k' ≤ 41000 ∧ Num w' (some ⟨g, 0, none⟩) k cap z ∧ Num w' (some ⟨g', 0, none⟩) k' cap' z' ∧ val z k = X / Y ∧ val z' k' = X % Y ∧ Below w.heap.size w w' ∧ sizeL z' k' = k'

set_option maxHeartbeats 4000000 in
theorem over_any (ga gb s c t c' : Nat) (x y : Nat → Int) (w : World) (hs : s ≤ 20000) (ht2 : t ≤ 20000) (ht : 2 ≤ t) (h : Num w (some ⟨ga, 0, none⟩) s c x) (h' : Num w (some ⟨gb, 0, none⟩) t c' y) (hxs : sizeL x s = s) (hys : sizeL y t = t) :
    Calls Tryz.prog 70 #[.slice (some ⟨ga, 0, none⟩) s c, .slice (some ⟨gb, 0, none⟩) t c'] w (OvOut (val x s) (val y t) w) := by
  have hx := h.2.2.1
  have hy := h'.2.2.1
  have HXS : Hid (sizeL x s = s) := hxs
  have c31 := size_num _ t c' y w (by omega) h'
  rw [hys] at c31
  have c20 := rlen_num _ s c x w (by omega) h
  have c20' := rlen_num _ t c' y w (by omega) h'
  have c45 := trim_any _ s c x w (by omega) h
  rw [hxs] at c45
  have hlx : 0 ≤ lenL x s ∧ lenL x s ≤ 64 * s := by
    unfold lenL; rw [hxs]
    split
    · omega
    · have := bitLen64 (x (s - 1)).toNat; omega
  have hY0 : 0 < val y t := val_pos hy t (by omega) hys
  have hX0 := (val_bd hx s).1
  obtain ⟨Ly, hLy, hy1, hy2⟩ := len_bd hy (n := t) (by omega)
  have hne : ((t : Int) == 1) = false := by simp; omega
  -- the number below the divisor times 2^(far + 1)
  have key : ∀ F : Int, lenL x s - lenL y t = F → (F < 0 → val x s < val y t) ∧ (0 ≤ F → val x s < val y t * 2 ^ (F.toNat + 1)) := by
    intro F hF
    rcases Nat.eq_zero_or_pos s with h0 | h0
    · subst h0
      have e0 : val x 0 = 0 := rfl
      refine ⟨fun _ => by rw [e0]; exact hY0, fun _ => by rw [e0]; exact Int.mul_pos hY0 (p2_pos _)⟩
    · obtain ⟨Lx, hLx, hx1, hx2⟩ := len_bd hx (n := s) (by omega)
      have mono : ∀ a b : Nat, a ≤ b → (2 : Int) ^ a ≤ 2 ^ b := fun a b hab => by
        obtain ⟨k, rfl⟩ : ∃ k, b = a + k := ⟨b - a, by omega⟩
        rw [Int.pow_add]
        have := p2_pos a
        have h3 := p2_pos k
        have : (2 : Int) ^ a * 1 ≤ 2 ^ a * 2 ^ k := Int.mul_le_mul_of_nonneg_left (by omega) (by omega)
        omega
      refine ⟨fun hneg => ?_, fun hpos => ?_⟩
      · have := mono (Lx + 1) Ly (by omega); omega
      · have e1 : Lx + 1 = Ly + (F.toNat + 1) := by omega
        have h5 : 2 ^ Ly * 2 ^ (F.toNat + 1) ≤ val y t * 2 ^ (F.toNat + 1) := Int.mul_le_mul_of_nonneg_right hy1 (Int.le_of_lt (p2_pos _))
        rw [← Int.pow_add, ← e1] at h5
        omega
  have hlyb : 0 ≤ lenL y t ∧ lenL y t ≤ 64 * t := by
    unfold lenL; rw [hys]
    split
    · omega
    · have := bitLen64 (y (t - 1)).toNat; omega
  obtain ⟨F, hF⟩ : ∃ F, lenL x s - lenL y t = F := ⟨_, rfl⟩
  have hk := key F hF
  have hFb : F ≤ 1280000 := by omega
  generalize lenL x s = LX at *
  generalize lenL y t = LY at *
  have HXN : Hid (Num w (some ⟨ga, 0, none⟩) s c x) := h
  have HYN : Hid (Num w (some ⟨gb, 0, none⟩) t c' y) := h'
  clear key h h' hy1 hy2 hLy hx hy
  obtain ⟨X, hX⟩ : ∃ X, val x s = X := ⟨_, rfl⟩
  obtain ⟨Y, hY⟩ : ∃ Y, val y t = Y := ⟨_, rfl⟩
  rw [hX, hY] at hk
  rw [hX] at hX0
  rw [hY] at hY0
  rw [hX, hY]
  have HX : Hid (val x s = X) := hX
  have HY : Hid (val y t = Y) := hY
  clear hX hY
  by_cases hneg : F < 0
  · have hXY := hk.1 hneg
    have HV : Hid (X / Y = 0 ∧ X % Y = X) := ⟨Int.ediv_eq_zero_of_lt hX0 hXY, Int.emod_eq_of_lt hX0 hXY⟩
    have HF : Hid (LX - LY = F) := hF
    have hFn : LX - LY < 0 := by omega
    clear hk hF
    go_enter Tryz.func70, Tryz.ntmps70
    go_wp2_with (first | (go_at_call 16; refine c31.mono ?_; rintro e w' ⟨rfl, rfl⟩) | (go_at_call_of 33 (Value.slice (some ⟨ga, 0, none⟩) s c); refine c20.mono ?_; rintro e w' ⟨rfl, rfl⟩; clear c20) | (go_at_call_of 33 (Value.slice (some ⟨gb, 0, none⟩) t c'); refine c20'.mono ?_; rintro e w' ⟨rfl, rfl⟩) | (go_at_call 18; refine c45.mono ?_; rintro e w1 ⟨g1, p1, rfl, hN1, hB1⟩))
    go_ret2
    have hb := below1 w1 (.cells #[] 23)
    exact ⟨w1.heap.size, 0, 0, fun _ => 0, g1, s, p1, x, rfl, by omega, by omega, ⟨Nat.le_refl _, by unfold maxLen; omega, fun _ => (by decide : (0 : Int) ≤ 0 ∧ (0 : Int) ≤ 18446744073709551615), fun _ _ => rfl, Or.inr ⟨w1.heap.size, 0, rfl, by simp, fun i hi => by omega⟩⟩, hN1.next hb, by rw [HV.out.1]; rfl, by rw [HV.out.2]; exact HX.out, hB1.trans (hb.mono hB1.size), HXS.out⟩
  · obtain ⟨N, rfl⟩ := Int.eq_ofNat_of_zero_le (show 0 ≤ F by omega)
    have hXb := hk.2 (by omega)
    rw [Int.toNat_natCast] at hXb
    obtain ⟨m0, hm0⟩ : ∃ m0 : Nat, (N : Int) / 64 = m0 := ⟨N / 64, by omega⟩
    have hmk := fun w => make_any ((m0 : Int) + 1) (m0 + 1) (by omega) (by omega) w
    have hm0b : m0 ≤ 20000 := by omega
    have hm0n : m0 = N / 64 := by omega
    have HM0 : Hid (m0 = N / 64) := hm0n
    clear hk hm0n
    go_enter Tryz.func70, Tryz.ntmps70
    go_wp2_with (first | (go_at_call 16; refine c31.mono ?_; rintro e w' ⟨rfl, rfl⟩) | (go_at_call_of 33 (Value.slice (some ⟨ga, 0, none⟩) s c); refine c20.mono ?_; rintro e w' ⟨rfl, rfl⟩; clear c20) | (go_at_call_of 33 (Value.slice (some ⟨gb, 0, none⟩) t c'); refine c20'.mono ?_; rintro e w' ⟨rfl, rfl⟩) | (go_at_call 18; refine c45.mono ?_; rintro e w1 ⟨g1, p1, rfl, hN1, hB1⟩))
    have hb1 := below1 w1 (.cells (arrOf (fun _ => 0) (m0 + 1)) 23)
    have hBq := hB1.trans (hb1.mono hB1.size)
    have c49 := fleft_val gb 0 t c' N y _ (by omega) (by omega) (by omega) (HYN.out.next hBq)
    rw [Int.toNat_natCast, HY.out] at c49
    have hO0 := Own.new w1 (fun _ => 0) (m0 + 1)
    have hg1lt : g1 < w1.heap.size := by
      rcases hN1.2.2.2.2 with ⟨h, _⟩ | ⟨b, off, h, hb, _⟩
      · cases h
      · cases h; exact hb
    have hsz : (w1.alloc (.cells (arrOf (fun _ => 0) (m0 + 1)) 23)).heap.size = w1.heap.size + 1 := by simp
    go_wp2_with (go_at_call 71; refine c49.mono ?_; rintro e w2 ⟨g2, k2, p2, z2, rfl, hk2, hN2, hv2, hb2, hf2, htr2⟩; clear c49 htr2)
    rw [hsz] at hf2 hb2
    have hB2 := hBq.trans (hb2.mono (by have := hB1.size; omega))
    have hNr := (hN1.next hb1).next (by rw [hsz]; exact hb2)
    have hO2 := Below.own hb2 (by omega) hO0
    generalize hgq : w1.heap.size = gq at *
    have hBsz := hB1.size
    have HGq : Hid (w.heap.size ≤ gq) := by show _ ≤ _; omega
    have hgq2 : gq < w2.heap.size := by have := hb2.size; omega
    clear hN1 hB1 hb1 hBq hO0 hb2 hsz hBsz hgq
    go_loopw [7, 9, 10, 65] (fun rv dv iv u65 wr => ∃ (k g1 k1 p1 g2 k2 p2 : Nat) (z1 z2 q : Nat → Int), k ≤ N + 1 ∧ iv = .int .i64 ((k : Int) - 1) ∧ rv = .slice (some ⟨g1, 0, none⟩) k1 p1 ∧ dv = .slice (some ⟨g2, 0, none⟩) k2 p2 ∧ k1 ≤ 40002 ∧ k2 ≤ 40002 ∧ g1 ≠ gq ∧ g2 ≠ gq ∧ gq < wr.heap.size ∧ Num wr (some ⟨g1, 0, none⟩) k1 p1 z1 ∧ Num wr (some ⟨g2, 0, none⟩) k2 p2 z2 ∧ Own gq (m0 + 1) q wr ∧ Words q ∧ Hid (val q (m0 + 1) * Y + val z1 k1 = X) ∧ Hid (val z1 k1 < Y * 2 ^ k) ∧ Hid (0 < k → val z2 k2 = Y * 2 ^ (k - 1)) ∧ Hid (val q (m0 + 1) % 2 ^ k = 0) ∧ Hid (sizeL z1 k1 = k1) ∧ Below w.heap.size w wr) (fun _ _ iv _ _ => (intOf iv + 1).toNat)
    case atStart => exact ⟨N + 1, g1, s, p1, g2, k2, p2, x, z2, fun _ => 0, Nat.le_refl _, by go_num, rfl, rfl, by omega, by omega, by omega, by omega, hgq2, hNr, hN2, hO2, fun _ => (by decide : (0 : Int) ≤ 0 ∧ (0 : Int) ≤ 18446744073709551615), by show _ = _; rw [val_zero, Int.zero_mul, Int.zero_add, HX.out], by show _ < _; rw [HX.out]; exact hXb, fun _ => hv2, by show _ = _; rw [val_zero]; exact Int.zero_emod _, HXS, hB2⟩
    case round =>
      clear hNr hN2 hO2 hB2 hv2 hk2 hf2 hg1lt hgq2 hXb c31 c20' c45
      obtain ⟨k, g1, k1, p1, g2, k2, p2, z1, z2, q, hk, rfl, rfl, rfl, hk1, hk2, hg1, hg2, hgq, hN1, hN2, hO, hqw, hv, hlt, hd, hmod, htr, hB⟩ := hrel
      by_cases h0 : k = 0
      · subst h0
        have hQN := hO.num hqw 0 (m0 + 1) (m0 + 1) (by omega) (Nat.le_refl _) (by unfold maxLen; omega)
        have c45 := trim_any _ (m0 + 1) (m0 + 1) _ _ (by omega) hQN
        have hle := sizeL_le (segW q 0 (m0 + 1)) (m0 + 1)
        have e1 : val (segW q 0 (m0 + 1)) (sizeL (segW q 0 (m0 + 1)) (m0 + 1)) = val q (m0 + 1) := by
          rw [val_bare]; exact val_congr _ fun i hi => by rw [segW_lt _ _ _ i hi, Nat.zero_add]
        have HFIN : Hid (val (segW q 0 (m0 + 1)) (sizeL (segW q 0 (m0 + 1)) (m0 + 1)) = X / Y ∧ val z1 k1 = X % Y) := by
          have h1 := hv.out
          have h2 := hlt.out
          rw [Int.pow_zero, Int.mul_one] at h2
          have := (Int.ediv_emod_unique hY0 (a := X) (r := val z1 k1) (q := val q (m0 + 1))).2 ⟨by rw [Int.mul_comm]; omega, (val_bd hN1.2.2.1 k1).1, h2⟩
          exact ⟨by rw [e1]; exact this.1.symm, this.2.symm⟩
        have HN1 : Hid (Num wr (some ⟨g1, 0, none⟩) k1 p1 z1) := hN1
        generalize segW q 0 (m0 + 1) = qz at *
        generalize sizeL qz (m0 + 1) = kq at *
        clear hQN hO hqw hv hlt hd hmod hN1 hN2 e1
        go_wp2_with (go_at_call 18; refine c45.mono ?_; rintro e w3 ⟨g3, p3, rfl, hN3, hB3⟩)
        go_ret2
        exact ⟨g3, kq, p3, qz, g1, k1, p1, z1, rfl, by omega, by omega, hN3, HN1.out.next hB3, HFIN.out.1, HFIN.out.2, hB.trans (hB3.mono hB.size), htr.out⟩
      · obtain ⟨j, rfl⟩ : ∃ j, k = j + 1 := ⟨k - 1, by omega⟩
        have ej : ((j + 1 : Nat) : Int) - 1 = j := by omega
        rw [ej]
        have hdv : val z2 k2 = Y * 2 ^ j := hd.out (by omega)
        have hT := p2_pos j
        have hdp : 0 < val z2 k2 := by rw [hdv]; exact Int.mul_pos hY0 hT
        have hk2p := pos_len hdp
        have c16 := rcmp_any _ _ k1 p1 k2 p2 z1 z2 wr (by omega) (by omega) hN1 hN2
        have HLT : Hid (val z1 k1 < Y * 2 ^ j * 2) := by show _ < _; have := hlt.out; rw [Int.pow_succ, ← Int.mul_assoc] at this; exact this
        have HMOD : Hid (val q (m0 + 1) % (2 ^ j * 2) = 0) := by show _ = _; have := hmod.out; rw [Int.pow_succ] at this; exact this
        have HMODF : Hid (val q (m0 + 1) % 2 ^ (j + 1) = 0) := hmod
        have HN' : Hid (∀ (z' : Nat → Int) (k' : Nat), (∀ V, val z2 k2 = V * 2 → val z' k' = V) → 0 < j → val z' k' = Y * 2 ^ (j - 1)) := fun z' k' hh hj => hh _ (by rw [hdv, Int.mul_assoc, ← Int.pow_succ]; congr 2; omega)
        have HJ : Hid (j ≤ N) := by show _ ≤ _; omega
        clear ej hd hlt hmod
        by_cases hge : Y * 2 ^ j ≤ val z1 k1
        · have hsg : 0 ≤ sgn (val z1 k1) (val z2 k2) := by unfold sgn; rw [if_neg (by omega)]; split <;> omega
          have c37 := frless_val _ _ k1 p1 k2 p2 z1 z2 wr (by omega) (by omega) hN1 hN2 (by rw [hdv]; exact hge)
          generalize sgn (val z1 k1) (val z2 k2) = sg at *
          obtain ⟨m, hmj⟩ : ∃ m : Nat, (j : Int) / 64 = m := ⟨j / 64, by omega⟩
          obtain ⟨r, hrj⟩ : ∃ r : Nat, (j : Int) % 64 = r := ⟨j % 64, by omega⟩
          have hr64 : r < 64 := by omega
          have hjm : j = 64 * m + r := by omega
          have hmm : m < m0 + 1 := by have := HJ.out; have := HM0.out; omega
          have hmi : (m : Int) < ((m0 + 1 : Nat) : Int) := by omega
          have hob := or_bit (hqw m) hr64 (word_mod hqw hmm (show r + 1 ≤ 64 by omega) (by have := HMODF.out; rw [hjm] at this; exact this))
          have HOR : Hid (bits BinOp.or IntKind.u64 (q m) (2 ^ r) = q m + 2 ^ r) := hob.1
          have hpr := p2_pos r
          have hpl := p2_le hr64
          have HQ2 : Hid (val (fun i => if i = m then q m + 2 ^ r else q i) (m0 + 1) = val q (m0 + 1) + 2 ^ j) := by
            show _ = _
            rw [val_set q m (q m + 2 ^ r) (m0 + 1) hmm]
            have e9 : (2 : Int) ^ j = 2 ^ r * 18446744073709551616 ^ m := by rw [p64, ← hjm]
            rw [e9]; congr 1; congr 1; omega
          have HQW2 : Hid (Words (fun i => if i = m then q m + 2 ^ r else q i)) := upd_words hqw ⟨by have := hqw m; omega, hob.2⟩
          have bq := hqw m
          have HO : Hid (Own gq (m0 + 1) q wr) := hO
          have HN2 : Hid (Num wr (some ⟨g2, 0, none⟩) k2 p2 z2) := hN2
          have hob2 := hob.2
          have HD : Hid (val z2 k2 = Y * 2 ^ j) := hdv
          clear hN1 hN2 hO hqw hob hjm HMODF
          go_wp2_with (first | (go_at_call 69; refine c16.mono ?_; rintro e w' ⟨rfl, rfl⟩) | (go_at_call 75; refine c37.mono ?_; rintro e w3 ⟨g3, k3, p3, z3, rfl, hk3, hN3, hv3, hb3, hf3, htr3⟩; have HT3 : Hid (sizeL z3 k3 = k3) := htr3; clear htr3; have hO3 := Below.own hb3 hgq HO.out; have hcq := hO3.cell m hmm; have hfq := hO3.frozen m))
          have hU3 : Upd gq w3 (w3.setCell ⟨gq, m, none⟩ (.int .u64 (bits BinOp.or IntKind.u64 (q m) (2 ^ r)))) := (Upd.refl gq w3).set m _
          have hO4 := hO3.set m (q m + 2 ^ r)
          rw [← HOR.out] at hO4
          have hN24 := hU3.num hg2 (HN2.out.next hb3)
          have hN34 := hU3.num (by omega) hN3
          have hB3 := (hB.trans (hb3.mono hB.size)).trans (hU3.below HGq.out)
          have hsz3 : w3.heap.size ≤ (w3.setCell ⟨gq, m, none⟩ (.int .u64 (bits BinOp.or IntKind.u64 (q m) (2 ^ r)))).heap.size := Nat.le_of_eq hU3.size.symm
          have hgq3 := hb3.size
          have c51 := half_any g2 k2 p2 z2 _ hk2p (by omega) hN24
          clear hO3 hN3 hN24 hU3 hb3
          generalize w3.setCell ⟨gq, m, none⟩ (.int .u64 (bits BinOp.or IntKind.u64 (q m) (2 ^ r))) = wS at *
          go_wp2_with (go_at_call 34; refine c51.mono ?_; rintro e w4 ⟨g4, k4, p4, bb, z4, rfl, hk4, hN4, hhf, hb4, hf4⟩)
          have hgS : gq < wS.heap.size := by omega
          go_roundw
          case rel =>
            refine ⟨j, g3, k3, p3, g4, k4, p4, z3, z4, fun i => if i = m then q m + 2 ^ r else q i, by have := HJ.out; omega, by go_num, rfl, rfl, by omega, by omega, by omega, by omega, by have := hb4.size; omega, hN34.next hb4, hN4, ?_, HQW2.out, ?_, ?_, fun hj => HN'.out z4 k4 hhf hj, ?_, HT3, hB3.trans (hb4.mono hB3.size)⟩
            · have := Below.own hb4 hgS hO4
              rw [HOR.out] at this
              exact this
            · show _ = _
              rw [HQ2.out, hv3, HD.out, Int.add_mul, Int.mul_comm (2 ^ j) Y]
              have := hv.out
              omega
            · show _ < _
              rw [hv3, HD.out]
              have := HLT.out
              omega
            · show _ = _
              rw [HQ2.out, Int.add_emod_right]
              exact mod_half HMOD.out
          case measure => simp [intOf]
        · have hs1 : sgn (val z1 k1) (val z2 k2) = -1 := by unfold sgn; rw [if_pos (by omega)]
          rw [hs1] at c16
          have c51 := half_any g2 k2 p2 z2 wr hk2p (by omega) hN2
          have HN1 : Hid (Num wr (some ⟨g1, 0, none⟩) k1 p1 z1) := hN1
          have HO : Hid (Own gq (m0 + 1) q wr) := hO
          have HQW : Hid (Words q) := hqw
          clear hN1 hN2 hO hqw hs1
          go_wp2_with (first | (go_at_call 69; refine c16.mono ?_; rintro e w' ⟨rfl, rfl⟩) | (go_at_call 34; refine c51.mono ?_; rintro e w4 ⟨g4, k4, p4, bb, z4, rfl, hk4, hN4, hhf, hb4, hf4⟩))
          go_roundw
          case rel => exact ⟨j, g1, k1, p1, g4, k4, p4, z1, z4, q, by have := HJ.out; omega, by go_num, rfl, rfl, hk1, by omega, hg1, by omega, by have := hb4.size; omega, HN1.out.next hb4, hN4, Below.own hb4 hgq HO.out, HQW.out, hv, by show _ < _; omega, fun hj => HN'.out z4 k4 hhf hj, mod_half HMOD.out, htr, hB.trans (hb4.mono hB.size)⟩
          case measure => simp [intOf]
end
/-- words shifted down, by whole words and bits: their value -/
theorem shrW_val {y : Nat → Int} {n q r A : Nat} (hy : Words y) (hz : ∀ i, n ≤ i → y i = 0) (hr : r < 64) (m : Nat) (hm : n ≤ m) (hA : val y n = A) : val (shrW y q r) m = ((A / 2 ^ (64 * q + r) : Nat) : Int) := by
  have hw : Words (fun i => y (q + i)) := fun i => hy (q + i)
  have e1 : shrW y q r = shrW (fun i => y (q + i)) 0 r := by
    funext j; unfold shrW; simp only [Nat.zero_add, Nat.add_assoc]
  have h1 := dn_val hw hr m
  have h2 : y (q + m) = 0 := hz _ (by omega)
  simp only [h2, Int.zero_emod, Int.zero_mul, Int.add_zero, Nat.add_zero] at h1
  have h3 := val_split y q m
  have h4 : val (segW y q m) m = val (fun i => y (q + i)) m := val_congr m fun i hi => segW_lt y q m i hi
  rw [h4, val_more hz (q + m) (by omega), hA] at h3
  rw [e1]
  have hb1 := val_bd hy q
  have hb2 := val_bd (shrW_words hw (q := 0) (r := r)) m
  have hp : (0 : Int) < 2 ^ r := p2_pos r
  have hm1 := Int.emod_nonneg (y q) (Int.ne_of_gt hp)
  have hm2 := Int.emod_lt_of_pos (y q) hp
  generalize val (shrW (fun i => y (q + i)) 0 r) m = S at *
  generalize val (fun i => y (q + i)) m = Z at *
  have eZ : Z / 2 ^ r = S := by
    rw [← h1, Int.add_comm, Int.add_mul_ediv_right _ _ (Int.ne_of_gt hp), Int.ediv_eq_zero_of_lt hm1 hm2, Int.zero_add]
  have eA : (A : Int) / 18446744073709551616 ^ q = Z := by
    rw [h3, Int.add_mul_ediv_right _ _ (Int.ne_of_gt (pw_pos q)), Int.ediv_eq_zero_of_lt hb1.1 hb1.2, Int.zero_add]
  rw [← eZ, ← eA, Int.natCast_ediv, Int.ediv_ediv_of_nonneg (Int.le_of_lt (pw_pos q)), p64']
  simp
theorem bnx {w0 W W' : World} (h : Below w0.heap.size w0 W) (hb : Below W.heap.size W W') : Below w0.heap.size w0 W' := h.trans (hb.mono h.size)
/-- how many bits a number has -/
def bl (V : Nat) : Nat := if V = 0 then 0 else Nat.log2 V + 1
theorem bl_le {V k : Nat} : bl V ≤ k ↔ V < 2 ^ k := by
  unfold bl
  by_cases h : V = 0
  · subst h; simp; exact Nat.two_pow_pos k
  · rw [if_neg h]
    have := Nat.log2_lt h (k := k)
    omega
theorem bl_ge {V k : Nat} : k < bl V ↔ 2 ^ k ≤ V := by
  have := bl_le (V := V) (k := k)
  omega
theorem bl_zero {V : Nat} : bl V = 0 ↔ V = 0 := by
  unfold bl; by_cases h : V = 0 <;> simp [h]
theorem bl_eq {V L : Nat} (h1 : 2 ^ (L - 1) ≤ V) (h2 : V < 2 ^ L) : bl V = L := by
  have a := bl_le.2 h2
  by_cases h : L = 0
  · omega
  · have b := bl_ge.2 h1
    omega
/-- a number in a list of words, at most K of them -/
def Nt (K V : Nat) (v : Value) (w : World) : Prop := ∃ a k cap z, v = .slice a k cap ∧ k ≤ K ∧ Num w a k cap z ∧ val z k = (V : Int)
theorem Nt.next {K V : Nat} {v : Value} {w w' : World} (h : Nt K V v w) (hb : Below w.heap.size w w') : Nt K V v w' := by
  obtain ⟨a, k, cap, z, h1, h2, h3, h4⟩ := h
  exact ⟨a, k, cap, z, h1, h2, h3.next hb, h4⟩
theorem Nt.more {K K' V : Nat} {v : Value} {w : World} (h : Nt K V v w) (hk : K ≤ K') : Nt K' V v w := by
  obtain ⟨a, k, cap, z, h1, h2, h3, h4⟩ := h
  exact ⟨a, k, cap, z, h1, by omega, h3, h4⟩
/-- without noughts at its end -/
def Nz (K V : Nat) (v : Value) (w : World) : Prop := ∃ a k cap z, v = .slice a k cap ∧ k ≤ K ∧ Num w a k cap z ∧ val z k = (V : Int) ∧ sizeL z k = k
theorem Nz.next {K V : Nat} {v : Value} {w w' : World} (h : Nz K V v w) (hb : Below w.heap.size w w') : Nz K V v w' := by
  obtain ⟨a, k, cap, z, h1, h2, h3, h4, h5⟩ := h
  exact ⟨a, k, cap, z, h1, h2, h3.next hb, h4, h5⟩
theorem Nz.nt {K V : Nat} {v : Value} {w : World} (h : Nz K V v w) : Nt K V v w := by
  obtain ⟨a, k, cap, z, h1, h2, h3, h4, h5⟩ := h
  exact ⟨a, k, cap, z, h1, h2, h3, h4⟩
theorem size_zero {z : Nat → Int} {k V : Nat} (hz : Words z) (hv : val z k = (V : Int)) : sizeL z k = 0 ↔ V = 0 := by
  constructor
  · intro h
    have := val_bare (x := z) k
    rw [h] at this
    have h0 : val z 0 = 0 := rfl
    omega
  · intro h
    subst h
    rcases Nat.eq_zero_or_pos (sizeL z k) with h | h
    · exact h
    · exfalso
      have := val_longer (x := z) (y := z) hz hz (n := 0) (m := sizeL z k) h (sizeL_sizeL z k)
      rw [val_bare] at this
      have h0 : val z 0 = 0 := rfl
      omega
theorem len_bl {z : Nat → Int} {k V : Nat} (hz : Words z) (hv : val z k = (V : Int)) : lenL z k = (bl V : Int) := by
  rcases Nat.eq_zero_or_pos (sizeL z k) with h | h
  · have h0 := (size_zero hz hv).1 h
    unfold lenL; rw [if_pos h, h0]; rfl
  · obtain ⟨L, h1, h2, h3⟩ := len_bd hz h
    rw [hv] at h2 h3
    have e : bl V = L + 1 := by
      have e1 : ((2 : Int) ^ L) = ((2 ^ L : Nat) : Int) := by simp
      have e2 : ((2 : Int) ^ (L + 1)) = ((2 ^ (L + 1) : Nat) : Int) := by simp
      rw [e1] at h2
      rw [e2] at h3
      exact bl_eq (by rw [Nat.add_sub_cancel]; omega) (by omega)
    rw [e, h1]; omega
/-- how many words -/
theorem size_bl {z : Nat → Int} {k V m : Nat} (hz : Words z) (hv : val z k = (V : Int)) : sizeL z k ≤ m ↔ bl V ≤ 64 * m := by
  have hl := len_bl hz hv
  unfold lenL at hl
  rcases Nat.eq_zero_or_pos (sizeL z k) with h | h
  · rw [if_pos h] at hl; omega
  · rw [if_neg (by omega)] at hl
    have ht := sizeL_top k h
    have hw := hz (sizeL z k - 1)
    have hb := bitLen_spec (z (sizeL z k - 1)).toNat (by omega) (by omega)
    omega
theorem nlen_v {K V : Nat} {v : Value} {w : World} (hK : K < 100000000) (h : Nt K V v w) :
    Calls Tryz.prog 55 #[v] w fun e w' => e = .returned (.int .i64 (bl V : Int)) ∧ w = w' := by
  obtain ⟨a, k, cap, z, rfl, hk, hN, hv⟩ := h
  refine (nlen_any a k cap z w (by omega) hN).mono fun e w' ⟨h1, h2⟩ => ⟨?_, h2⟩
  rw [h1, len_bl hN.2.2.1 hv]
theorem nshl_v {K V : Nat} {v : Value} {w : World} (d : Nat) (hK : K < 100000000) (h : Nt K V v w) (hd : bl V + d ≤ 127000) :
    Calls Tryz.prog 101 #[v, .int .i64 (d : Int)] w fun e w' => ∃ r, e = .returned (.tuple #[r, .int .i64 0]) ∧ Nz 2001 (V * 2 ^ d) r w' ∧ Below w.heap.size w w' := by
  obtain ⟨a, k, cap, z, rfl, hk, hN, hv⟩ := h
  have hs := (size_bl (m := (bl V + 63) / 64) hN.2.2.1 hv).2 (by omega)
  refine (nshl_any a k cap z d w (by omega) hN (by omega) (by omega)).mono fun e w' ⟨g, k', cap', z', h1, h2, h3, h4, h5, h6⟩ => ⟨_, h1, ⟨_, k', cap', z', rfl, h2, h3, ?_, h5⟩, h6⟩
  rw [h4, hv]; simp
theorem ncmp_v {K K' V V' : Nat} {v v' : Value} {w : World} (hK : K < 100000000) (hK' : K' < 100000000) (h : Nt K V v w) (h' : Nt K' V' v' w) :
    Calls Tryz.prog 99 #[v, v'] w fun e w' => e = .returned (.int .i64 (sgn (V : Int) (V' : Int))) ∧ Below w.heap.size w w' := by
  obtain ⟨a, k, cap, z, rfl, hk, hN, hv⟩ := h
  obtain ⟨a', k', cap', z', rfl, hk', hN', hv'⟩ := h'
  have := ncmp_b a a' k cap k' cap' z z' w (by omega) (by omega) hN hN'
  rw [hv, hv'] at this
  exact this
theorem nadd_v {K K' V V' : Nat} {v v' : Value} {w : World} (hK : K < 100000000) (hK' : K' < 100000000) (h : Nt K V v w) (h' : Nt K' V' v' w) :
    Calls Tryz.prog 104 #[v, v'] w fun e w' => ∃ r, e = .returned r ∧ Nz (K + K' + 1) (V + V') r w' ∧ Below w.heap.size w w' := by
  obtain ⟨a, k, cap, z, rfl, hk, hN, hv⟩ := h
  obtain ⟨a', k', cap', z', rfl, hk', hN', hv'⟩ := h'
  have s1 := sizeL_le z k
  have s2 := sizeL_le z' k'
  refine (nadd_any a a' k cap k' cap' z z' w (by omega) (by omega) hN hN').mono fun e w' ⟨g, k2, cap2, z2, h1, h2, h3, h4, h5, h6⟩ => ⟨_, h1, ⟨_, k2, cap2, z2, rfl, by omega, h3, ?_, h5⟩, h6⟩
  rw [h4, hv, hv']; omega
theorem ndiv_v {K K' V V' : Nat} {v v' : Value} {w : World} (hK : K < 100000000) (hK' : K' < 100000000) (h : Nt K V v w) (h' : Nt K' V' v' w) (hb : bl V ≤ 128000) (hb' : bl V' ≤ 128000) (h0 : V' ≠ 0) :
    Calls Tryz.prog 102 #[v, v'] w fun e w' => ∃ q r, e = .returned (.tuple #[q, r, .int .i64 0]) ∧ Nz 2001 (V / V') q w' ∧ Nz 2001 (V % V') r w' ∧ Below w.heap.size w w' := by
  obtain ⟨a, k, cap, z, rfl, hk, hN, hv⟩ := h
  obtain ⟨a', k', cap', z', rfl, hk', hN', hv'⟩ := h'
  have s1 := (size_bl (m := 2000) hN.2.2.1 hv).2 (by omega)
  have s2 := (size_bl (m := 2000) hN'.2.2.1 hv').2 (by omega)
  have s3 : 0 < sizeL z' k' := Nat.pos_of_ne_zero fun e => h0 ((size_zero hN'.2.2.1 hv').1 e)
  refine (ndiv_any a a' k cap k' cap' z z' w (by omega) (by omega) hN hN' s1 s2 s3).mono fun e w' ⟨o, k2, cap2, z2, o', k3, cap3, z3, h1, h2, h3, h4, h5, h6, h7, h8, h9, h10⟩ => ⟨_, _, h1, ⟨_, _, _, _, rfl, h2, h4, ?_, h8⟩, ⟨_, _, _, _, rfl, h3, h5, ?_, h9⟩, h10⟩
  · rw [h6, hv, hv']; simp
  · rw [h7, hv, hv']; simp
theorem nshr_v {K V : Nat} {v : Value} {w : World} (hK : K < 100000000) (h : Nt K V v w) :
    Calls Tryz.prog 61 #[v, .int .i64 1] w fun e w' => ∃ r b, e = .returned (.tuple #[r, .bool b]) ∧ Nz K (V / 2) r w' ∧ Below w.heap.size w w' := by
  obtain ⟨a, k, cap, z, rfl, hk, hN, hv⟩ := h
  refine (nshr_all a k cap z 1 w (by omega) hN (by decide)).mono fun e w' ⟨o, k2, cap2, h1, h2, h3, h4, h5⟩ => ⟨_, _, h1, ⟨_, _, _, _, rfl, by omega, h3, ?_, h4⟩, h5⟩
  have hz := h3.2.2.2.1
  have e1 : shrF z 1 = shrW z 0 1 := by unfold shrF; rw [if_neg (by decide)]; rfl
  rw [← val_more hz k h2, e1]
  exact shrW_val hN.2.2.1 hN.2.2.2.1 (by decide) k (Nat.le_refl _) hv
section
def knB (d : Int) : Prop := 0 ≤ d ∧ d ≤ 4
instance (d : Int) : Decidable (knB d) := inferInstanceAs (Decidable (_ ∧ _))
theorem known_any (d : Int) (w : World) : Calls Tryz.prog 41 #[.int .i64 d] w fun e w' => e = .returned (.bool (decide (knB d))) ∧ w = w' := by
  by_cases h1 : 0 ≤ d
  · by_cases h2 : d ≤ 4
    · rw [decide_eq_true (show knB d from ⟨h1, h2⟩)]
      go_enter Tryz.func41, Tryz.ntmps41
      go_wp2
      go_ret
      exact ⟨rfl, rfl⟩
    · rw [decide_eq_false (show ¬ knB d from fun h => h2 h.2)]
      go_enter Tryz.func41, Tryz.ntmps41
      go_wp2
      go_ret
      exact ⟨rfl, rfl⟩
  · rw [decide_eq_false (show ¬ knB d from fun h => h1 h.1)]
    go_enter Tryz.func41, Tryz.ntmps41
    go_wp2
    go_ret
    exact ⟨rfl, rfl⟩
/-- does what overflows become infinite -/
def inB (d : Int) (s : Bool) : Bool := if d = 0 ∨ d = 1 then true else if d = 3 then !s else if d = 4 then s else false
set_option maxHeartbeats 400000 in
theorem infinite_any (d : Int) (s : Bool) (w : World) : Calls Tryz.prog 107 #[.int .i64 d, .bool s] w fun e w' => e = .returned (.bool (inB d s)) ∧ w = w' := by
  by_cases h0 : d = 0
  · subst h0
    go_enter Tryz.func107, Tryz.ntmps107
    go_wp2
    go_ret
    exact ⟨rfl, rfl⟩
  · by_cases h1 : d = 1
    · subst h1
      go_enter Tryz.func107, Tryz.ntmps107
      go_wp2
      go_ret
      exact ⟨rfl, rfl⟩
    · by_cases h3 : d = 3
      · subst h3
        go_enter Tryz.func107, Tryz.ntmps107
        go_wp2
        go_ret
        exact ⟨rfl, rfl⟩
      · by_cases h4 : d = 4
        · subst h4
          go_enter Tryz.func107, Tryz.ntmps107
          go_wp2
          go_ret
          exact ⟨rfl, rfl⟩
        · have e : inB d s = false := by unfold inB; simp [h0, h1, h3, h4]
          have b0 : (d == 0) = false := by simpa using h0
          have b1 : (d == 1) = false := by simpa using h1
          have b3 : (d == 3) = false := by simpa using h3
          have b4 : (d == 4) = false := by simpa using h4
          rw [e]
          go_enter Tryz.func107, Tryz.ntmps107
          go_wp2
          go_ret
          exact ⟨rfl, rfl⟩
/-- is the neighbour farther from nought taken -/
def faB (d : Int) (s odd : Bool) (R D : Nat) : Bool := if R = 0 then false else if d = 0 then decide (D < R + R) || (decide (R + R = D) && odd) else if d = 1 then decide (D ≤ R + R) else inB d s
theorem sgn_ways (a b : Int) : (a < b ∧ sgn a b = -1) ∨ (a = b ∧ sgn a b = 0) ∨ (b < a ∧ sgn a b = 1) := by
  unfold sgn
  by_cases h : a < b
  · exact Or.inl ⟨h, if_pos h⟩
  · by_cases h' : b < a
    · exact Or.inr (Or.inr ⟨h', by rw [if_neg h, if_pos h']⟩)
    · exact Or.inr (Or.inl ⟨by omega, by rw [if_neg h, if_neg h']⟩)
section
variable (d : Int) (s odd : Bool) (R D : Nat) (vr vd : Value) (w : World)
  (c26 : ∀ W, Below w.heap.size w W → Calls Tryz.prog 55 #[vr] W fun e w' => e = .returned (.int .i64 (bl R : Int)) ∧ W = w')
include c26
set_option maxHeartbeats 400000 in
theorem far_zero (h : R = 0) : Calls Tryz.prog 103 #[.int .i64 d, .bool s, .bool odd, vr, vd] w fun e w' => e = .returned (.bool false) ∧ Below w.heap.size w w' := by
  have hb : (((bl R : Nat) : Int) == 0) = true := by rw [h]; decide
  go_enter Tryz.func103, Tryz.ntmps103
  go_wp2_with (go_at_call 55; refine (c26 _ bgo).mono ?_; rintro e w1 ⟨rfl, rfl⟩)
  go_ret
  exact ⟨rfl, bgo⟩
variable (hv : Int) (hR : (((bl R : Nat) : Int) == 0) = false)
  (c61 : ∀ W, Below w.heap.size w W → Calls Tryz.prog 104 #[vr, vr] W fun e w' => ∃ r, e = .returned r ∧ (∀ W', Below w'.heap.size w' W' → Calls Tryz.prog 99 #[r, vd] W' fun e w'' => e = .returned (.int .i64 hv) ∧ Below W'.heap.size W' w'') ∧ Below W.heap.size W w')
include hR c61
set_option maxHeartbeats 400000 in
theorem far_0g (h : 0 < hv) : Calls Tryz.prog 103 #[.int .i64 0, .bool s, .bool odd, vr, vd] w fun e w' => e = .returned (.bool true) ∧ Below w.heap.size w w' := by
  go_enter Tryz.func103, Tryz.ntmps103
  go_wp2_with (first
    | (go_at_call 55; refine (c26 _ bgo).mono ?_; rintro e w1 ⟨rfl, rfl⟩)
    | (go_at_call 104; refine (c61 _ bgo).mono ?_; rintro e w2 ⟨v2, rfl, c58, hb2⟩; have hA2 := bnx (w0 := w) bgo hb2)
    | (go_at_call 99; refine (c58 _ (Below.refl _ _)).mono ?_; rintro e w3 ⟨rfl, hb3⟩; have hA3 := bnx (w0 := w) hA2 hb3)
    | (go_at_call 107; refine (infinite_any _ _ _).mono ?_; rintro e w4 ⟨rfl, rfl⟩))
  go_ret
  exact ⟨by first | rfl | (simp; omega), bgo⟩
set_option maxHeartbeats 400000 in
theorem far_0e (h : hv = 0) : Calls Tryz.prog 103 #[.int .i64 0, .bool s, .bool odd, vr, vd] w fun e w' => e = .returned (.bool odd) ∧ Below w.heap.size w w' := by
  subst h
  go_enter Tryz.func103, Tryz.ntmps103
  go_wp2_with (first
    | (go_at_call 55; refine (c26 _ bgo).mono ?_; rintro e w1 ⟨rfl, rfl⟩)
    | (go_at_call 104; refine (c61 _ bgo).mono ?_; rintro e w2 ⟨v2, rfl, c58, hb2⟩; have hA2 := bnx (w0 := w) bgo hb2)
    | (go_at_call 99; refine (c58 _ (Below.refl _ _)).mono ?_; rintro e w3 ⟨rfl, hb3⟩; have hA3 := bnx (w0 := w) hA2 hb3)
    | (go_at_call 107; refine (infinite_any _ _ _).mono ?_; rintro e w4 ⟨rfl, rfl⟩))
  go_ret
  exact ⟨by first | rfl | (simp; omega), bgo⟩
set_option maxHeartbeats 400000 in
theorem far_0l (h : ¬ 0 < hv) (h1 : (hv == 0) = false) : Calls Tryz.prog 103 #[.int .i64 0, .bool s, .bool odd, vr, vd] w fun e w' => e = .returned (.bool false) ∧ Below w.heap.size w w' := by
  go_enter Tryz.func103, Tryz.ntmps103
  go_wp2_with (first
    | (go_at_call 55; refine (c26 _ bgo).mono ?_; rintro e w1 ⟨rfl, rfl⟩)
    | (go_at_call 104; refine (c61 _ bgo).mono ?_; rintro e w2 ⟨v2, rfl, c58, hb2⟩; have hA2 := bnx (w0 := w) bgo hb2)
    | (go_at_call 99; refine (c58 _ (Below.refl _ _)).mono ?_; rintro e w3 ⟨rfl, hb3⟩; have hA3 := bnx (w0 := w) hA2 hb3)
    | (go_at_call 107; refine (infinite_any _ _ _).mono ?_; rintro e w4 ⟨rfl, rfl⟩))
  go_ret
  exact ⟨by first | rfl | (simp; omega), bgo⟩
set_option maxHeartbeats 400000 in
theorem far_1g (h : 0 ≤ hv) : Calls Tryz.prog 103 #[.int .i64 1, .bool s, .bool odd, vr, vd] w fun e w' => e = .returned (.bool true) ∧ Below w.heap.size w w' := by
  go_enter Tryz.func103, Tryz.ntmps103
  go_wp2_with (first
    | (go_at_call 55; refine (c26 _ bgo).mono ?_; rintro e w1 ⟨rfl, rfl⟩)
    | (go_at_call 104; refine (c61 _ bgo).mono ?_; rintro e w2 ⟨v2, rfl, c58, hb2⟩; have hA2 := bnx (w0 := w) bgo hb2)
    | (go_at_call 99; refine (c58 _ (Below.refl _ _)).mono ?_; rintro e w3 ⟨rfl, hb3⟩; have hA3 := bnx (w0 := w) hA2 hb3)
    | (go_at_call 107; refine (infinite_any _ _ _).mono ?_; rintro e w4 ⟨rfl, rfl⟩))
  go_ret
  exact ⟨by first | rfl | (simp; omega), bgo⟩
set_option maxHeartbeats 400000 in
theorem far_1l (h : ¬ 0 ≤ hv) : Calls Tryz.prog 103 #[.int .i64 1, .bool s, .bool odd, vr, vd] w fun e w' => e = .returned (.bool false) ∧ Below w.heap.size w w' := by
  go_enter Tryz.func103, Tryz.ntmps103
  go_wp2_with (first
    | (go_at_call 55; refine (c26 _ bgo).mono ?_; rintro e w1 ⟨rfl, rfl⟩)
    | (go_at_call 104; refine (c61 _ bgo).mono ?_; rintro e w2 ⟨v2, rfl, c58, hb2⟩; have hA2 := bnx (w0 := w) bgo hb2)
    | (go_at_call 99; refine (c58 _ (Below.refl _ _)).mono ?_; rintro e w3 ⟨rfl, hb3⟩; have hA3 := bnx (w0 := w) hA2 hb3)
    | (go_at_call 107; refine (infinite_any _ _ _).mono ?_; rintro e w4 ⟨rfl, rfl⟩))
  go_ret
  exact ⟨by first | rfl | (simp; omega), bgo⟩
set_option maxHeartbeats 400000 in
theorem far_d (h0 : (d == 0) = false) (h1 : (d == 1) = false) : Calls Tryz.prog 103 #[.int .i64 d, .bool s, .bool odd, vr, vd] w fun e w' => e = .returned (.bool (inB d s)) ∧ Below w.heap.size w w' := by
  go_enter Tryz.func103, Tryz.ntmps103
  go_wp2_with (first
    | (go_at_call 55; refine (c26 _ bgo).mono ?_; rintro e w1 ⟨rfl, rfl⟩)
    | (go_at_call 104; refine (c61 _ bgo).mono ?_; rintro e w2 ⟨v2, rfl, c58, hb2⟩; have hA2 := bnx (w0 := w) bgo hb2)
    | (go_at_call 99; refine (c58 _ (Below.refl _ _)).mono ?_; rintro e w3 ⟨rfl, hb3⟩; have hA3 := bnx (w0 := w) hA2 hb3)
    | (go_at_call 107; refine (infinite_any _ _ _).mono ?_; rintro e w4 ⟨rfl, rfl⟩))
  go_ret
  exact ⟨by first | rfl | (simp; omega), bgo⟩
end
theorem farther_v (d : Int) (s odd : Bool) {K K' R D : Nat} {vr vd : Value} {w : World} (hK : K < 1000000) (hK' : K' < 1000000) (h : Nt K R vr w) (h' : Nt K' D vd w) :
    Calls Tryz.prog 103 #[.int .i64 d, .bool s, .bool odd, vr, vd] w fun e w' => e = .returned (.bool (faB d s odd R D)) ∧ Below w.heap.size w w' := by
  have c26 := fun W (hb : Below w.heap.size w W) => nlen_v (by omega) (h.next hb)
  unfold faB
  by_cases hz : R = 0
  · rw [if_pos hz]; exact far_zero d s odd R vr vd w c26 hz
  · rw [if_neg hz]
    have hR : (((bl R : Nat) : Int) == 0) = false := by
      have : bl R ≠ 0 := fun e => hz (bl_zero.1 e)
      rw [beq_eq_false_iff_ne]; omega
    have c61 : ∀ W, Below w.heap.size w W → Calls Tryz.prog 104 #[vr, vr] W fun e w' => ∃ r, e = .returned r ∧ (∀ W', Below w'.heap.size w' W' → Calls Tryz.prog 99 #[r, vd] W' fun e w'' => e = .returned (.int .i64 (sgn ((R + R : Nat) : Int) (D : Int))) ∧ Below W'.heap.size W' w'') ∧ Below W.heap.size W w' := fun W hb =>
      (nadd_v (by omega) (by omega) (h.next hb) (h.next hb)).mono fun e w' ⟨r, h1, h2, h3⟩ => ⟨r, h1, fun W' hb' => ncmp_v (by omega) (by omega) (h2.nt.next hb') (h'.next (bnx (bnx hb h3) hb')), h3⟩
    by_cases h0 : d = 0
    · subst h0
      rw [if_pos rfl]
      rcases sgn_ways ((R + R : Nat) : Int) (D : Int) with ⟨a, e⟩ | ⟨a, e⟩ | ⟨a, e⟩
      · rw [e] at c61
        rw [decide_eq_false (show ¬ D < R + R by omega), decide_eq_false (show ¬ R + R = D by omega)]
        exact far_0l s odd R vr vd w c26 (-1) hR c61 (by decide) (by decide)
      · rw [e] at c61
        rw [decide_eq_false (show ¬ D < R + R by omega), decide_eq_true (show R + R = D by omega), Bool.false_or, Bool.true_and]
        exact far_0e s odd R vr vd w c26 0 hR c61 rfl
      · rw [e] at c61
        rw [decide_eq_true (show D < R + R by omega), Bool.true_or]
        exact far_0g s odd R vr vd w c26 1 hR c61 (by decide)
    · rw [if_neg h0]
      by_cases h1 : d = 1
      · subst h1
        rw [if_pos rfl]
        rcases sgn_ways ((R + R : Nat) : Int) (D : Int) with ⟨a, e⟩ | ⟨a, e⟩ | ⟨a, e⟩
        · rw [e] at c61
          rw [decide_eq_false (show ¬ D ≤ R + R by omega)]
          exact far_1l s odd R vr vd w c26 (-1) hR c61 (by decide)
        · rw [e] at c61
          rw [decide_eq_true (show D ≤ R + R by omega)]
          exact far_1g s odd R vr vd w c26 0 hR c61 (by decide)
        · rw [e] at c61
          rw [decide_eq_true (show D ≤ R + R by omega)]
          exact far_1g s odd R vr vd w c26 1 hR c61 (by decide)
      · rw [if_neg h1]
        exact far_d d s odd R vr vd w c26 _ hR c61 (by simpa using h0) (by simpa using h1)
theorem raised_any (x s : Bool) (w : World) : Calls Tryz.prog 63 #[.bool x, .bool s] w fun e w' => e = .returned (.int .i64 (if x then 0 else if s then 12 else 8)) ∧ w = w' := by
  cases x <;> cases s
  all_goals (
    go_enter Tryz.func63, Tryz.ntmps63
    go_wp2
    go_ret
    exact ⟨rfl, rfl⟩)
end
section
theorem nz_more2 {K V : Nat} {v : Value} {w w' : World} (h : Nz K V v w) (hb : Below w.heap.size w w') : Nz (K + 2) V v w' := by
  obtain ⟨a, k, cap, z, rfl, hk, hN, hv, hs⟩ := h
  exact ⟨a, k, cap, z, rfl, by omega, hN.next hb, hv, hs⟩
theorem nt_w1 {W : World} {g V : Nat} {vi : Int} (hg : g = W.heap.size) (hv : vi = (V : Int)) (hb : V < 18446744073709551616) : Nt 1 V (.slice (some ⟨g, 0, none⟩) 1 1) (W.alloc (.cells #[.int .u64 vi] 23)) := by
  subst hg hv
  exact ⟨_, 1, 1, oneW V, rfl, Nat.le_refl _, num_one W V (by omega), val_one1 V⟩
section
variable (d : Int) (s odd far : Bool) (vn vd : Value) (Q R D : Nat) (w : World) (hvb : Nt 2001 D vd w)
  (c59 : Calls Tryz.prog 102 #[vn, vd] w fun e w' => ∃ q r, e = .returned (.tuple #[q, r, .int .i64 0]) ∧ Nz 2001 Q q w' ∧ Nz 2001 R r w' ∧ Below w.heap.size w w')
  (c60 : ∀ W vr vb, Nt 2001 R vr W → Nt 2001 D vb W → Calls Tryz.prog 103 #[.int .i64 d, .bool s, .bool odd, vr, vb] W fun e w' => e = .returned (.bool far) ∧ Below W.heap.size W w')
  (c26 : ∀ W vr, Nt 2001 R vr W → Calls Tryz.prog 55 #[vr] W fun e w' => e = .returned (.int .i64 (bl R : Int)) ∧ W = w')
  (c61 : ∀ W q v, Nt 2001 Q q W → Nt 1 1 v W → Calls Tryz.prog 104 #[q, v] W fun e w' => ∃ r, e = .returned r ∧ Nz 2003 (Q + 1) r w' ∧ Below W.heap.size W w')
  (hodd : ∀ k z, Words z → val z k = (Q : Int) → 0 < k → (bits BinOp.and IntKind.u64 (z 0) 1 == 1) = odd)
  (hodd0 : Q = 0 → odd = false)
include hvb c59 c60 c26 c61 hodd hodd0
set_option maxHeartbeats 2000000 in
theorem whole_cw : Calls Tryz.prog 60 #[.int .i64 d, .bool s, vn, vd] w fun e w' => ∃ v, e = .returned (.tuple #[v, .bool (((bl R : Nat) : Int) == 0)]) ∧ Nz 2003 (if far then Q + 1 else Q) v w' ∧ Below w.heap.size w w' := by
  go_enter Tryz.func60, Tryz.ntmps60
  go_upto_region 2 with (go_at_call 102; refine c59.mono ?_; rintro e w2 ⟨q, r, rfl, hq, hr, hb2⟩)
  replace hvb := hvb.next hb2
  have hq' := hq
  obtain ⟨aq, kq, cq, zq, rfl, hkq, hNq, hvq, hsq⟩ := hq
  go_cut [12] from 13 (fun o wc => o = .bool odd ∧ wc = w2)
  case first =>
    rcases Nat.eq_zero_or_pos kq with hk0 | hk0
    · have h0 : Q = 0 := by
        subst hk0
        have : val zq 0 = 0 := rfl
        omega
      have ho := hodd0 h0
      subst ho hk0
      clear hodd hodd0 c59 c60 c61 c26
      go_wp2
      go_meet
      exact ⟨rfl, rfl⟩
    · have ho := hodd kq zq hNq.2.2.1 hvq hk0
      have hki : (0 : Int) < kq := by omega
      have hz0 := hNq.2.2.1 0
      obtain ⟨n1, n2, n3, n4, n5⟩ := hNq
      rcases n5 with ⟨_, n6⟩ | ⟨b, off, rfl, n7, n8⟩
      · omega
      · have hc0 := n8 0 hk0
        rw [Nat.add_zero] at hc0
        subst ho
        clear hodd hodd0 c59 c60 c61 c26
        go_wp2
        go_meet
        exact ⟨rfl, rfl⟩
  case rest =>
    obtain ⟨rfl, rfl⟩ := hcut
    clear hNq hvq hsq hodd hodd0 c59
    cases far with
    | false =>
      go_wp2_with (first
        | (go_at_call 103; refine (c60 _ _ _ hr.nt hvb).mono ?_; rintro e w3 ⟨rfl, hb3⟩)
        | (go_at_call 55; refine (c26 _ _ (hr.nt.next hb3)).mono ?_; rintro e w4 ⟨rfl, rfl⟩))
      exact bodyPost_ret (v := .tuple #[_, _]) (by simp only [results, Tryz.results60]; go_simp) rfl ⟨_, rfl, nz_more2 hq' hb3, bnx hb2 hb3⟩
    | true =>
      go_wp2_with (first
        | (go_at_call 103; refine (c60 _ _ _ hr.nt hvb).mono ?_; rintro e w3 ⟨rfl, hb3⟩)
        | (go_at_call 104; refine (c61 _ _ _ (hq'.nt.next (bnx hb3 bgo)) (nt_w1 (by simp) rfl (by decide))).mono ?_; rintro e w4 ⟨v4, rfl, h4, hb4⟩; have hA4 : Below wc.heap.size wc w4 := bnx (bnx hb3 bgo) hb4)
        | (go_at_call 55; refine (c26 _ _ (hr.nt.next hA4)).mono ?_; rintro e w5 ⟨rfl, rfl⟩))
      exact bodyPost_ret (v := .tuple #[v4, _]) (by simp only [results, Tryz.results60]; go_simp) rfl ⟨_, rfl, h4, bnx hb2 hA4⟩
end
theorem odd_low {k Q : Nat} {z : Nat → Int} (hz : Words z) (hv : val z k = (Q : Int)) (hk : 0 < k) : (bits BinOp.and IntKind.u64 (z 0) 1 == 1) = decide (Q % 2 = 1) := by
  have hb := hz 0
  rw [show (1 : Int) = 2 ^ 1 - 1 by decide, and_mask hb (by decide)]
  obtain ⟨k', rfl⟩ : ∃ k', k = 1 + k' := ⟨k - 1, by omega⟩
  have hs := val_split z 1 k'
  rw [hv] at hs
  have h10 : val z 1 = z 0 := by show val z 0 + z 0 * 18446744073709551616 ^ 0 = z 0; simp [val]
  rw [h10, Int.pow_one] at hs
  rcases Nat.mod_two_eq_zero_or_one Q with e | e
  · rw [decide_eq_false (by omega)]
    rw [beq_eq_false_iff_ne]; omega
  · rw [decide_eq_true e]
    rw [beq_iff_eq]; omega
theorem bl_nought (R : Nat) : (((bl R : Nat) : Int) == 0) = decide (R = 0) := by
  by_cases hz : R = 0
  · rw [hz]; rfl
  · rw [decide_eq_false hz, beq_eq_false_iff_ne]
    have := mt bl_zero.1 hz
    omega
/-- a fraction rounded to a whole number, and whether it is one -/
theorem whole_cv (d : Int) (s : Bool) {N D : Nat} {vn vd : Value} {w : World} (h : Nt 2001 N vn w) (h' : Nt 2001 D vd w) (hD : D ≠ 0) (h1 : bl N ≤ 128000) (h2 : bl D ≤ 128000) :
    Calls Tryz.prog 60 #[.int .i64 d, .bool s, vn, vd] w fun e w' => ∃ v, e = .returned (.tuple #[v, .bool (decide (N % D = 0))]) ∧ Nz 2003 (if faB d s (decide (N / D % 2 = 1)) (N % D) D then N / D + 1 else N / D) v w' ∧ Below w.heap.size w w' := by
  refine (whole_cw d s (decide (N / D % 2 = 1)) (faB d s (decide (N / D % 2 = 1)) (N % D) D) vn vd (N / D) (N % D) D w h' (ndiv_v (by decide) (by decide) h h' h1 h2 hD) (fun W vr vb a b => farther_v d s _ (by decide) (by decide) a b) (fun W vr a => nlen_v (by decide) a) (fun W q v a b => nadd_v (by decide) (by decide) a b) (fun k z hz hv hk => odd_low hz hv hk) ?_).mono ?_
  · intro h0
    rw [h0]; rfl
  · rintro e w' ⟨v, e1, e2, e3⟩
    rw [bl_nought] at e1
    exact ⟨v, e1, e2, e3⟩
end
section
theorem nt_one {W : World} {g V : Nat} {vi : Int} (hg : g = W.heap.size) (hv : vi = (V : Int)) (hb : V < 18446744073709551616) : Nt 1 V (.slice (some ⟨g, 0, none⟩) 1 1) (W.alloc (.cells #[.int .u64 vi] 23)) := by
  subst hg hv
  exact ⟨_, 1, 1, oneW V, rfl, Nat.le_refl _, num_one W V (by omega), val_one1 V⟩
set_option maxHeartbeats 400000 in
theorem shifted_neg (n : Int) (m : Nat) (vn vd : Value) (B : Nat) (w : World) (hn : n < 0) (hm : -n = (m : Int)) (hm2 : m < 1000000)
    (c88 : Calls Tryz.prog 101 #[vd, .int .i64 (m : Int)] w fun e w' => ∃ r, e = .returned (.tuple #[r, .int .i64 0]) ∧ Nz 2001 B r w' ∧ Below w.heap.size w w') :
    Calls Tryz.prog 59 #[vn, vd, .int .i64 n] w fun e w' => ∃ r, e = .returned (.tuple #[vn, r]) ∧ Nz 2001 B r w' ∧ Below w.heap.size w w' := by
  obtain rfl : n = -(m : Int) := by omega
  clear hm
  have hm1 : 0 < m := by omega
  go_enter Tryz.func59, Tryz.ntmps59
  go_wp2_with (go_at_call 101; refine c88.mono ?_; rintro e w1 ⟨r, rfl, hr, hb1⟩)
  exact bodyPost_ret (v := .tuple #[vn, r]) (by simp only [results, Tryz.results59]; go_simp) rfl ⟨_, rfl, hr, hb1⟩
set_option maxHeartbeats 400000 in
theorem shifted_pos (n : Int) (vn vd : Value) (A : Nat) (w : World) (hn : 0 ≤ n)
    (c88 : Calls Tryz.prog 101 #[vn, .int .i64 n] w fun e w' => ∃ r, e = .returned (.tuple #[r, .int .i64 0]) ∧ Nz 2001 A r w' ∧ Below w.heap.size w w') :
    Calls Tryz.prog 59 #[vn, vd, .int .i64 n] w fun e w' => ∃ r, e = .returned (.tuple #[r, vd]) ∧ Nz 2001 A r w' ∧ Below w.heap.size w w' := by
  have hn' : ¬ n < 0 := by omega
  go_enter Tryz.func59, Tryz.ntmps59
  go_wp2_with (go_at_call 101; refine c88.mono ?_; rintro e w1 ⟨r, rfl, hr, hb1⟩)
  exact bodyPost_ret (v := .tuple #[r, vd]) (by simp only [results, Tryz.results59]; go_simp) rfl ⟨_, rfl, hr, hb1⟩
/-- two naturals whose fraction is N / D times 2^n -/
theorem shifted_v (n : Int) {N D : Nat} {vn vd : Value} {w : World} (h : Nt 2001 N vn w) (h' : Nt 2001 D vd w) (h1 : (bl N : Int) + n ≤ 127000) (h2 : (bl D : Int) - n ≤ 127000) :
    Calls Tryz.prog 59 #[vn, vd, .int .i64 n] w fun e w' => ∃ a b, e = .returned (.tuple #[a, b]) ∧ Nt 2001 (N * 2 ^ n.toNat) a w' ∧ Nt 2001 (D * 2 ^ (-n).toNat) b w' ∧ Below w.heap.size w w' := by
  by_cases hn : n < 0
  · have hm : -n = (((-n).toNat : Nat) : Int) := by omega
    refine (shifted_neg n (-n).toNat vn vd (D * 2 ^ (-n).toNat) w hn hm (by omega) (nshl_v (-n).toNat (by decide) h' (by omega))).mono fun e w' ⟨r, e1, e2, e3⟩ => ⟨_, _, e1, ?_, e2.nt, e3⟩
    rw [show n.toNat = 0 by omega, Nat.pow_zero, Nat.mul_one]
    exact h.next e3
  · have c := nshl_v (w := w) n.toNat (by decide) h (by omega)
    rw [show ((n.toNat : Nat) : Int) = n by omega] at c
    refine (shifted_pos n vn vd (N * 2 ^ n.toNat) w (by omega) c).mono fun e w' ⟨r, e1, e2, e3⟩ => ⟨_, _, e1, e2.nt, ?_, e3⟩
    rw [show (-n).toNat = 0 by omega, Nat.pow_zero, Nat.mul_one]
    exact h'.next e3
/-- the place of the highest bit of a fraction -/
def ld (N D : Nat) : Int := let p := (bl N : Int) - bl D; if N * 2 ^ (-p).toNat < D * 2 ^ p.toNat then p - 1 else p
section
variable (vn vd : Value) (LN LD s : Int) (w : World) (hLN : 0 ≤ LN ∧ LN ≤ 60000) (hLD : 0 ≤ LD ∧ LD ≤ 60000)
  (c26 : ∀ W, Below w.heap.size w W → Calls Tryz.prog 55 #[vn] W fun e w' => e = .returned (.int .i64 LN) ∧ W = w')
  (c26d : ∀ W, Below w.heap.size w W → Calls Tryz.prog 55 #[vd] W fun e w' => e = .returned (.int .i64 LD) ∧ W = w')
  (c57 : ∀ n : Int, n = -(LN - LD) → Calls Tryz.prog 59 #[vn, vd, .int .i64 n] w fun e w' => ∃ va vb, e = .returned (.tuple #[va, vb]) ∧ (∀ W, Below w'.heap.size w' W → Calls Tryz.prog 99 #[va, vb] W fun e w'' => e = .returned (.int .i64 s) ∧ Below W.heap.size W w'') ∧ Below w.heap.size w w')
include hLN hLD c26 c26d c57
set_option maxHeartbeats 400000 in
theorem lead_l (h : s < 0) : Calls Tryz.prog 57 #[vn, vd] w fun e w' => e = .returned (.int .i64 (LN - LD - 1)) ∧ Below w.heap.size w w' := by
  go_enter Tryz.func57, Tryz.ntmps57
  go_wp2_with (first
    | (go_at_call_of 55 vn; refine (c26 _ bgo).mono ?_; rintro e w1 ⟨rfl, rfl⟩)
    | (go_at_call_of 55 vd; refine (c26d _ bgo).mono ?_; rintro e w1 ⟨rfl, rfl⟩)
    | (go_at_call 59; refine (c57 _ (by omega)).mono ?_; rintro e w2 ⟨va, vb, rfl, c58, hb2⟩)
    | (go_at_call 99; refine (c58 _ (Below.refl _ _)).mono ?_; rintro e w3 ⟨rfl, hb3⟩; have hA3 := bnx (w0 := w) hb2 hb3))
  go_ret
  exact ⟨rfl, bgo⟩
set_option maxHeartbeats 400000 in
theorem lead_g (h : ¬ s < 0) : Calls Tryz.prog 57 #[vn, vd] w fun e w' => e = .returned (.int .i64 (LN - LD)) ∧ Below w.heap.size w w' := by
  go_enter Tryz.func57, Tryz.ntmps57
  go_wp2_with (first
    | (go_at_call_of 55 vn; refine (c26 _ bgo).mono ?_; rintro e w1 ⟨rfl, rfl⟩)
    | (go_at_call_of 55 vd; refine (c26d _ bgo).mono ?_; rintro e w1 ⟨rfl, rfl⟩)
    | (go_at_call 59; refine (c57 _ (by omega)).mono ?_; rintro e w2 ⟨va, vb, rfl, c58, hb2⟩)
    | (go_at_call 99; refine (c58 _ (Below.refl _ _)).mono ?_; rintro e w3 ⟨rfl, hb3⟩; have hA3 := bnx (w0 := w) hb2 hb3))
  go_ret
  exact ⟨rfl, bgo⟩
end
theorem leading_v {N D : Nat} {vn vd : Value} {w : World} (h : Nt 2001 N vn w) (h' : Nt 2001 D vd w) (h1 : bl N ≤ 51200) (h2 : bl D ≤ 51200) :
    Calls Tryz.prog 57 #[vn, vd] w fun e w' => e = .returned (.int .i64 (ld N D)) ∧ Below w.heap.size w w' := by
  have c26 := fun W (hb : Below w.heap.size w W) => nlen_v (by decide) (h.next hb)
  have c26d := fun W (hb : Below w.heap.size w W) => nlen_v (by decide) (h'.next hb)
  have c57 := shifted_v (w := w) ((bl D : Int) - bl N) h h' (by omega) (by omega)
  have c57' : Calls Tryz.prog 59 #[vn, vd, .int .i64 ((bl D : Int) - bl N)] w fun e w' => ∃ va vb, e = .returned (.tuple #[va, vb]) ∧ (∀ W, Below w'.heap.size w' W → Calls Tryz.prog 99 #[va, vb] W fun e w'' => e = .returned (.int .i64 (sgn ((N * 2 ^ (-((bl N : Int) - bl D)).toNat : Nat) : Int) ((D * 2 ^ ((bl N : Int) - bl D).toNat : Nat) : Int))) ∧ Below W.heap.size W w'') ∧ Below w.heap.size w w' := by
    refine c57.mono fun e w' ⟨a, b, e1, e2, e3, e4⟩ => ⟨a, b, e1, fun W hb => ?_, e4⟩
    rw [show (bl D : Int) - bl N = -((bl N : Int) - bl D) by omega] at e2 e3
    rw [Int.neg_neg] at e3
    exact ncmp_v (by decide) (by decide) (e2.next hb) (e3.next hb)
  have c57n := fun (n : Int) (hn : n = -((bl N : Int) - bl D)) => (show n = (bl D : Int) - bl N by omega) ▸ c57'
  unfold ld
  dsimp only
  rcases sgn_ways ((N * 2 ^ (-((bl N : Int) - bl D)).toNat : Nat) : Int) ((D * 2 ^ ((bl N : Int) - bl D).toNat : Nat) : Int) with ⟨a, e⟩ | ⟨a, e⟩ | ⟨a, e⟩
  · rw [if_pos (by exact Int.ofNat_lt.1 a)]
    exact lead_l vn vd _ _ _ w (by omega) (by omega) c26 c26d c57n (by omega)
  · rw [if_neg (fun hh => by have := Int.ofNat_lt.2 hh; omega)]
    exact lead_g vn vd _ _ _ w (by omega) (by omega) c26 c26d c57n (by omega)
  · rw [if_neg (fun hh => by have := Int.ofNat_lt.2 hh; omega)]
    exact lead_g vn vd _ _ _ w (by omega) (by omega) c26 c26d c57n (by omega)
/-- N / D times 2^n, rounded to a whole number -/
def nrQ (N D : Nat) (n : Int) : Nat := N * 2 ^ n.toNat / (D * 2 ^ (-n).toNat)
def nrR (N D : Nat) (n : Int) : Nat := N * 2 ^ n.toNat % (D * 2 ^ (-n).toNat)
def nrF (d : Int) (s : Bool) (N D : Nat) (n : Int) : Bool := faB d s (decide (nrQ N D n % 2 = 1)) (nrR N D n) (D * 2 ^ (-n).toNat)
def nrC (d : Int) (s : Bool) (N D : Nat) (n : Int) : Nat := if nrF d s N D n then nrQ N D n + 1 else nrQ N D n
/-- N / D times 2^n, rounded: shifted, then choice's Whole -/
theorem near_sv (d n : Int) (s : Bool) {N D : Nat} {vn vd : Value} {w : World} (h : Nt 2001 N vn w) (h' : Nt 2001 D vd w) (hD : D ≠ 0) (h1 : (bl N : Int) + n ≤ 127000) (h2 : (bl D : Int) - n ≤ 127000) (h3 : bl N ≤ 127000) (h4 : bl D ≤ 127000) :
    Calls Tryz.prog 59 #[vn, vd, .int .i64 n] w fun e w' => ∃ va vb, e = .returned (.tuple #[va, vb]) ∧ Below w.heap.size w w' ∧ (Calls Tryz.prog 60 #[.int .i64 d, .bool s, va, vb] w' fun e w'' => ∃ v, e = .returned (.tuple #[v, .bool (decide (nrR N D n = 0))]) ∧ Nz 2003 (nrC d s N D n) v w'' ∧ Below w'.heap.size w' w'') := by
  have hpos : D * 2 ^ (-n).toNat ≠ 0 := Nat.ne_of_gt (Nat.mul_pos (by omega) (Nat.two_pow_pos _))
  have hbA : bl (N * 2 ^ n.toNat) ≤ 128000 := by
    rw [bl_le]
    have := bl_le.1 (Nat.le_refl (bl N))
    calc N * 2 ^ n.toNat < 2 ^ bl N * 2 ^ n.toNat := Nat.mul_lt_mul_of_pos_right this (Nat.two_pow_pos _)
      _ = 2 ^ (bl N + n.toNat) := by rw [Nat.pow_add]
      _ ≤ 2 ^ 128000 := Nat.pow_le_pow_right (by decide) (by omega)
  have hbB : bl (D * 2 ^ (-n).toNat) ≤ 128000 := by
    rw [bl_le]
    have := bl_le.1 (Nat.le_refl (bl D))
    calc D * 2 ^ (-n).toNat < 2 ^ bl D * 2 ^ (-n).toNat := Nat.mul_lt_mul_of_pos_right this (Nat.two_pow_pos _)
      _ = 2 ^ (bl D + (-n).toNat) := by rw [Nat.pow_add]
      _ ≤ 2 ^ 128000 := Nat.pow_le_pow_right (by decide) (by omega)
  exact (shifted_v n h h' h1 h2).mono fun e w' ⟨a, b, e1, e2, e3, e4⟩ => ⟨a, b, e1, e4, whole_cv d s e2 e3 hpos hbA hbB⟩
end
section
/-- the words of a number -/
def W4 (A : Nat) (i : Nat) : Int := ((A / 2 ^ (64 * i) % 18446744073709551616 : Nat) : Int)
/-- a number of four words -/
abbrev A4 (A : Nat) : Value := .agg #[.int .u64 (W4 A 0), .int .u64 (W4 A 1), .int .u64 (W4 A 2), .int .u64 (W4 A 3)]
theorem W4_words (A : Nat) : Words (W4 A) := fun i => by
  unfold W4
  have := Nat.mod_lt (A / 2 ^ (64 * i)) (show 0 < 18446744073709551616 by decide)
  omega
theorem p64n (n : Nat) : (18446744073709551616 : Int) ^ n = ((2 ^ (64 * n) : Nat) : Int) := by
  rw [Nat.pow_mul]
  simp
theorem W4_val (A : Nat) : ∀ n, val (W4 A) n = ((A % 2 ^ (64 * n) : Nat) : Int)
  | 0 => by simp [val, Nat.mod_one]
  | n + 1 => by
    show val (W4 A) n + W4 A n * 18446744073709551616 ^ n = _
    have e : A % 2 ^ (64 * (n + 1)) = A % 2 ^ (64 * n) + 2 ^ (64 * n) * (A / 2 ^ (64 * n) % 18446744073709551616) := by
      rw [show 64 * (n + 1) = 64 * n + 64 by omega, Nat.pow_add]
      exact Nat.mod_mul
    rw [W4_val A n, p64n, e]
    unfold W4
    rw [Int.natCast_add, Int.natCast_mul, Int.mul_comm]
theorem W4_val4 {A : Nat} (h : A < 2 ^ 256) : val (W4 A) 4 = A := by
  rw [W4_val, Nat.mod_eq_of_lt h]
theorem arr_eq {x y : Nat → Int} (hx : Words x) (hy : Words y) (h : val x 4 = val y 4) : arrOf x 4 = arrOf y 4 :=
  arrOf_congr (val_inj hx hy 4 h)
theorem arr_A4 {x : Nat → Int} (hx : Words x) {A : Nat} (h : val x 4 = ((A % 2 ^ 256 : Nat) : Int)) : Value.agg (arrOf x 4) = A4 A := by
  have e : arrOf x 4 = arrOf (W4 A) 4 := arr_eq hx (W4_words A) (by rw [h, W4_val])
  rw [e]; rfl
theorem A4_mod (A : Nat) : A4 (A % 2 ^ 256) = A4 A := by
  have := arr_A4 (W4_words (A % 2 ^ 256)) (A := A) (by rw [W4_val, Nat.mod_mod])
  exact this
theorem A4_inj {A B : Nat} (hA : A < 2 ^ 256) (hB : B < 2 ^ 256) (h : ∀ i, i < 4 → W4 A i = W4 B i) : A = B := by
  have := val_congr (x := W4 A) (y := W4 B) 4 h
  rw [W4_val4 hA, W4_val4 hB] at this
  omega
theorem add4 (A B : Nat) (w : World) (hA : A < 2 ^ 256) (hB : B < 2 ^ 256) :
    Calls Tryz.prog 97 #[A4 A, A4 B] w fun e w' => e = .returned (.tuple #[A4 (A + B), .int .u64 (((A + B) / 2 ^ 256 : Nat) : Int)]) ∧ Below w.heap.size w w' := by
  refine (limAdd4 (W4 A) (W4 B) w (W4_words A) (W4_words B)).mono ?_
  rintro e w' ⟨rfl, hb⟩
  refine ⟨?_, hb⟩
  have hs := sum_val (x := W4 A) (y := W4 B) 4
  have hc := carryW_01 (W4_words A) (W4_words B) 4
  have hv := val_bd (sumW_words (W4 A) (W4 B)) 4
  rw [W4_val4 hA, W4_val4 hB] at hs
  have e4 : (18446744073709551616 : Int) ^ 4 = 115792089237316195423570985008687907853269984665640564039457584007913129639936 := by decide
  have e4n : (2 : Nat) ^ 256 = 115792089237316195423570985008687907853269984665640564039457584007913129639936 := by decide
  rw [e4] at hs hv
  rw [e4n] at hA hB ⊢
  rw [arr_A4 (sumW_words _ _) (A := A + B) (by rw [e4n]; omega)]
  have : carryW (W4 A) (W4 B) 4 = (((A + B) / 115792089237316195423570985008687907853269984665640564039457584007913129639936 : Nat) : Int) := by omega
  rw [this]
theorem sub4 (A B : Nat) (w : World) (hA : A < 2 ^ 256) (hB : B < 2 ^ 256) :
    Calls Tryz.prog 126 #[A4 A, A4 B] w fun e w' => e = .returned (.tuple #[A4 (A + 2 ^ 256 - B), .int .u64 (if A < B then 1 else 0)]) ∧ Below w.heap.size w w' := by
  refine (limSub4 (W4 A) (W4 B) w (W4_words A) (W4_words B)).mono ?_
  rintro e w' ⟨rfl, hb⟩
  refine ⟨?_, hb⟩
  have hs := dif_val (x := W4 A) (y := W4 B) (W4_words A) (W4_words B) 4
  have hc := borW_01 (W4 A) (W4 B) 4
  have hv := val_bd (difW_words (W4 A) (W4 B)) 4
  rw [W4_val4 hA, W4_val4 hB] at hs
  have e4 : (18446744073709551616 : Int) ^ 4 = 115792089237316195423570985008687907853269984665640564039457584007913129639936 := by decide
  have e4n : (2 : Nat) ^ 256 = 115792089237316195423570985008687907853269984665640564039457584007913129639936 := by decide
  rw [e4] at hs hv
  rw [e4n] at hA hB ⊢
  rw [arr_A4 (difW_words _ _) (A := A + 115792089237316195423570985008687907853269984665640564039457584007913129639936 - B) (by rw [e4n]; omega)]
  have : borW (W4 A) (W4 B) 4 = if A < B then 1 else 0 := by split <;> omega
  rw [this]
theorem A4_sub {A B : Nat} (h : B ≤ A) : A4 (A + 2 ^ 256 - B) = A4 (A - B) := by
  rw [← A4_mod (A - B), ← A4_mod (A + 2 ^ 256 - B), show A + 2 ^ 256 - B = A - B + 2 ^ 256 by omega, Nat.add_mod_right]

theorem shl4 (A n : Nat) (w : World) (hA : A < 2 ^ 256) (hn : n ≤ 100000) :
    Calls Tryz.prog 127 #[A4 A, .int .i64 n] w fun e w' => e = .returned (A4 (A * 2 ^ n)) ∧ Below w.heap.size w w' := by
  refine (shlA4 (W4 A) n w (W4_words A) (by omega)).mono ?_
  rintro e w' ⟨rfl, hb⟩
  refine ⟨?_, hb⟩
  congr 1
  by_cases h1 : n = 0
  · subst h1
    have e : shlA (W4 A) ((0 : Nat) : Int) = W4 A := by funext j; unfold shlA; rw [if_pos (by omega)]
    rw [e, Nat.pow_zero, Nat.mul_one]; rfl
  refine arr_A4 (shlA_words (W4_words A) _) ?_
  have hlow := shlL_fin (W4_words A) (N := 4) (((n : Int) / 64).toNat) (((n : Int) % 64).toNat)
  have es : shlA (W4 A) (n : Int) = shlL (W4 A) ((n : Int) / 64).toNat ((n : Int) % 64).toNat := by funext j; unfold shlA; rw [if_neg (by omega)]
  rw [es]
  obtain ⟨q, hq⟩ : ∃ q : Nat, ((n : Int) / 64).toNat = q := ⟨_, rfl⟩
  obtain ⟨r, hr⟩ : ∃ r : Nat, ((n : Int) % 64).toNat = r := ⟨_, rfl⟩
  rw [hq, hr] at hlow ⊢
  have hn : n = 64 * q + r := by omega
  have hr6 : r < 64 := by omega
  have h4 : val (shlL (W4 A) q r) 4 = val (finL (lowW (W4 A) 4) q r) 4 := by
    refine val_congr 4 fun i hi => ?_
    have := congrFun hlow i
    rw [lowW_lt hi, lowW_lt hi] at this
    exact this
  have hlw : Words (lowW (W4 A) 4) := lowW_words (W4_words A) 4
  have hz : ∀ i, 4 ≤ i → lowW (W4 A) 4 i = 0 := fun i hi => lowW_ge hi
  have hF := finL_val hlw hz q hr6
  have hvl : val (lowW (W4 A) 4) 4 = A := by
    rw [val_congr (x := lowW (W4 A) 4) (y := W4 A) 4 (fun i hi => lowW_lt hi), W4_val4 hA]
  rw [hvl, ← hn] at hF
  have hsp := val_split (finL (lowW (W4 A) 4) q r) 4 (q + 1)
  rw [show 4 + (q + 1) = 4 + q + 1 by omega, hF] at hsp
  have hbd := val_bd (finL_words hlw (q := q) (r := r)) 4
  have e4 : (18446744073709551616 : Int) ^ 4 = ((2 ^ 256 : Nat) : Int) := by decide
  rw [e4] at hbd hsp
  rw [h4]
  have : (A : Int) * 2 ^ n = ((A * 2 ^ n : Nat) : Int) := by simp
  rw [this] at hsp
  have h5 := congrArg (· % ((2 ^ 256 : Nat) : Int)) hsp
  simp only [Int.add_mul_emod_self_right, Int.emod_eq_of_lt hbd.1 hbd.2] at h5
  rw [← h5]
  rfl
theorem shr4 (A n : Nat) (w : World) (hA : A < 2 ^ 256) (hn : n ≤ 100000) :
    Calls Tryz.prog 125 #[A4 A, .int .i64 n] w fun e w' => e = .returned (A4 (A / 2 ^ n)) ∧ Below w.heap.size w w' := by
  refine (shrA4 (W4 A) n w (W4_words A) (by omega)).mono ?_
  rintro e w' ⟨rfl, hb⟩
  refine ⟨?_, hb⟩
  congr 1
  by_cases h1 : n = 0
  · subst h1
    have e : shrA (W4 A) ((0 : Nat) : Int) 4 = W4 A := by funext j; unfold shrA; rw [if_pos (by omega)]
    rw [e, Nat.pow_zero, Nat.div_one]; rfl
  refine arr_A4 (shrA_words (W4_words A) _ _) ?_
  have hlow := shrL_fin (W4_words A) (N := 4) (((n : Int) / 64).toNat) (((n : Int) % 64).toNat)
  have es : shrA (W4 A) (n : Int) 4 = shrL (W4 A) ((n : Int) / 64).toNat ((n : Int) % 64).toNat 4 := by funext j; unfold shrA; rw [if_neg (by omega)]
  rw [es]
  obtain ⟨q, hq⟩ : ∃ q : Nat, ((n : Int) / 64).toNat = q := ⟨_, rfl⟩
  obtain ⟨r, hr⟩ : ∃ r : Nat, ((n : Int) % 64).toNat = r := ⟨_, rfl⟩
  rw [hq, hr] at hlow ⊢
  have hn : n = 64 * q + r := by omega
  have hr6 : r < 64 := by omega
  have h4 : val (shrL (W4 A) q r 4) 4 = val (shrW (lowW (W4 A) 4) q r) 4 := by
    refine val_congr 4 fun i hi => ?_
    have := congrFun hlow i
    rw [lowW_lt hi] at this
    exact this
  rw [h4]
  exact (shrW_val (lowW_words (W4_words A) 4) (fun i hi => lowW_ge hi) hr6 4 (Nat.le_refl _) (by
    rw [val_congr (x := lowW (W4 A) 4) (y := W4 A) 4 (fun i hi => lowW_lt hi), W4_val4 hA])).trans (by rw [← hn, Nat.mod_eq_of_lt (Nat.lt_of_le_of_lt (Nat.div_le_self _ _) hA)])
theorem len4_le {A k : Nat} (hA : A < 2 ^ 256) : lenL (W4 A) 4 ≤ (k : Int) ↔ A < 2 ^ k := by
  have hv := W4_val4 hA
  by_cases h0 : 0 < sizeL (W4 A) 4
  · obtain ⟨L, h1, h2, h3⟩ := len_bd (W4_words A) h0
    rw [hv] at h2 h3
    rw [h1]
    have h2' : 2 ^ L ≤ A := by have : ((2 ^ L : Nat) : Int) ≤ A := by simpa using h2
                               omega
    have h3' : A < 2 ^ (L + 1) := by have : (A : Int) < ((2 ^ (L + 1) : Nat) : Int) := by simpa using h3
                                     omega
    constructor
    · intro h
      exact Nat.lt_of_lt_of_le h3' (Nat.pow_le_pow_right (by decide) (by omega))
    · intro h
      have : 2 ^ L < 2 ^ k := Nat.lt_of_le_of_lt h2' h
      have := (Nat.pow_lt_pow_iff_right (a := 2) (by decide)).1 this
      omega
  · have hz : sizeL (W4 A) 4 = 0 := by omega
    have hl : lenL (W4 A) 4 = 0 := by unfold lenL; rw [if_pos hz]
    have hA0 : (A : Int) = 0 := by
      rw [← hv, ← val_bare 4, hz]; rfl
    rw [hl]
    have : A = 0 := by omega
    subst this
    exact ⟨fun _ => Nat.two_pow_pos k, fun _ => by omega⟩
theorem len4_zero {A : Nat} (hA : A < 2 ^ 256) : lenL (W4 A) 4 = 0 ↔ A = 0 := by
  have h := len4_le (k := 0) hA
  have h2 : 0 ≤ lenL (W4 A) 4 := by
    by_cases h0 : 0 < sizeL (W4 A) 4
    · obtain ⟨L, h1, _⟩ := len_bd (W4_words A) h0
      omega
    · unfold lenL; rw [if_pos (by omega)]; exact Int.le_refl _
  constructor
  · intro h3; have := h.1 (by omega); omega
  · intro h3; have := h.2 (by omega); omega
theorem lenL_low (A : Nat) : lenL (lowW (W4 A) 4) 4 = lenL (W4 A) 4 := by
  unfold lenL
  rw [sizeL_congr (x := lowW (W4 A) 4) (y := W4 A) 4 (fun i hi => lowW_lt hi)]
  by_cases h : sizeL (W4 A) 4 = 0
  · rw [if_pos h, if_pos h]
  · have := sizeL_le (W4 A) 4
    rw [if_neg h, if_neg h, lowW_lt (by omega)]
theorem len4' (A : Nat) (w : World) : Calls Tryz.prog 121 #[A4 A] w fun e w' => e = .returned (.int .i64 (lenL (W4 A) 4)) ∧ Below w.heap.size w w' := len4 (W4 A) w (W4_words A)
theorem bit4 (A n : Nat) (w : World) (hA : A < 2 ^ 256) (hn : n < 256) :
    Calls Tryz.prog 124 #[A4 A, .int .i64 n] w fun e w' => e = .returned (.int .u64 ((A / 2 ^ n % 2 : Nat) : Int)) ∧ Below w.heap.size w w' := by
  refine (limBit4 (W4 A) n w (W4_words A) (by omega) (by omega)).mono ?_
  rintro e w' ⟨rfl, hb⟩
  refine ⟨?_, hb⟩
  have hb := W4_words A ((n : Int) / 64).toNat
  have h1 : bitV (W4 A ((n : Int) / 64).toNat) n = ((A / 2 ^ n % 2 : Nat) : Int) := by
    unfold bitV
    have h2 := and_mask (y := W4 A ((n : Int) / 64).toNat / 2 ^ ((n : Int) % 64).toNat) (r := 1) (div_word _ _ hb) (by decide)
    rw [show (1 : Int) = 2 ^ 1 - 1 by decide, h2]
    unfold W4
    obtain ⟨q, hq⟩ : ∃ q : Nat, ((n : Int) / 64).toNat = q := ⟨_, rfl⟩
    obtain ⟨r, hr⟩ : ∃ r : Nat, ((n : Int) % 64).toNat = r := ⟨_, rfl⟩
    rw [hq, hr]
    have hn : n = 64 * q + r := by omega
    have hr6 : r < 64 := by omega
    have e1 : ((2 : Int) ^ r) = ((2 ^ r : Nat) : Int) := by simp
    rw [e1, ← Int.natCast_ediv]
    have e2 : A / 2 ^ n = A / 2 ^ (64 * q) / 2 ^ r := by rw [hn, Nat.pow_add, Nat.div_div_eq_div_mul]
    rw [e2]
    generalize A / 2 ^ (64 * q) = B
    have e3 : B % 18446744073709551616 / 2 ^ r % 2 = B / 2 ^ r % 2 := by
      rw [show (18446744073709551616 : Nat) = 2 ^ r * (2 * 2 ^ (63 - r)) by rw [← Nat.pow_succ', ← Nat.pow_add, show r + (63 - r + 1) = 64 by omega]]
      rw [Nat.mod_mul_right_div_self, Nat.mod_mul_right_mod]
    have e4 : ((2 : Int) ^ 1) = ((2 : Nat) : Int) := by decide
    rw [e4, ← Int.natCast_emod, e3]
  rw [h1]
set_option maxHeartbeats 400000 in
theorem of4 (u : Nat) (w : World) (hu : u < 18446744073709551616) :
    Calls Tryz.prog 128 #[.int .u64 u] w fun e w' => e = .returned (A4 u) ∧ Below w.heap.size w w' := by
  have e0 : W4 u 0 = u := by unfold W4; rw [Nat.mul_zero, Nat.pow_zero, Nat.div_one, Nat.mod_eq_of_lt hu]
  have e1 : ∀ i, 0 < i → W4 u i = 0 := fun i hi => by
    unfold W4
    have : u < 2 ^ (64 * i) := Nat.lt_of_lt_of_le hu (by rw [show (18446744073709551616 : Nat) = 2 ^ 64 by decide]; exact Nat.pow_le_pow_right (by decide) (by omega))
    rw [Nat.div_eq_of_lt this]; rfl
  unfold A4
  rw [e0, e1 1 (by decide), e1 2 (by decide), e1 3 (by decide)]
  go_enter Tryz.func128, Tryz.ntmps128
  go_wp2
  exact bodyPost_ret (v := .agg #[.int .u64 u, .int .u64 0, .int .u64 0, .int .u64 0]) (by simp [results, Tryz.results128, go_sem]) rfl ⟨rfl, ((Below.refl _ _).alloc (Nat.le_refl _) _).alloc (by simp) _⟩
end
section
/-- a binary format's layout: bits of the fraction, bits of the exponent, least and most -/
structure Fm (f e : Nat) (l m : Int) : Prop where
  f2 : 2 ≤ f
  f240 : f ≤ 240
  e2 : 2 ≤ e
  e15 : e ≤ 15
  fe : f + e ≤ 255
  l1 : -1000000 ≤ l
  l0 : l ≤ 0
  m : m = l + 2 ^ e - 3
abbrev LV (f e : Nat) (l m : Int) : Value := .agg #[.int .i64 f, .int .i64 e, .int .i64 l, .int .i64 m]
theorem pow_e {e : Nat} (h2 : 2 ≤ e) (h15 : e ≤ 15) : (4 : Int) ≤ 2 ^ e ∧ (2 : Int) ^ e ≤ 32768 := by
  have a : (2 : Nat) ^ 2 ≤ 2 ^ e := Nat.pow_le_pow_right (by decide) h2
  have b : (2 : Nat) ^ e ≤ 2 ^ 15 := Nat.pow_le_pow_right (by decide) h15
  have c : ((2 : Int) ^ e) = ((2 ^ e : Nat) : Int) := by simp
  rw [c]; omega
set_option maxHeartbeats 400000 in
theorem special_any (f e : Nat) (l m : Int) (w : World) (h : Fm f e l m) :
    Calls Tryz.prog 95 #[LV f e l m] w fun x w' => x = .returned (.int .u64 ((2 ^ e - 1 : Nat) : Int)) ∧ Below w.heap.size w w' := by
  have h2 := h.e2
  have h15 := h.e15
  have hp := pow_e h2 h15
  have hc : ((2 ^ e - 1 : Nat) : Int) = 2 ^ e - 1 := by
    have c : ((2 : Int) ^ e) = ((2 ^ e : Nat) : Int) := by simp
    have : 1 ≤ 2 ^ e := Nat.one_le_two_pow
    rw [c]; omega
  rw [hc]
  clear hc h
  go_enter Tryz.func95, Tryz.ntmps95
  go_wp2
  go_ret
  exact ⟨rfl, (Below.refl _ _).alloc (Nat.le_refl _) _⟩
theorem lt_below {n g : Nat} {W W' : World} (hb : Below n W W') (h : g < W.heap.size) : g < W'.heap.size := Nat.lt_of_lt_of_le h hb.size
theorem bnext {w0 W W' : World} (h : Below w0.heap.size w0 W) (hb : Below W.heap.size W W') : Below w0.heap.size w0 W' := h.trans (hb.mono h.size)
set_option maxHeartbeats 400000 in
theorem power_any (n : Nat) (w : World) (hn : n ≤ 100000) :
    Calls Tryz.prog 98 #[.int .i64 n] w fun x w' => x = .returned (A4 (2 ^ n)) ∧ Below w.heap.size w w' := by
  have c1 := fun w => of4 1 w (by decide)
  have c2 := fun w => shl4 1 n w (by decide) hn
  rw [Nat.one_mul] at c2
  go_enter Tryz.func98, Tryz.ntmps98
  go_wp2_with (first
    | (go_at_call 128; refine (c1 _).mono ?_; rintro x w1 ⟨rfl, hb1⟩; obtain ⟨hc1, hf1⟩ := bcell hb1; have hz1 := lt_alloc' hb1; have hA1 := bnext (w0 := w) bgo hb1; clear hb1)
    | (go_at_call 127; refine (c2 _).mono ?_; rintro x w2 ⟨rfl, hb2⟩; obtain ⟨hc2, hf2⟩ := bcell hb2; have hz2 := Nat.lt_of_lt_of_le hz1 hb2.size; have hA2 := bnext (w0 := w) bgo hb2; clear hb2))
  exact bodyPost_ret (v := A4 (2 ^ n)) (by simp [results, Tryz.results98, go_sem, *]) rfl ⟨rfl, bgo⟩
set_option maxHeartbeats 400000 in
theorem quiet_any (f e : Nat) (l m : Int) (w : World) (h : Fm f e l m) :
    Calls Tryz.prog 123 #[LV f e l m] w fun x w' => x = .returned (A4 (2 ^ (f - 1))) ∧ Below w.heap.size w w' := by
  have h2 := h.f2
  have h240 := h.f240
  have c1 := fun w => power_any (f - 1) w (by omega)
  rw [show ((f - 1 : Nat) : Int) = (f : Int) - 1 by omega] at c1
  clear h
  go_enter Tryz.func123, Tryz.ntmps123
  go_wp2_with (go_at_call 98; refine (c1 _).mono ?_; rintro x w1 ⟨rfl, hb1⟩; obtain ⟨hc1, hf1⟩ := bcell hb1)
  have hA1 := bnext (w0 := w) bgo hb1
  exact bodyPost_ret (v := A4 (2 ^ (f - 1))) (by simp [results, Tryz.results123, go_sem, hc1, hf1]) rfl ⟨rfl, bgo⟩
theorem mod_and {f e B : Nat} (he : e ≤ 15) : bits BinOp.and IntKind.u64 (W4 (B / 2 ^ f) 0) ((2 ^ e - 1 : Nat) : Int) = ((B / 2 ^ f % 2 ^ e : Nat) : Int) := by
  have hc : ((2 ^ e - 1 : Nat) : Int) = 2 ^ e - 1 := by
    have c : ((2 : Int) ^ e) = ((2 ^ e : Nat) : Int) := by simp
    have : 1 ≤ 2 ^ e := Nat.one_le_two_pow
    rw [c]; omega
  rw [hc, and_mask (W4_words _ 0) (by omega)]
  unfold W4
  rw [Nat.mul_zero, Nat.pow_zero, Nat.div_one]
  have e2 : ((2 : Int) ^ e) = ((2 ^ e : Nat) : Int) := by simp
  rw [e2, ← Int.natCast_emod]
  congr 1
  rw [show (18446744073709551616 : Nat) = 2 ^ e * 2 ^ (64 - e) by rw [← Nat.pow_add, show e + (64 - e) = 64 by omega]]
  exact Nat.mod_mul_right_mod _ _ _
theorem cell_set {W : World} {p : Addr} {u : Value} (h : W.cell? p = some u) (v : Value) : (W.setCell p v).cell? p = some v := by simp [go_sem, h]
theorem cell_set_ne {W : World} {g i j : Nat} (hij : i ≠ j) (v : Value) : (W.setCell ⟨g, i, none⟩ v).cell? ⟨g, j, none⟩ = W.cell? ⟨g, j, none⟩ := by simp [go_sem, hij]
theorem put4 {W : World} {g : Nat} {u0 u1 u2 u3 : Value} (h0 : W.cell? ⟨g, 0, none⟩ = some u0) (h1 : W.cell? ⟨g, 1, none⟩ = some u1) (h2 : W.cell? ⟨g, 2, none⟩ = some u2) (h3 : W.cell? ⟨g, 3, none⟩ = some u3) (v0 v1 v2 v3 : Value) :
    (W.setCell ⟨g, 0, none⟩ v0).cell? ⟨g, 0, none⟩ = some v0 ∧ ((W.setCell ⟨g, 0, none⟩ v0).setCell ⟨g, 1, none⟩ v1).cell? ⟨g, 1, none⟩ = some v1 ∧ (((W.setCell ⟨g, 0, none⟩ v0).setCell ⟨g, 1, none⟩ v1).setCell ⟨g, 2, none⟩ v2).cell? ⟨g, 2, none⟩ = some v2 ∧ ((((W.setCell ⟨g, 0, none⟩ v0).setCell ⟨g, 1, none⟩ v1).setCell ⟨g, 2, none⟩ v2).setCell ⟨g, 3, none⟩ v3).cell? ⟨g, 3, none⟩ = some v3 :=
  ⟨cell_set h0 _, cell_set ((cell_set_ne (by decide) _).trans h1) _, cell_set ((cell_set_ne (by decide) _).trans ((cell_set_ne (by decide) _).trans h2)) _, cell_set ((cell_set_ne (by decide) _).trans ((cell_set_ne (by decide) _).trans ((cell_set_ne (by decide) _).trans h3))) _⟩
/-- the sign's bit -/
def sgB (f e B : Nat) : Bool := (((B / 2 ^ (f + e) % 2 : Nat) : Int) == 1)
set_option maxHeartbeats 1000000 in
theorem split_any (f e : Nat) (l m : Int) (B : Nat) (w : World) (h : Fm f e l m) (hB : B < 2 ^ 256) :
    Calls Tryz.prog 94 #[LV f e l m, A4 B] w fun x w' => x = .returned (.tuple #[.bool (sgB f e B), .int .u64 ((B / 2 ^ f % 2 ^ e : Nat) : Int), A4 (B % 2 ^ f)]) ∧ Below w.heap.size w w' := by
  have hf2 := h.f2
  have hf240 := h.f240
  have he15 := h.e15
  have hfe := h.fe
  have c43 := fun w => bit4 B (f + e) w hB (by omega)
  have c44 := fun w => shr4 B f w hB (by omega)
  have c20 := fun w => special_any f e l m w h
  have hd : B / 2 ^ f < 2 ^ 256 := Nat.lt_of_le_of_lt (Nat.div_le_self _ _) hB
  have c45 := fun w => shl4 (B / 2 ^ f) f w hd (by omega)
  have hle : B / 2 ^ f * 2 ^ f ≤ B := Nat.div_mul_le_self _ _
  have c39 := fun w => sub4 B (B / 2 ^ f * 2 ^ f) w hB (Nat.lt_of_le_of_lt hle hB)
  rw [A4_sub hle, show B - B / 2 ^ f * 2 ^ f = B % 2 ^ f by have := Nat.div_add_mod' B (2 ^ f); omega, if_neg (show ¬ B < B / 2 ^ f * 2 ^ f by omega)] at c39
  have hand := mod_and (f := f) (B := B) he15
  unfold sgB
  rw [Int.natCast_add] at c43
  clear h hd hle hB
  generalize ((B / 2 ^ (f + e) % 2 : Nat) : Int) = S at *
  generalize ((B / 2 ^ f % 2 ^ e : Nat) : Int) = E at *
  generalize ((2 ^ e - 1 : Nat) : Int) = sp at *
  generalize B % 2 ^ f = Fr at *
  generalize B / 2 ^ f * 2 ^ f = Sh at *
  generalize B / 2 ^ f = Ab at *
  go_enter Tryz.func94, Tryz.ntmps94
  go_wp2_with (first
    | (go_at_call 124; refine (c43 _).mono ?_; rintro x w1 ⟨rfl, hb1⟩; obtain ⟨hc1, hf1⟩ := bcell hb1; have hz1_0 : w.heap.size < w1.heap.size := lt_below hb1 ltg; have hl1_0 := Nat.le_of_lt hz1_0; have hz1_1 : w.heap.size + 1 < w1.heap.size := lt_below hb1 ltg; have hl1_1 := Nat.le_of_lt hz1_1; have hz1_2 : w.heap.size + 1 + 1 < w1.heap.size := lt_below hb1 ltg; have hl1_2 := Nat.le_of_lt hz1_2; have hA1 := bnext (w0 := w) bgo hb1; have hs1 := hA1.size; clear hb1)
    | (go_at_call 125; refine (c44 _).mono ?_; rintro x w2 ⟨rfl, hb2⟩; obtain ⟨hc2, hf2⟩ := bcell hb2; have hz2_0 : w.heap.size < w2.heap.size := lt_below hb2 ltg; have hl2_0 := Nat.le_of_lt hz2_0; have hz2_1 : w.heap.size + 1 < w2.heap.size := lt_below hb2 ltg; have hl2_1 := Nat.le_of_lt hz2_1; have hz2_2 : w.heap.size + 1 + 1 < w2.heap.size := lt_below hb2 ltg; have hl2_2 := Nat.le_of_lt hz2_2; have hA2 := bnext (w0 := w) bgo hb2; have hs2 := hA2.size; clear hb2))
  refine wp_whole (by kernel_rfl) (by kernel_rfl) fun hne hcell => ?_
  repeat go_big_quiet_step (fail)
  go_big_quiet_step ((go_at_call 95; exact calls_wd _ bk_next (c20 _)))
  repeat go_big_quiet_step (fail)
  refine wpQuiet_nil fun w3 hb3 => ?_
  obtain ⟨hc3, hf3⟩ := bcell hb3; have hz3_0 : w.heap.size < w3.heap.size := lt_below hb3 ltg; have hl3_0 := Nat.le_of_lt hz3_0; have hz3_1 : w.heap.size + 1 < w3.heap.size := lt_below hb3 ltg; have hl3_1 := Nat.le_of_lt hz3_1; have hz3_2 : w.heap.size + 1 + 1 < w3.heap.size := lt_below hb3 ltg; have hl3_2 := Nat.le_of_lt hz3_2; have hz3_3 : w2.heap.size < w3.heap.size := lt_below hb3 ltg; have hl3_3 := Nat.le_of_lt hz3_3; have hA3 := bnext (w0 := w) bgo hb3; have hs3 := hA3.size; clear hb3
  go_wp2
  refine wp_tail 6 (by kernel_rfl) (by kernel_rfl) (by kernel_rfl) (fun _ _ d _ _ h => by cases d <;> exact h) fun hne hcell => ?_
  simp only [List.take_succ_cons, List.take_zero, List.drop_succ_cons, List.drop_zero]
  repeat go_big_quiet_step (fail)
  go_big_quiet_step ((go_at_call 127; exact calls_wd _ bk_next (c45 _)))
  repeat go_big_quiet_step (fail)
  go_big_quiet_step ((go_at_call 126; exact calls_wd _ bk_next (c39 _)))
  repeat go_big_quiet_step (fail)
  refine wpQuiet_nil fun w4 hb4 => ?_
  obtain ⟨hc4, hf4⟩ := bcell hb4; have hz4_0 : w.heap.size < w4.heap.size := lt_below hb4 ltg; have hl4_0 := Nat.le_of_lt hz4_0; have hz4_1 : w.heap.size + 1 < w4.heap.size := lt_below hb4 ltg; have hl4_1 := Nat.le_of_lt hz4_1; have hz4_2 : w.heap.size + 1 + 1 < w4.heap.size := lt_below hb4 ltg; have hl4_2 := Nat.le_of_lt hz4_2; have hz4_3 : w2.heap.size < w4.heap.size := lt_below hb4 ltg; have hl4_3 := Nat.le_of_lt hz4_3; have hA4 := bnext (w0 := w) bgo hb4; have hs4 := hA4.size; clear hb4
  have k4_wheapsize11_0 : w4.cell? ⟨w.heap.size + 1 + 1, 0, none⟩ = some (.int .u64 0) := (by go_simp); have k4_wheapsize11_1 : w4.cell? ⟨w.heap.size + 1 + 1, 1, none⟩ = some (.int .u64 0) := (by go_simp); have k4_wheapsize11_2 : w4.cell? ⟨w.heap.size + 1 + 1, 2, none⟩ = some (.int .u64 0) := (by go_simp); have k4_wheapsize11_3 : w4.cell? ⟨w.heap.size + 1 + 1, 3, none⟩ = some (.int .u64 0) := (by go_simp)
  go_wp2
  refine wp_tail 5 (by kernel_rfl) (by kernel_rfl) (by kernel_rfl) (fun _ _ d _ _ h => by cases d <;> exact h) fun hne hcell => ?_
  simp only [List.take_succ_cons, List.take_zero, List.drop_succ_cons, List.drop_zero]
  repeat go_big_quiet_step (fail)
  refine wpQuiet_nil fun w5 hb5 => ?_
  obtain ⟨hc5, hf5⟩ := bcell hb5; have hz5_0 : w.heap.size < w5.heap.size := lt_below hb5 ltg; have hl5_0 := Nat.le_of_lt hz5_0; have hz5_1 : w.heap.size + 1 < w5.heap.size := lt_below hb5 ltg; have hl5_1 := Nat.le_of_lt hz5_1; have hz5_2 : w.heap.size + 1 + 1 < w5.heap.size := lt_below hb5 ltg; have hl5_2 := Nat.le_of_lt hz5_2; have hz5_3 : w2.heap.size < w5.heap.size := lt_below hb5 ltg; have hl5_3 := Nat.le_of_lt hz5_3; have hA5 := bnext (w0 := w) bgo hb5; have hs5 := hA5.size; clear hb5
  have k5_wheapsize11_0 : w5.cell? ⟨w.heap.size + 1 + 1, 0, none⟩ = some (.int .u64 (W4 Fr 0)) := (by go_simp); have k5_wheapsize11_1 : w5.cell? ⟨w.heap.size + 1 + 1, 1, none⟩ = some (.int .u64 (W4 Fr 1)) := (by go_simp); have k5_wheapsize11_2 : w5.cell? ⟨w.heap.size + 1 + 1, 2, none⟩ = some (.int .u64 (W4 Fr 2)) := (by go_simp); have k5_wheapsize11_3 : w5.cell? ⟨w.heap.size + 1 + 1, 3, none⟩ = some (.int .u64 (W4 Fr 3)) := (by go_simp)
  obtain ⟨p5_0, p5_1, p5_2, p5_3⟩ := put4 k5_wheapsize11_0 k5_wheapsize11_1 k5_wheapsize11_2 k5_wheapsize11_3 (.int .u64 (W4 Fr 0)) (.int .u64 (W4 Fr 1)) (.int .u64 (W4 Fr 2)) (.int .u64 (W4 Fr 3))
  go_wp2
  exact bodyPost_ret (v := .tuple #[.bool (S == 1), .int .u64 E, A4 Fr]) (by simp only [results, Tryz.results94]; go_simp) rfl ⟨rfl, bgo⟩
end
section
def fitsP (n : Int) (x : Nat → Int) : Prop := okN n ∧ lenL (lowW x 4) 4 ≤ widthN n
instance (n : Int) (x : Nat → Int) : Decidable (fitsP n x) := inferInstanceAs (Decidable (_ ∧ _))
theorem box_num {w0 w : World} {ax : Array Value} {t : TypeId} {x : Nat → Int} (hx : Words x) (hax : ∀ i, i < 4 → ax[i]? = some (.int .u64 (x i))) (hb : Below (w0.alloc (.cells ax t)).heap.size (w0.alloc (.cells ax t)) w) :
    Num w (some ⟨w0.heap.size, 0, none⟩) 4 4 (lowW x 4) :=
  ((HasN.of_alloc w0 ax t 4 x hax).next hb).num hx (Nat.le_refl _) (Nat.le_refl _) (by unfold maxLen; omega)
theorem below_drewF {B : Nat} {a w : World} {m : Nat} (h : Below B a w) : Below B a (w.drewN m) := ⟨h.os, h.tape, h.output, h.size, h.block⟩
theorem num_drewN {w : World} {a : Option Addr} {n c : Nat} {x : Nat → Int} (h : Num w a n c x) (m : Nat) : Num (w.drewN m) a n c x := h
set_option maxHeartbeats 1000000 in
theorem fits_any (n : Int) (x : Nat → Int) (hx : Words x) (ax : Array Value) (hax : ∀ i, i < 4 → ax[i]? = some (.int .u64 (x i))) (hs : ax.size = 4) (w : World) (hT : Tab w) :
    Calls Tryz.prog 52 #[.int .i64 n, .agg ax] w fun e w' => e = .returned (.bool (decide (fitsP n x))) ∧ Below w.heap.size w w' := by
  have c1 := fun w hT => ofv_any n w hT
  have f1 := fields_bounds n
  by_cases hn : okN n
  · have hE : infoE n = 0 := if_pos hn
    rw [hE] at c1
    have hd : decide (fitsP n x) = decide (lenL (lowW x 4) 4 ≤ widthN n) := by unfold fitsP; simp [hn]
    go_enter Tryz.func52, Tryz.ntmps52
    go_wp2_with (go_at_call 40; refine (c1 _ (hT.alloc _)).mono ?_; rintro e w1 ⟨rfl, hb⟩)
    have hN := ((box_num hx hax hb).next (below1' w1 (.cells #[.int .i64 (numN n), .string (nameN n), .int .i64 (baseN n), .int .i64 (widthN n), .int .i64 (precN n), .int .i64 (expN n), .int .i64 (leastN n), .int .i64 (mostN n), .int .i64 (payN n), .bool (denseN n)] 53)))
    have cl := fun m => (nlen_any _ _ _ _ _ (by decide) (num_drewN hN m)).mono (fun e w' h => (⟨h.1, h.2.symm⟩ : e = .returned (.int .i64 (lenL (lowW x 4) 4)) ∧ w' = _))
    clear hN
    go_quiet ((go_at_call 55; exact Calls.quiet_of_same (cl _)))
    all_goals
      go_wp2
      go_ret
      refine ⟨?_, below_drewF (((below1' w _).trans (hb.mono (below1' w _).size)).alloc (Nat.le_trans (below1' w _).size hb.size) _)⟩
      rw [hd]
      rfl
  · have hE : infoE n = 1 := if_neg hn
    rw [hE] at c1
    have hd : decide (fitsP n x) = false := decide_eq_false fun h => hn h.1
    rw [hd]
    go_enter Tryz.func52, Tryz.ntmps52
    go_wp2_with (go_at_call 40; refine (c1 _ (hT.alloc _)).mono ?_; rintro e w1 ⟨rfl, hb⟩)
    go_quiet (fail)
    all_goals
      go_wp2
      go_ret
      exact ⟨rfl, below_drewF (((below1' w _).trans (hb.mono (below1' w _).size)).alloc (Nat.le_trans (below1' w _).size hb.size) _)⟩
end
section
theorem cell_set_map (W : World) (b i : Nat) (v : Value) : (W.setCell ⟨b, i, none⟩ v).cell? ⟨b, i, none⟩ = (W.cell? ⟨b, i, none⟩).map fun _ => v := by
  unfold World.cell? World.setCell
  simp only [Array.getElem?_modify, if_true]
  cases h : W.heap[b]? with
  | none => simp
  | some o =>
    cases o with
    | cells c e fr =>
      simp only [Option.map_some, Option.isSome_none, Bool.false_eq_true, if_false]
      by_cases hi : i < c.size
      · simp [hi]
      · simp [hi]
    | _ => simp
/-- a datum: class, sign, signal, exponent, coefficient -/
structure Dat where
  c : Int
  s : Bool
  g : Bool
  x : Int
  k : Nat
abbrev DV (c : Int) (s g : Bool) (x : Int) (k : Nat) : Value := .agg #[.int .i64 c, .bool s, .bool g, .int .i64 x, .int .u64 (W4 k 0), .int .u64 (W4 k 1), .int .u64 (W4 k 2), .int .u64 (W4 k 3)]
abbrev Dat.v (d : Dat) : Value := DV d.c d.s d.g d.x d.k
theorem W4_zero (i : Nat) : W4 0 i = 0 := by unfold W4; simp
/-- what the pattern with that fraction means, the exponent all ones -/
def spc (f : Nat) (s : Bool) (F : Nat) : Dat := if F = 0 then ⟨2, s, false, 0, 0⟩ else if F < 2 ^ (f - 1) then ⟨3, s, true, 0, F⟩ else ⟨3, s, false, 0, F - 2 ^ (f - 1)⟩

set_option maxHeartbeats 1000000 in
theorem special_zero (f e : Nat) (l m : Int) (s : Bool) (w : World) :
    Calls Tryz.prog 96 #[LV f e l m, .bool s, A4 0] w fun x w' => x = .returned (DV 2 s false 0 0) ∧ Below w.heap.size w w' := by
  have c46 := fun w => len4' 0 w
  rw [(len4_zero (A := 0) (by decide)).2 rfl] at c46
  unfold DV
  simp only [A4, W4_zero] at c46 ⊢
  go_enter Tryz.func96, Tryz.ntmps96
  go_wp2_with (go_at_call 121; refine (c46 _).mono ?_; rintro x w1 ⟨rfl, hb1⟩; obtain ⟨hc1, hf1⟩ := bcell hb1; have hz1_0 : w.heap.size < w1.heap.size := lt_below hb1 ltg; have hl1_0 := Nat.le_of_lt hz1_0; have hz1_1 : w.heap.size + 1 < w1.heap.size := lt_below hb1 ltg; have hl1_1 := Nat.le_of_lt hz1_1; have hz1_2 : w.heap.size + 1 + 1 < w1.heap.size := lt_below hb1 ltg; have hl1_2 := Nat.le_of_lt hz1_2; have hA1 := bnext (w0 := w) bgo hb1; have hs1 := hA1.size; clear hb1)
  have hsm := cell_set_map
  exact bodyPost_ret (v := .agg #[.int .i64 2, .bool s, .bool false, .int .i64 0, .int .u64 0, .int .u64 0, .int .u64 0, .int .u64 0]) (by simp only [results, Tryz.results96]; go_simp) rfl ⟨rfl, bgo⟩
set_option maxHeartbeats 1000000 in
theorem special_nan (f e : Nat) (l m : Int) (s : Bool) (F : Nat) (w : World) (h : Fm f e l m) (hF : F < 2 ^ 256) (h0 : F ≠ 0) :
    Calls Tryz.prog 96 #[LV f e l m, .bool s, A4 F] w fun x w' => x = .returned (if F < 2 ^ (f - 1) then DV 3 s true 0 F else DV 3 s false 0 (F - 2 ^ (f - 1))) ∧ Below w.heap.size w w' := by
  have hf2 := h.f2
  have hf240 := h.f240
  have c46 := fun w => len4' F w
  have hL : lenL (W4 F) 4 ≠ 0 := fun h1 => h0 ((len4_zero hF).1 h1)
  generalize lenL (W4 F) 4 = L at *
  have hLb : (L == 0) = false := by simpa using hL
  have c47 := fun w => quiet_any f e l m w h
  have c39 := fun w => sub4 F (2 ^ (f - 1)) w hF (Nat.pow_lt_pow_right (by decide) (by omega))
  clear h hF h0 hL hf2 hf240
  by_cases hlt : F < 2 ^ (f - 1)
  · rw [if_pos hlt]
    rw [if_pos hlt] at c39
    clear hlt
    generalize F + 2 ^ 256 - 2 ^ (f - 1) = Pl at *
    generalize 2 ^ (f - 1) = Qt at *
    go_enter Tryz.func96, Tryz.ntmps96
    go_wp2_with (go_at_call 121; refine (c46 _).mono ?_; rintro x w1 ⟨rfl, hb1⟩; obtain ⟨hc1, hf1⟩ := bcell hb1; have hz1_0 : w.heap.size < w1.heap.size := lt_below hb1 ltg; have hl1_0 := Nat.le_of_lt hz1_0; have hz1_1 : w.heap.size + 1 < w1.heap.size := lt_below hb1 ltg; have hl1_1 := Nat.le_of_lt hz1_1; have hz1_2 : w.heap.size + 1 + 1 < w1.heap.size := lt_below hb1 ltg; have hl1_2 := Nat.le_of_lt hz1_2; have hA1 := bnext (w0 := w) bgo hb1; have hs1 := hA1.size; clear hb1)
    refine wp_made 4 7 7 #[.int .u64 0, .int .u64 0, .int .u64 0, .int .u64 0] (by kernel_rfl) (by kernel_rfl) (by kernel_rfl) rfl (fun oa hoa a w => ?_) (by kernel_rfl) (by kernel_rfl) rfl rfl (fun _ _ d _ _ h => by cases d <;> exact h) ?_
    · cases hoa; exact ⟨24, by simp [go_sem]⟩
    apply Exists.intro
    refine ⟨fun al hne hcell => ?_, fun w2 hb2 => ?_, fun g w2 hb2 hg0 hg1 hg2 hg3 => ?_⟩
    · simp only [List.take_succ_cons, List.take_zero]
      repeat go_big_quiet_step (fail)
      go_big_quiet_step ((go_at_call 123; exact calls_wd _ al_next (c47 _)))
      repeat go_big_quiet_step (fail)
      go_big_quiet_step ((go_at_call 126; exact calls_wd _ al_next (c39 _)))
      exact wpQuiet_nil rfl
    · simp only [List.drop_succ_cons, List.drop_zero]
      obtain ⟨hc2, hf2⟩ := bcell hb2; have hz2_0 : w.heap.size < w2.heap.size := lt_below hb2 ltg; have hl2_0 := Nat.le_of_lt hz2_0; have hz2_1 : w.heap.size + 1 < w2.heap.size := lt_below hb2 ltg; have hl2_1 := Nat.le_of_lt hz2_1; have hz2_2 : w.heap.size + 1 + 1 < w2.heap.size := lt_below hb2 ltg; have hl2_2 := Nat.le_of_lt hz2_2; have hA2 := bnext (w0 := w) bgo hb2; have hs2 := hA2.size; clear hb2
      go_wp2
      have hsm := cell_set_map
      exact bodyPost_ret (v := DV 3 s true 0 F) (by simp only [results, Tryz.results96]; go_simp) rfl ⟨rfl, bgo⟩
    · simp only [List.drop_succ_cons, List.drop_zero, Nat.reduceSub, List.eraseIdx_cons_succ, List.eraseIdx_cons_zero]
      have hgw := hA1.size
      have hz0 : g ≠ w.heap.size := by omega
      have hz1 : g ≠ w.heap.size + 1 := by omega
      have hz2 : g ≠ w.heap.size + 1 + 1 := by omega
      obtain ⟨hc2, hf2⟩ := bcell hb2; have hz2_0 : w.heap.size < w2.heap.size := lt_below hb2 ltg; have hl2_0 := Nat.le_of_lt hz2_0; have hz2_1 : w.heap.size + 1 < w2.heap.size := lt_below hb2 ltg; have hl2_1 := Nat.le_of_lt hz2_1; have hz2_2 : w.heap.size + 1 + 1 < w2.heap.size := lt_below hb2 ltg; have hl2_2 := Nat.le_of_lt hz2_2; have hA2 := bnext (w0 := w) bgo hb2; have hs2 := hA2.size; clear hb2
      have hsm := cell_set_map
      go_wp2
      exact bodyPost_ret (v := DV 3 s true 0 F) (by simp only [results, Tryz.results96]; go_simp) rfl ⟨rfl, bgo⟩
  · rw [if_neg hlt]
    rw [if_neg hlt, A4_sub (by omega)] at c39
    clear hlt
    generalize F - 2 ^ (f - 1) = Pl at *
    generalize 2 ^ (f - 1) = Qt at *
    go_enter Tryz.func96, Tryz.ntmps96
    go_wp2_with (go_at_call 121; refine (c46 _).mono ?_; rintro x w1 ⟨rfl, hb1⟩; obtain ⟨hc1, hf1⟩ := bcell hb1; have hz1_0 : w.heap.size < w1.heap.size := lt_below hb1 ltg; have hl1_0 := Nat.le_of_lt hz1_0; have hz1_1 : w.heap.size + 1 < w1.heap.size := lt_below hb1 ltg; have hl1_1 := Nat.le_of_lt hz1_1; have hz1_2 : w.heap.size + 1 + 1 < w1.heap.size := lt_below hb1 ltg; have hl1_2 := Nat.le_of_lt hz1_2; have hA1 := bnext (w0 := w) bgo hb1; have hs1 := hA1.size; clear hb1)
    refine wp_made 4 7 7 #[.int .u64 0, .int .u64 0, .int .u64 0, .int .u64 0] (by kernel_rfl) (by kernel_rfl) (by kernel_rfl) rfl (fun oa hoa a w => ?_) (by kernel_rfl) (by kernel_rfl) rfl rfl (fun _ _ d _ _ h => by cases d <;> exact h) ?_
    · cases hoa; exact ⟨24, by simp [go_sem]⟩
    apply Exists.intro
    refine ⟨fun al hne hcell => ?_, fun w2 hb2 => ?_, fun g w2 hb2 hg0 hg1 hg2 hg3 => ?_⟩
    · simp only [List.take_succ_cons, List.take_zero]
      repeat go_big_quiet_step (fail)
      go_big_quiet_step ((go_at_call 123; exact calls_wd _ al_next (c47 _)))
      repeat go_big_quiet_step (fail)
      go_big_quiet_step ((go_at_call 126; exact calls_wd _ al_next (c39 _)))
      exact wpQuiet_nil rfl
    · simp only [List.drop_succ_cons, List.drop_zero]
      obtain ⟨hc2, hf2⟩ := bcell hb2; have hz2_0 : w.heap.size < w2.heap.size := lt_below hb2 ltg; have hl2_0 := Nat.le_of_lt hz2_0; have hz2_1 : w.heap.size + 1 < w2.heap.size := lt_below hb2 ltg; have hl2_1 := Nat.le_of_lt hz2_1; have hz2_2 : w.heap.size + 1 + 1 < w2.heap.size := lt_below hb2 ltg; have hl2_2 := Nat.le_of_lt hz2_2; have hA2 := bnext (w0 := w) bgo hb2; have hs2 := hA2.size; clear hb2
      go_wp2
      have hsm := cell_set_map
      exact bodyPost_ret (v := DV 3 s false 0 Pl) (by simp only [results, Tryz.results96]; go_simp) rfl ⟨rfl, bgo⟩
    · simp only [List.drop_succ_cons, List.drop_zero, Nat.reduceSub, List.eraseIdx_cons_succ, List.eraseIdx_cons_zero]
      have hgw := hA1.size
      have hz0 : g ≠ w.heap.size := by omega
      have hz1 : g ≠ w.heap.size + 1 := by omega
      have hz2 : g ≠ w.heap.size + 1 + 1 := by omega
      obtain ⟨hc2, hf2⟩ := bcell hb2; have hz2_0 : w.heap.size < w2.heap.size := lt_below hb2 ltg; have hl2_0 := Nat.le_of_lt hz2_0; have hz2_1 : w.heap.size + 1 < w2.heap.size := lt_below hb2 ltg; have hl2_1 := Nat.le_of_lt hz2_1; have hz2_2 : w.heap.size + 1 + 1 < w2.heap.size := lt_below hb2 ltg; have hl2_2 := Nat.le_of_lt hz2_2; have hA2 := bnext (w0 := w) bgo hb2; have hs2 := hA2.size; clear hb2
      have hsm := cell_set_map
      go_wp2
      exact bodyPost_ret (v := DV 3 s false 0 Pl) (by simp only [results, Tryz.results96]; go_simp) rfl ⟨rfl, bgo⟩
theorem special_spc (f e : Nat) (l m : Int) (s : Bool) (F : Nat) (w : World) (h : Fm f e l m) (hF : F < 2 ^ 256) :
    Calls Tryz.prog 96 #[LV f e l m, .bool s, A4 F] w fun x w' => x = .returned (spc f s F).v ∧ Below w.heap.size w w' := by
  unfold spc
  by_cases h0 : F = 0
  · subst h0
    rw [if_pos rfl]
    exact special_zero f e l m s w
  · rw [if_neg h0]
    refine (special_nan f e l m s F w h hF h0).mono ?_
    rintro x w' ⟨rfl, hb⟩
    refine ⟨?_, hb⟩
    split <;> rfl
end
section
/-- a binary format -/
def binN (n : Int) : Prop := 1 ≤ n ∧ n ≤ 6
instance (n : Int) : Decidable (binN n) := inferInstanceAs (Decidable (_ ∧ _))
def fN (n : Int) : Nat := (precN n - 1).toNat
def eN (n : Int) : Nat := (expN n).toNat
theorem bin_cases {n : Int} (h : binN n) : n = 1 ∨ n = 2 ∨ n = 3 ∨ n = 4 ∨ n = 5 ∨ n = 6 := by unfold binN at h; omega
theorem bin_fm {n : Int} (h : binN n) : Fm (fN n) (eN n) (leastN n) (mostN n) := by
  rcases bin_cases h with rfl | rfl | rfl | rfl | rfl | rfl <;> exact ⟨by decide, by decide, by decide, by decide, by decide, by decide, by decide, by decide⟩
theorem bin_fields {n : Int} (h : binN n) : okN n ∧ baseN n = 2 ∧ precN n = (fN n : Int) + 1 ∧ expN n = (eN n : Int) ∧ widthN n = ((fN n + eN n + 1 : Nat) : Int) ∧ payN n = (fN n : Int) - 1 := by
  rcases bin_cases h with rfl | rfl | rfl | rfl | rfl | rfl <;> exact ⟨by decide, by decide, by decide, by decide, by decide, by decide⟩
theorem not_bin {n : Int} (h : ¬ binN n) : (okN n ∧ baseN n = 10) ∨ ¬ okN n := by
  by_cases hk : okN n
  · left
    refine ⟨hk, ?_⟩
    rcases okN_cases hk with rfl | rfl | rfl | rfl | rfl | rfl | rfl | rfl | rfl | rfl | rfl | rfl <;> first | rfl | exact absurd (by decide) h
  · exact Or.inr hk
abbrev LZ : Value := .agg #[.int .i64 0, .int .i64 0, .int .i64 0, .int .i64 0]

set_option maxHeartbeats 1000000 in
theorem layoutOf_ok (n : Int) (w : World) (hT : Tab w) (h : binN n) :
    Calls Tryz.prog 89 #[.int .i64 n] w fun x w' => x = .returned (.tuple #[LV (fN n) (eN n) (leastN n) (mostN n), .int .i64 0]) ∧ Below w.heap.size w w' := by
  have c1 := fun w hT => ofv_any n w hT
  obtain ⟨hk, hb, hp, he, hw, hy⟩ := bin_fields h
  have hE : infoE n = 0 := if_pos hk
  have hF := bin_fm h
  have hf1 := hF.f240
  simp only [hE, hb, hp, he] at c1
  clear hE hb hp he hw hy hk hF
  go_enter Tryz.func89, Tryz.ntmps89
  go_wp2_with (go_at_call 40; refine (c1 _ (hT.alloc _)).mono ?_; rintro x w1 ⟨rfl, hb1⟩; obtain ⟨hc1, hf1⟩ := bcell hb1; have hz1_0 : w.heap.size < w1.heap.size := lt_below hb1 ltg; have hl1_0 := Nat.le_of_lt hz1_0; have hA1 := bnext (w0 := w) bgo hb1; have hs1 := hA1.size; clear hb1)
  have hsm := cell_set_map
  exact bodyPost_ret (v := .tuple #[LV (fN n) (eN n) (leastN n) (mostN n), .int .i64 0]) (by simp only [results, Tryz.results89]; go_simp) rfl ⟨rfl, bgo⟩
set_option maxHeartbeats 1000000 in
theorem layoutOf_bad (n : Int) (w : World) (hT : Tab w) (h : ¬ binN n) :
    Calls Tryz.prog 89 #[.int .i64 n] w fun x w' => x = .returned (.tuple #[LZ, .int .i64 1]) ∧ Below w.heap.size w w' := by
  have c1 := fun w hT => ofv_any n w hT
  rcases not_bin h with ⟨hk, hb⟩ | hk
  · have hE : infoE n = 0 := if_pos hk
    simp only [hE, hb] at c1
    clear hE hb hk h
    go_enter Tryz.func89, Tryz.ntmps89
    go_wp2_with (go_at_call 40; refine (c1 _ (hT.alloc _)).mono ?_; rintro x w1 ⟨rfl, hb1⟩; obtain ⟨hc1, hf1⟩ := bcell hb1; have hz1_0 : w.heap.size < w1.heap.size := lt_below hb1 ltg; have hl1_0 := Nat.le_of_lt hz1_0; have hA1 := bnext (w0 := w) bgo hb1; have hs1 := hA1.size; clear hb1)
    have hsm := cell_set_map
    exact bodyPost_ret (v := .tuple #[LZ, .int .i64 1]) (by simp only [results, Tryz.results89]; go_simp) rfl ⟨rfl, bgo⟩
  · have hE : infoE n = 1 := if_neg hk
    simp only [hE] at c1
    clear hE hk h
    go_enter Tryz.func89, Tryz.ntmps89
    go_wp2_with (go_at_call 40; refine (c1 _ (hT.alloc _)).mono ?_; rintro x w1 ⟨rfl, hb1⟩; obtain ⟨hc1, hf1⟩ := bcell hb1; have hz1_0 : w.heap.size < w1.heap.size := lt_below hb1 ltg; have hl1_0 := Nat.le_of_lt hz1_0; have hA1 := bnext (w0 := w) bgo hb1; have hs1 := hA1.size; clear hb1)
    have hsm := cell_set_map
    exact bodyPost_ret (v := .tuple #[LZ, .int .i64 1]) (by simp only [results, Tryz.results89]; go_simp) rfl ⟨rfl, bgo⟩

/-- a binary format's pattern -/
def goodN (n : Int) (B : Nat) : Prop := binN n ∧ B < 2 ^ (fN n + eN n + 1)
instance (n : Int) (B : Nat) : Decidable (goodN n B) := inferInstanceAs (Decidable (_ ∧ _))
theorem A4_get (B : Nat) : ∀ i, i < 4 → (#[Value.int .u64 (W4 B 0), .int .u64 (W4 B 1), .int .u64 (W4 B 2), .int .u64 (W4 B 3)] : Array Value)[i]? = some (.int .u64 (W4 B i)) := fun i hi => by
  have : i = 0 ∨ i = 1 ∨ i = 2 ∨ i = 3 := by omega
  rcases this with rfl | rfl | rfl | rfl <;> rfl
theorem fits4 (n : Int) (B : Nat) (hB : B < 2 ^ 256) (w : World) (hT : Tab w) :
    Calls Tryz.prog 52 #[.int .i64 n, A4 B] w fun x w' => x = .returned (.bool (decide (okN n ∧ B < 2 ^ (widthN n).toNat))) ∧ Below w.heap.size w w' := by
  refine (fits_any n (W4 B) (W4_words B) _ (A4_get B) rfl w hT).mono ?_
  rintro x w' ⟨rfl, hb⟩
  refine ⟨?_, hb⟩
  have hwd := (fields_bounds n).2.1
  have e : (fitsP n (W4 B)) ↔ (okN n ∧ B < 2 ^ (widthN n).toNat) := by
    unfold fitsP
    rw [lenL_low]
    have := len4_le (k := (widthN n).toNat) hB
    rw [show (((widthN n).toNat : Nat) : Int) = widthN n by omega] at this
    rw [this]
  rw [decide_eq_decide.2 e]
set_option maxHeartbeats 1000000 in
theorem layoutFor_ok (n : Int) (B : Nat) (w : World) (hT : Tab w) (hB : B < 2 ^ 256) (h : goodN n B) :
    Calls Tryz.prog 93 #[.int .i64 n, A4 B] w fun x w' => x = .returned (.tuple #[LV (fN n) (eN n) (leastN n) (mostN n), .int .i64 0]) ∧ Below w.heap.size w w' := by
  have hF := bin_fields h.1
  have c42 := fun w hT => fits4 n B hB w hT
  rw [decide_eq_true (show okN n ∧ B < 2 ^ (widthN n).toNat from ⟨hF.1, by rw [hF.2.2.2.2.1, Int.toNat_natCast]; exact h.2⟩)] at c42
  have c31 := fun w hT => layoutOf_ok n w hT h.1
  clear hF h hB
  go_enter Tryz.func93, Tryz.ntmps93
  go_wp2_with (first
    | (go_at_call 52; refine (c42 _ ((hT.alloc _).alloc _)).mono ?_; rintro x w1 ⟨rfl, hb1⟩; obtain ⟨hc1, hf1⟩ := bcell hb1; have hz1_0 : w.heap.size < w1.heap.size := lt_below hb1 ltg; have hl1_0 := Nat.le_of_lt hz1_0; have hz1_1 : w.heap.size + 1 < w1.heap.size := lt_below hb1 ltg; have hl1_1 := Nat.le_of_lt hz1_1; have hA1 := bnext (w0 := w) bgo hb1; have hs1 := hA1.size; clear hb1)
    | (go_at_call 89; refine (c31 _ (hT.go hA1)).mono ?_; rintro x w2 ⟨rfl, hb2⟩; obtain ⟨hc2, hf2⟩ := bcell hb2; have hz2_0 : w.heap.size < w2.heap.size := lt_below hb2 ltg; have hl2_0 := Nat.le_of_lt hz2_0; have hz2_1 : w.heap.size + 1 < w2.heap.size := lt_below hb2 ltg; have hl2_1 := Nat.le_of_lt hz2_1; have hA2 := bnext (w0 := w) bgo hb2; have hs2 := hA2.size; clear hb2))
  have hsm := cell_set_map
  exact bodyPost_ret (v := .tuple #[LV (fN n) (eN n) (leastN n) (mostN n), .int .i64 0]) (by simp only [results, Tryz.results93]; go_simp) rfl ⟨rfl, bgo⟩
set_option maxHeartbeats 1000000 in
theorem layoutFor_bad (n : Int) (B : Nat) (w : World) (hT : Tab w) (hB : B < 2 ^ 256) (h : ¬ goodN n B) :
    Calls Tryz.prog 93 #[.int .i64 n, A4 B] w fun x w' => x = .returned (.tuple #[LZ, .int .i64 1]) ∧ Below w.heap.size w w' := by
  have c42 := fun w hT => fits4 n B hB w hT
  by_cases hf : okN n ∧ B < 2 ^ (widthN n).toNat
  · rw [decide_eq_true hf] at c42
    have hnb : ¬ binN n := fun hb => h ⟨hb, by have := bin_fields hb; rw [this.2.2.2.2.1, Int.toNat_natCast] at hf; exact hf.2⟩
    have c31 := fun w hT => layoutOf_bad n w hT hnb
    clear h hB hf hnb
    go_enter Tryz.func93, Tryz.ntmps93
    go_wp2_with (first
      | (go_at_call 52; refine (c42 _ ((hT.alloc _).alloc _)).mono ?_; rintro x w1 ⟨rfl, hb1⟩; obtain ⟨hc1, hf1⟩ := bcell hb1; have hz1_0 : w.heap.size < w1.heap.size := lt_below hb1 ltg; have hl1_0 := Nat.le_of_lt hz1_0; have hz1_1 : w.heap.size + 1 < w1.heap.size := lt_below hb1 ltg; have hl1_1 := Nat.le_of_lt hz1_1; have hA1 := bnext (w0 := w) bgo hb1; have hs1 := hA1.size; clear hb1)
      | (go_at_call 89; refine (c31 _ (hT.go hA1)).mono ?_; rintro x w2 ⟨rfl, hb2⟩; obtain ⟨hc2, hf2⟩ := bcell hb2; have hz2_0 : w.heap.size < w2.heap.size := lt_below hb2 ltg; have hl2_0 := Nat.le_of_lt hz2_0; have hz2_1 : w.heap.size + 1 < w2.heap.size := lt_below hb2 ltg; have hl2_1 := Nat.le_of_lt hz2_1; have hA2 := bnext (w0 := w) bgo hb2; have hs2 := hA2.size; clear hb2))
    have hsm := cell_set_map
    exact bodyPost_ret (v := .tuple #[LZ, .int .i64 1]) (by simp only [results, Tryz.results93]; go_simp) rfl ⟨rfl, bgo⟩
  · rw [decide_eq_false hf] at c42
    clear h hB hf
    go_enter Tryz.func93, Tryz.ntmps93
    go_wp2_with (go_at_call 52; refine (c42 _ ((hT.alloc _).alloc _)).mono ?_; rintro x w1 ⟨rfl, hb1⟩; obtain ⟨hc1, hf1⟩ := bcell hb1; have hz1_0 : w.heap.size < w1.heap.size := lt_below hb1 ltg; have hl1_0 := Nat.le_of_lt hz1_0; have hz1_1 : w.heap.size + 1 < w1.heap.size := lt_below hb1 ltg; have hl1_1 := Nat.le_of_lt hz1_1; have hA1 := bnext (w0 := w) bgo hb1; have hs1 := hA1.size; clear hb1)
    have hsm := cell_set_map
    exact bodyPost_ret (v := .tuple #[LZ, .int .i64 1]) (by simp only [results, Tryz.results93]; go_simp) rfl ⟨rfl, bgo⟩
end
end Go.Proofs.YtpemdcnneabbfaaGreatDoor

namespace Go.Proofs.YtpemdcnneabbfaaGreatDoor

theorem sc1 (a : Nat) (n : Int) (K : Nat) (h : 0 ≤ (K : Int) + n) : a * 2 ^ n.toNat * 2 ^ K = a * 2 ^ ((K : Int) + n).toNat * 2 ^ (-n).toNat := by
  have : n.toNat + K = ((K : Int) + n).toNat + (-n).toNat := by omega
  rw [Nat.mul_assoc, ← Nat.pow_add, Nat.mul_assoc, ← Nat.pow_add, this]
/-- a times 2^n against b, all exponents raised by K -/
theorem cmp_sc (a b : Nat) (n : Int) (K : Nat) (h : 0 ≤ (K : Int) + n) : a * 2 ^ n.toNat < b * 2 ^ (-n).toNat ↔ a * 2 ^ ((K : Int) + n).toNat < b * 2 ^ K := by
  have e := sc1 a n K h
  have p := Nat.two_pow_pos K
  have p2 := Nat.two_pow_pos (-n).toNat
  constructor
  · intro hlt
    have := Nat.mul_lt_mul_of_pos_right hlt p
    rw [e, Nat.mul_right_comm b] at this
    exact Nat.lt_of_mul_lt_mul_right this
  · intro hlt
    have := Nat.mul_lt_mul_of_pos_right hlt p2
    rw [← e, Nat.mul_right_comm b] at this
    exact Nat.lt_of_mul_lt_mul_right this
theorem bl_bd {V : Nat} (h : V ≠ 0) : 2 ^ (bl V - 1) ≤ V ∧ V < 2 ^ bl V ∧ 1 ≤ bl V := by
  have h0 : bl V ≠ 0 := fun e => h (bl_zero.1 e)
  exact ⟨bl_ge.1 (by omega), bl_le.1 (Nat.le_refl _), by omega⟩
theorem ld_bd {N D : Nat} (hN : N ≠ 0) (hD : D ≠ 0) (K : Nat) (hK : (bl D : Int) + 1 ≤ K) :
    D * 2 ^ ((K : Int) + ld N D).toNat ≤ N * 2 ^ K ∧ N * 2 ^ K < D * 2 ^ ((K : Int) + ld N D + 1).toNat := by
  obtain ⟨n1, n2, n3⟩ := bl_bd hN
  obtain ⟨d1, d2, d3⟩ := bl_bd hD
  have pK := Nat.two_pow_pos K
  obtain ⟨K', hK'⟩ : ∃ K' : Nat, (K' : Int) = (K : Int) + ((bl N : Int) - bl D) := ⟨((K : Int) + ((bl N : Int) - bl D)).toNat, by omega⟩
  have key := cmp_sc N D (-((bl N : Int) - bl D)) K' (by omega)
  rw [Int.neg_neg, show ((K' : Int) + -((bl N : Int) - bl D)).toNat = K by omega] at key
  unfold ld
  dsimp only
  by_cases hc : N * 2 ^ (-((bl N : Int) - bl D)).toNat < D * 2 ^ ((bl N : Int) - bl D).toNat
  · rw [if_pos hc]
    have h1 := key.1 hc
    refine ⟨?_, ?_⟩
    · rw [show ((K : Int) + ((bl N : Int) - bl D - 1)).toNat = K' - 1 by omega]
      have a1 : D * 2 ^ (K' - 1) ≤ 2 ^ bl D * 2 ^ (K' - 1) := Nat.mul_le_mul_right _ (Nat.le_of_lt d2)
      have a2 : 2 ^ (bl N - 1) * 2 ^ K ≤ N * 2 ^ K := Nat.mul_le_mul_right _ n1
      rw [← Nat.pow_add] at a1 a2
      rw [show bl D + (K' - 1) = bl N - 1 + K by omega] at a1
      exact Nat.le_trans a1 a2
    · rw [show ((K : Int) + ((bl N : Int) - bl D - 1) + 1).toNat = K' by omega]
      exact h1
  · rw [if_neg hc]
    have h1 : D * 2 ^ K' ≤ N * 2 ^ K := Nat.le_of_not_lt fun h => hc (key.2 h)
    refine ⟨?_, ?_⟩
    · rw [show ((K : Int) + ((bl N : Int) - bl D)).toNat = K' by omega]
      exact h1
    · rw [show ((K : Int) + ((bl N : Int) - bl D) + 1).toNat = K' + 1 by omega]
      have a1 : N * 2 ^ K < 2 ^ bl N * 2 ^ K := Nat.mul_lt_mul_of_pos_right n2 pK
      have a2 : 2 ^ (bl D - 1) * 2 ^ (K' + 1) ≤ D * 2 ^ (K' + 1) := Nat.mul_le_mul_right _ d1
      rw [← Nat.pow_add] at a1 a2
      rw [show bl D - 1 + (K' + 1) = bl N + K by omega] at a2
      exact Nat.lt_of_lt_of_le a1 a2
theorem nrQ_lt {N D : Nat} (hN : N ≠ 0) (hD : D ≠ 0) {n : Int} {f : Nat} (h : ld N D + n ≤ f) : nrQ N D n < 2 ^ (f + 1) := by
  unfold nrQ
  apply Nat.div_lt_of_lt_mul
  obtain ⟨K, hK⟩ : ∃ K : Nat, K = bl D + 1 + n.natAbs := ⟨_, rfl⟩
  obtain ⟨K1, hK1⟩ : ∃ K1 : Nat, (K1 : Int) = (K : Int) + n := ⟨((K : Int) + n).toNat, by omega⟩
  have key := cmp_sc N (D * 2 ^ (f + 1)) n K (by omega)
  rw [show ((K : Int) + n).toNat = K1 by omega] at key
  have hb := (ld_bd hN hD K1 (by omega)).2
  have hle : D * 2 ^ ((K1 : Int) + ld N D + 1).toNat ≤ D * 2 ^ (f + 1) * 2 ^ K := by
    rw [Nat.mul_assoc, ← Nat.pow_add]
    exact Nat.mul_le_mul_left _ (Nat.pow_le_pow_right (by decide) (by omega))
  have := key.2 (Nat.lt_of_lt_of_le hb hle)
  rw [Nat.mul_right_comm] at this
  exact this
theorem nrQ_ge {N D : Nat} (hN : N ≠ 0) (hD : D ≠ 0) {n : Int} {f : Nat} (h : ld N D + n = f) : 2 ^ f ≤ nrQ N D n := by
  unfold nrQ
  have hpos : 0 < D * 2 ^ (-n).toNat := Nat.mul_pos (by omega) (Nat.two_pow_pos _)
  rw [Nat.le_div_iff_mul_le hpos]
  apply Nat.le_of_not_lt
  intro hlt
  obtain ⟨K, hK⟩ : ∃ K : Nat, K = bl D + 1 + n.natAbs := ⟨_, rfl⟩
  obtain ⟨K1, hK1⟩ : ∃ K1 : Nat, (K1 : Int) = (K : Int) + n := ⟨((K : Int) + n).toNat, by omega⟩
  have key := cmp_sc N (D * 2 ^ f) n K (by omega)
  rw [show ((K : Int) + n).toNat = K1 by omega] at key
  have hb := (ld_bd hN hD K1 (by omega)).1
  rw [show 2 ^ f * (D * 2 ^ (-n).toNat) = D * 2 ^ f * 2 ^ (-n).toNat by rw [← Nat.mul_assoc, Nat.mul_comm (2 ^ f) D]] at hlt
  have h2 := key.1 hlt
  rw [Nat.mul_assoc, ← Nat.pow_add, show f + K = ((K1 : Int) + ld N D).toNat by omega] at h2
  omega
end Go.Proofs.YtpemdcnneabbfaaGreatDoor

namespace Go.Proofs.YtpemdcnneabbfaaGreatDoor
open Go.RowKit
theorem rless_tr (a a' : Option Addr) (n c n' c' : Nat) (x y : Nat → Int) (w : World) (hn : n < 4294967290) (hn' : n' < 4294967290) (h : Num w a n c x) (h' : Num w a' n' c' y) :
    Calls Tryz.prog 75 #[.slice a n c, .slice a' n' c'] w fun e w' => ∃ g k cap, e = .returned (.slice (some ⟨g, 0, none⟩) k cap) ∧ k ≤ max n n' ∧ Num w' (some ⟨g, 0, none⟩) k cap (difZ x y (max n n')) ∧ sizeL (difZ x y (max n n')) k = k ∧ Below w.heap.size w w' := by
  have hx := h.2.2.1
  have hy := h'.2.2.1
  have zx := h.2.2.2.1
  have zy := h'.2.2.2.1
  obtain ⟨M, hM⟩ : ∃ M, max n n' = M := ⟨_, rfl⟩
  have hMi : max (n : Int) n' = (M : Int) := by omega
  have hMb : M < 4294967292 := by omega
  have hmk := fun w => make_any (max (n : Int) n') M hMi (by omega) w
  have hfin : ∀ (ss : Array Value), ss.size = M → (∀ j h, ss[j]'h = Value.int .u64 (difW x y j)) → Num (w.alloc (.cells ss 23)) (some ⟨w.heap.size, 0, none⟩) M M (difZ x y (max n n')) := fun ss h1 h2 => num_of_block (by omega) (difZ_words x y _) (fun i hi => by unfold difZ; rw [if_neg (by omega)]) h1 (fun j hj => by rw [h2 j hj]; unfold difZ; rw [if_pos (by omega)])
  have hw1 := fun (i : Nat) (ss : Array Value) => word_any a n c i x (w.alloc (.cells ss 23)) (h.next (below1 w _))
  have hw2 := fun (i : Nat) (ss : Array Value) => word_any a' n' c' i y (w.alloc (.cells ss 23)) (h'.next (below1 w _))
  have HM : Hid (max n n' = M) := hM
  have HZ : Hid ((arrOf (fun _ => 0) M).size = M ∧ ∀ j h, (arrOf (fun _ => 0) M)[j]'h = Value.int .u64 0) := ⟨arrOf_size _ _, fun j h => arrOf_get _ _ _ _⟩
  clear h h' zx zy hM hMi
  generalize arrOf (fun _ => 0) M = zz at *
  go_enter Tryz.func75, Tryz.ntmps75
  go_wp2
  go_loopw [6, 7, 16, 19] (fun c u7 i u20 wr => ∃ (k : Nat) (ss : Array Value), k ≤ M ∧ i = .int .i64 k ∧ c = .int .u64 (borW x y k) ∧ ss.size = M ∧ (∀ j h, ss[j]'h = Value.int .u64 (if j < k then difW x y j else 0)) ∧ wr = w.alloc (.cells ss 23)) (fun _ _ i _ _ => M - (intOf i).toNat)
  case atStart => exact ⟨0, zz, Nat.zero_le _, rfl, rfl, HZ.out.1, fun j h => by rw [HZ.out.2 j h]; simp, rfl⟩
  case round =>
    obtain ⟨k, ss, hk, rfl, rfl, hsz, hss, rfl⟩ := hrel
    have hcar := borW_01 x y k
    by_cases h8 : k < M
    · have h8i : (k : Int) < M := by omega
      have h8s : k < ss.size := by omega
      have bx := hx k
      have b_y := hy k
      have hsk : ss[k]? = some (.int .u64 0) := by rw [Array.getElem?_eq_getElem h8s, hss k h8s, if_neg (by omega)]
      have hadd := fun w => sub64 (x k) (y k) (borW x y k) bx.1 b_y.1 (by omega) hcar.1 hcar.2 w
      have hwa := hw1 k ss
      have hwb := hw2 k ss
      have HR : Hid (∀ (i : Nat) (h : i < (ss.setIfInBounds k (.int .u64 (difW x y k))).size), (ss.setIfInBounds k (.int .u64 (difW x y k)))[i]'h = Value.int .u64 (if i < k + 1 then difW x y i else 0)) := set_next hss
      clear hss hw1 hw2 hfin hmk hx hy
      go_wp2_with (first | (go_at_call_of 20 (Value.slice a n c); refine hwa.mono ?_; rintro e w' ⟨rfl, rfl⟩) | (go_at_call_of 20 (Value.slice a' n' c'); refine hwb.mono ?_; rintro e w' ⟨rfl, rfl⟩))
      go_roundw
      case rel => exact ⟨k + 1, ss.setIfInBounds k (.int .u64 (difW x y k)), by omega, by go_num, rfl, by simp [hsz], HR.out, rfl⟩
      case measure => simp [intOf]; omega
    · obtain rfl : k = M := by omega
      have hss' : ∀ j h, ss[j]'h = Value.int .u64 (difW x y j) := by
        intro j h; rw [hss j h, if_pos (by omega)]
      have hT := trim_any _ _ _ _ _ (by omega) (hfin ss hsz hss')
      have hle := sizeL_le (difZ x y (max n n')) k
      clear hss hss' hw1 hw2 hfin hmk hx hy
      go_wp2_with (go_at_call 18; refine hT.mono ?_; rintro e w1 ⟨g, cap, rfl, hN, hB⟩)
      go_ret
      exact ⟨g, _, cap, rfl, Nat.le_trans hle (Nat.le_of_eq HM.out.symm), hN, sizeL_sizeL _ _, (below1 w _).trans (hB.mono (by simp))⟩

/-- a natural number, of at most K words -/
def NV (K V : Nat) (v : Value) (w : World) : Prop := ∃ g k cap z, v = .slice (some ⟨g, 0, none⟩) k cap ∧ k ≤ K ∧ Num w (some ⟨g, 0, none⟩) k cap z ∧ val z k = (V : Int)
theorem NV.next {K V : Nat} {v : Value} {w w' : World} (h : NV K V v w) (hb : Below w.heap.size w w') : NV K V v w' := by
  obtain ⟨g, k, cap, z, h1, h2, h3, h4⟩ := h
  exact ⟨g, k, cap, z, h1, h2, h3.next hb, h4⟩
theorem NV.more {K K' V : Nat} {v : Value} {w : World} (h : NV K V v w) (hk : K ≤ K') : NV K' V v w := by
  obtain ⟨g, k, cap, z, h1, h2, h3, h4⟩ := h
  exact ⟨g, k, cap, z, h1, by omega, h3, h4⟩
theorem rright_nv {K A : Nat} {v : Value} {w : World} (s : Nat) (hK : K < 1000) (hs : s ≤ 600) (h : NV K A v w) :
    Calls Tryz.prog 34 #[v, .int .i64 s] w fun e w' => ∃ v' b, e = .returned (.tuple #[v', .bool b]) ∧ NV K (A / 2 ^ s) v' w' ∧ Below w.heap.size w w' := by
  obtain ⟨g, k, cap, z, rfl, hk, hN, hv⟩ := h
  obtain ⟨q, hq⟩ : ∃ q : Nat, (s : Int) / 64 = q := ⟨((s : Int) / 64).toNat, by omega⟩
  obtain ⟨r, hr⟩ : ∃ r : Nat, (s : Int) % 64 = r := ⟨((s : Int) % 64).toNat, by omega⟩
  have hsn : s = 64 * q + r := by omega
  have hr6 : r < 64 := by omega
  have key : ∀ (w' : World) (g' k' cap' : Nat), k' ≤ k → Num w' (some ⟨g', 0, none⟩) k' cap' (shrW z q r) → NV K (A / 2 ^ s) (.slice (some ⟨g', 0, none⟩) k' cap') w' := fun w' g' k' cap' hk' hN' => by
    refine ⟨g', k', cap', _, rfl, by omega, hN', ?_⟩
    rw [← val_more hN'.2.2.2.1 k hk', hsn]
    exact shrW_val hN.2.2.1 hN.2.2.2.1 hr6 k (Nat.le_refl _) hv
  by_cases h0 : r = 0
  · subst h0
    refine (right_z g 0 k cap q s z w (by omega) (by omega) hq (by omega) (by omega) hN).mono ?_
    rintro e w' ⟨g', k', cap', b, rfl, hk', hN', hb⟩
    exact ⟨_, b, rfl, key w' g' k' cap' hk' hN', hb⟩
  · refine (right_p g 0 k cap q r s z w (by omega) (by omega) hr6 (by omega) hq hr (by omega) hN).mono ?_
    rintro e w' ⟨g', k', cap', b, rfl, hk', hN', hb⟩
    exact ⟨_, b, rfl, key w' g' k' cap' hk' hN', hb⟩
theorem rleft_nv {K A : Nat} {v : Value} {w : World} (s : Nat) (hK : K < 1000) (hs : s ≤ 600) (h : NV K A v w) :
    Calls Tryz.prog 71 #[v, .int .i64 s] w fun e w' => ∃ v', e = .returned v' ∧ NV (K + 11) (A * 2 ^ s) v' w' ∧ Below w.heap.size w w' := by
  obtain ⟨g, k, cap, z, rfl, hk, hN, hv⟩ := h
  obtain ⟨q, hq⟩ : ∃ q : Nat, (s : Int) / 64 = q := ⟨((s : Int) / 64).toNat, by omega⟩
  obtain ⟨r, hr⟩ : ∃ r : Nat, (s : Int) % 64 = r := ⟨((s : Int) % 64).toNat, by omega⟩
  have hsn : s = 64 * q + r := by omega
  have hr6 : r < 64 := by omega
  have key : ∀ (w' : World) (g' k' cap' : Nat), k' ≤ k + q + 1 → Num w' (some ⟨g', 0, none⟩) k' cap' (finL z q r) → NV (K + 11) (A * 2 ^ s) (.slice (some ⟨g', 0, none⟩) k' cap') w' := fun w' g' k' cap' hk' hN' => by
    refine ⟨g', k', cap', _, rfl, by omega, hN', ?_⟩
    rw [← val_more hN'.2.2.2.1 (k + q + 1) hk', finL_val hN.2.2.1 hN.2.2.2.1 q hr6, hv, hsn]
    simp
  by_cases h0 : r = 0
  · subst h0
    refine (left_z g 0 k cap q s z w (by omega) (by omega) hq (by omega) (by omega) hN).mono ?_
    rintro e w' ⟨g', k', cap', rfl, hk', hN', hb⟩
    exact ⟨_, rfl, key w' g' k' cap' hk' hN', hb⟩
  · refine (left_p g 0 k cap q r s z w (by omega) (by omega) hr6 (by omega) hq hr (by omega) hN).mono ?_
    rintro e w' ⟨g', k', cap', rfl, hk', hN', hb⟩
    exact ⟨_, rfl, key w' g' k' cap' hk' hN', hb⟩
/-- a natural number without noughts at its end -/
def NT (K V : Nat) (v : Value) (w : World) : Prop := ∃ g k cap z, v = .slice (some ⟨g, 0, none⟩) k cap ∧ k ≤ K ∧ Num w (some ⟨g, 0, none⟩) k cap z ∧ val z k = (V : Int) ∧ sizeL z k = k
theorem NT.nv {K V : Nat} {v : Value} {w : World} (h : NT K V v w) : NV K V v w := by
  obtain ⟨g, k, cap, z, h1, h2, h3, h4, _⟩ := h
  exact ⟨g, k, cap, z, h1, h2, h3, h4⟩
theorem NT.next {K V : Nat} {v : Value} {w w' : World} (h : NT K V v w) (hb : Below w.heap.size w w') : NT K V v w' := by
  obtain ⟨g, k, cap, z, h1, h2, h3, h4, h5⟩ := h
  exact ⟨g, k, cap, z, h1, h2, h3.next hb, h4, h5⟩
theorem rless_nt {K K' A B : Nat} {v v' : Value} {w : World} (hK : K < 1000) (hK' : K' < 1000) (h : NV K A v w) (h' : NV K' B v' w) (hv : B ≤ A) :
    Calls Tryz.prog 75 #[v, v'] w fun e w' => ∃ r, e = .returned r ∧ NT (K + K') (A - B) r w' ∧ Below w.heap.size w w' := by
  obtain ⟨g, k, c, z, rfl, hk, hN, hz⟩ := h
  obtain ⟨g2, k2, c2, z2, rfl, hk2, hN2, hz2⟩ := h'
  refine (rless_tr _ _ k c k2 c2 z z2 w (by omega) (by omega) hN hN2).mono fun e w' ⟨g3, k3, cap3, e1, hk3, hN3, ht, hB⟩ => ⟨_, e1, ⟨g3, k3, cap3, _, rfl, by omega, hN3, ?_, ht⟩, hB⟩
  have ex := val_more hN.2.2.2.1 (max k k2) (by omega)
  have ey := val_more hN2.2.2.2.1 (max k k2) (by omega)
  have e := dif_val hN.2.2.1 hN2.2.2.1 (max k k2)
  rw [borW_end hN.2.2.1 hN2.2.2.1 (by omega), ex, ey] at e
  rw [← val_more hN3.2.2.2.1 _ hk3, val_congr (y := difW z z2) (max k k2) fun i hi => by unfold difZ; rw [if_pos hi]]
  omega
theorem radd_nv {K K' A B : Nat} {v v' : Value} {w : World} (hK : K < 1000000) (hK' : K' < 1000000) (h : NV K A v w) (h' : NV K' B v' w) :
    Calls Tryz.prog 73 #[v, v'] w fun e w' => ∃ r, e = .returned r ∧ NV (K + K' + 1) (A + B) r w' ∧ Below w.heap.size w w' := by
  obtain ⟨g, k, c, z, rfl, hk, hN, hz⟩ := h
  obtain ⟨g2, k2, c2, z2, rfl, hk2, hN2, hz2⟩ := h'
  refine (radd_val _ _ k c k2 c2 z z2 w (by omega) (by omega) hN hN2).mono fun e w' ⟨g3, k3, cap3, z3, e1, hk3, hN3, hv3, hB⟩ => ⟨_, e1, ⟨g3, k3, cap3, z3, rfl, by omega, hN3, ?_⟩, hB⟩
  rw [hv3, hz, hz2]; omega
theorem NT.zero {K V : Nat} {v : Value} {w : World} (h : NT K V v w) : ∃ g k cap, v = .slice (some ⟨g, 0, none⟩) k cap ∧ k ≤ K ∧ (k = 0 ↔ V = 0) := by
  obtain ⟨g, k, cap, z, h1, h2, h3, h4, h5⟩ := h
  refine ⟨g, k, cap, h1, h2, ?_⟩
  constructor
  · intro hk; subst hk
    have : val z 0 = 0 := rfl
    omega
  · intro hV
    rcases Nat.eq_zero_or_pos k with hk | hk
    · exact hk
    · exfalso
      have ht := sizeL_top (x := z) k (by omega)
      rw [h5] at ht
      obtain ⟨j, rfl⟩ : ∃ j, k = j + 1 := ⟨k - 1, by omega⟩
      have hs : val z (j + 1) = val z j + z j * 18446744073709551616 ^ j := rfl
      have hb := val_bd h3.2.2.1 j
      have hp := pw_pos j
      have hj := h3.2.2.1 j
      have hz : z j ≠ 0 := ht
      have : 1 * 18446744073709551616 ^ j ≤ z j * 18446744073709551616 ^ j := Int.mul_le_mul_of_nonneg_right (by omega) (Int.le_of_lt hp)
      omega
/-- a decimal format: T's bits, G's bits behind the five, declets, the least exponent, dense -/
structure DF where
  t : Nat
  w : Nat
  j : Nat
  l : Int
  dn : Bool
def DF.ok (f : DF) : Prop := (f.t = 20 ∧ f.w = 6 ∧ f.j = 2 ∧ f.l = -101) ∨ (f.t = 50 ∧ f.w = 8 ∧ f.j = 5 ∧ f.l = -398) ∨ (f.t = 110 ∧ f.w = 12 ∧ f.j = 11 ∧ f.l = -6176)
/-- a datum is the format's -/
def vI (f : DF) (d : Dat) : Prop :=
  (d.c = 1 ∧ d.g = false ∧ d.k < 10 ^ (3 * f.j + 1) ∧ f.l ≤ d.x ∧ d.x ≤ f.l + 3 * 2 ^ f.w - 1) ∨ (d.c = 2 ∧ d.g = false ∧ d.k = 0 ∧ d.x = 0) ∨ (d.c = 3 ∧ d.x = 0 ∧ d.k < 10 ^ (3 * f.j))
end Go.Proofs.YtpemdcnneabbfaaGreatDoor
