/-
  What the statements' own taken does: a contract.
-/
import Derived.Test.YtbbjkpcccimcbaaLcmp
import Derived.Test.YtbbjkpcccimcbaaKp
set_option linter.unusedVariables false
set_option linter.unusedSimpArgs false
namespace Go.Proofs.Ytbbjkpcccimcbaa
open Go.RowKit

theorem cmpL_congr {x y x' y' : Nat → Int} : ∀ n, (∀ i, i < n → x i = x' i ∧ y i = y' i) → cmpL x y n = cmpL x' y' n
  | 0, _ => rfl
  | n + 1, h => by
    have := h n (by omega)
    simp only [cmpL]
    rw [this.1, this.2, cmpL_congr n fun i hi => h i (by omega)]
theorem borW_congr {x y x' y' : Nat → Int} : ∀ n, (∀ i, i < n → x i = x' i ∧ y i = y' i) → borW x y n = borW x' y' n
  | 0, _ => rfl
  | n + 1, h => by
    have := h n (by omega)
    simp only [borW]
    rw [this.1, this.2, borW_congr n fun i hi => h i (by omega)]
theorem low_at {x : Nat → Int} {n i : Nat} (h : i < n) : lowW x n i = x i := by unfold lowW; rw [if_pos h]
theorem low_out {x : Nat → Int} {n i : Nat} (h : n ≤ i) : lowW x n i = 0 := by unfold lowW; rw [if_neg (by omega)]
/-- what is borrowed is how they compare -/
theorem bor_cmp (x y : Nat → Int) : ∀ n, (borW x y n = 1 ∧ cmpL x y n = -1) ∨ (borW x y n = 0 ∧ (cmpL x y n = 0 ∨ cmpL x y n = 1))
  | 0 => Or.inr ⟨rfl, Or.inl rfl⟩
  | n + 1 => by
    have ih := bor_cmp x y n
    simp only [borW, cmpL, bor]
    by_cases h1 : x n < y n
    · rw [if_pos h1, if_pos (by omega)]; exact Or.inl ⟨rfl, rfl⟩
    · rw [if_neg h1]
      by_cases h2 : y n < x n
      · rw [if_pos h2, if_neg (by omega)]; exact Or.inr ⟨rfl, Or.inr rfl⟩
      · rw [if_neg h2]
        rcases ih with ⟨h3, h4⟩ | ⟨h3, h4⟩
        · rw [if_pos (by omega)]; exact Or.inl ⟨rfl, h4⟩
        · rw [if_neg (by omega)]; exact Or.inr ⟨rfl, h4⟩
theorem one_left (n j : Nat) : finL (oneW 1) n 0 j = if j = n then 1 else 0 := by
  unfold finL
  have e1 : lowp (oneW 1) n 0 j = 0 := by unfold lowp; rw [if_neg (by omega)]
  by_cases h : n ≤ j
  · rw [if_pos h, e1]
    by_cases h2 : j = n
    · subst h2; rw [if_pos rfl, Nat.sub_self]; rw [show oneW 1 0 = 1 from rfl, Int.pow_zero, Int.mul_one, wrap_id 1 (by decide), zero_orW 1 (by decide)]
    · rw [if_neg h2]; rw [show oneW 1 (j - n) = 0 by unfold oneW; rw [if_neg (by omega)], Int.zero_mul, wrap_id 0 (by decide), zero_orW 0 (by decide)]
  · rw [if_neg h, if_neg (by omega)]
/-- x with a 1 ahead -/
def wthW (x : Nat → Int) (n i : Nat) : Int := if i < n then x i else if i = n then 1 else 0
theorem wth_sum {x : Nat → Int} (hx : Words x) (n : Nat) : sumW (lowW x n) (finL (oneW 1) n 0) = wthW x n := by
  have hc : ∀ i, carryW (lowW x n) (finL (oneW 1) n 0) i = 0 := by
    intro i
    induction i with
    | zero => rfl
    | succ i ih =>
      simp only [carryW, ih, one_left]
      have := hx i
      unfold lowW; split <;> split <;> omega
  funext i
  unfold sumW wthW
  rw [hc i, one_left]
  have := hx i
  unfold lowW
  by_cases h1 : i < n
  · rw [if_pos h1, if_pos h1, if_neg (by omega)]; omega
  · rw [if_neg h1, if_neg h1]; split <;> simp
theorem wth_dif {x y : Nat → Int} (n M : Nat) (hM : n + 1 ≤ M) (hb : borW x y n = 1) : difZ (wthW x n) (lowW y n) M = lowW (difW x y) n := by
  have h1 : ∀ i, i ≤ n → borW (wthW x n) (lowW y n) i = borW x y i := fun i hi => borW_congr i fun j hj => ⟨by unfold wthW; rw [if_pos (by omega)], low_at (by omega)⟩
  have h2 : ∀ i, n + 1 ≤ i → borW (wthW x n) (lowW y n) i = 0 := by
    intro i hi
    induction i with
    | zero => omega
    | succ i ih =>
      by_cases e : i = n
      · subst e
        have e1 : wthW x i i = 1 := by unfold wthW; rw [if_neg (by omega), if_pos rfl]
        simp only [borW]; rw [h1 i (Nat.le_refl _), hb, low_out (Nat.le_refl _), e1]; rfl
      · have e1 : wthW x n i = 0 := by unfold wthW; rw [if_neg (by omega), if_neg e]
        simp only [borW]; rw [ih (by omega), low_out (by omega), e1]; rfl
  funext i
  unfold difZ
  by_cases hi : i < n
  · rw [if_pos (by omega), low_at hi]; unfold difW; rw [h1 i (by omega), low_at hi]; unfold wthW; rw [if_pos hi]
  · rw [low_out (by omega)]
    split
    · unfold difW; rw [low_out (by omega)]
      by_cases e : i = n
      · subst e; rw [h1 i (Nat.le_refl _), hb]; unfold wthW; rw [if_neg (by omega), if_pos rfl]; rfl
      · rw [h2 i (by omega)]; unfold wthW; rw [if_neg (by omega), if_neg e]; rfl
    · rfl
theorem same_dif {x y : Nat → Int} (n : Nat) : difZ (lowW x n) (lowW y n) n = lowW (difW x y) n := by
  funext i
  unfold difZ
  by_cases hi : i < n
  · rw [if_pos hi, low_at hi]; unfold difW; rw [borW_congr i (x' := x) (y' := y) fun j hj => ⟨low_at (by omega), low_at (by omega)⟩, low_at hi, low_at hi]
  · rw [if_neg hi, low_out (by omega)]

set_option maxHeartbeats 1000000 in
theorem taken_any (b1 b2 b3 c1 c2 c3 n : Nat) (x y : Nat → Int) (w : World) (hx : Words x) (hy : Words y) (hn : n < 10000)
    (hS : Num w (some ⟨b1, 0, none⟩) n c1 (lowW (difW x y) n)) (hX : Num w (some ⟨b2, 0, none⟩) n c2 (lowW x n)) (hY : Num w (some ⟨b3, 0, none⟩) n c3 (lowW y n)) :
    Calls Try.prog 26 #[.slice (some ⟨b1, 0, none⟩) n c1, .int .u64 (borW x y n), .slice (some ⟨b2, 0, none⟩) n c2, .slice (some ⟨b3, 0, none⟩) n c3] w fun e w' => e = .returned (.bool true) ∧ Below w.heap.size w w' := by
  have hC := cmp_any (some ⟨b2, 0, none⟩) (some ⟨b3, 0, none⟩) n c2 n c3 _ _ w (by omega) (by omega) hX hY
  rw [Nat.max_self, cmpL_congr n (x' := x) (y' := y) fun i hi => ⟨low_at hi, low_at hi⟩] at hC
  have hC : Calls Try.prog 22 #[.slice (some ⟨b2, 0, none⟩) n c2, .slice (some ⟨b3, 0, none⟩) n c3] w fun e w' => e = .returned (.int .i64 (cmpL x y n)) ∧ w = w' := hC.mono fun _ _ h => ⟨h.1, h.2.symm⟩
  have HS : Hid (Num w (some ⟨b1, 0, none⟩) n c1 (lowW (difW x y) n)) := hS
  have HX : Hid (Num w (some ⟨b2, 0, none⟩) n c2 (lowW x n)) := hX
  have HY : Hid (Num w (some ⟨b3, 0, none⟩) n c3 (lowW y n)) := hY
  clear hS hX hY
  rcases bor_cmp x y n with ⟨hb, hk⟩ | ⟨hb, hk⟩
  · rw [hk] at hC
    rw [hb]
    have HB : Hid (borW x y n = 1) := hb
    have hN1 := num_one w 1 (by decide)
    have hL := left_z w.heap.size 0 1 1 n (64 * (n : Int)) (oneW 1) (w.alloc (.cells #[.int .u64 1] 22)) (by omega) (by omega) (by omega) (by omega) (by omega) hN1
    clear hk hb hN1
    go_enter Try.func26, Try.ntmps26
    go_wp2_with (go_at_call 22; refine hC.mono ?_; rintro e w' ⟨rfl, rfl⟩)
    go_wp2_with (go_at_call 57; refine hL.mono ?_; rintro e w2 ⟨g2, k2, cap2, rfl, hk2, hN2, hB2⟩)
    have hB2' : Below w.heap.size w w2 := (below1 w _).trans (hB2.mono (by simp))
    have hA := radd_any (some ⟨b2, 0, none⟩) (some ⟨g2, 0, none⟩) n c2 k2 cap2 _ _ w2 (by omega) (by omega) (HX.out.next hB2') hN2
    rw [wth_sum hx n] at hA
    clear hL hN2 hC
    go_wp2_with (go_at_call 53; refine hA.mono ?_; rintro e w3 ⟨g3, k3, cap3, rfl, hk3, hN3, hB3⟩)
    have hB3' : Below w.heap.size w w3 := hB2'.trans (hB3.mono hB2'.size)
    have hkn : n + 1 ≤ k3 := by
      rcases Nat.lt_or_ge n k3 with h | h
      · exact h
      · have h1 := hN3.2.2.2.1 n h
        unfold wthW at h1; rw [if_neg (by omega), if_pos rfl] at h1; exact absurd h1 (by decide)
    have hS := rless_any (some ⟨g3, 0, none⟩) (some ⟨b3, 0, none⟩) k3 cap3 n c3 _ _ w3 (by omega) (by omega) hN3 (HY.out.next hB3')
    rw [wth_dif n (max k3 n) (by omega) HB.out] at hS
    clear hA hN3
    go_wp2_with (go_at_call 58; refine hS.mono ?_; rintro e w4 ⟨g4, k4, cap4, rfl, hk4, hN4, hB4⟩)
    have hB4' : Below w.heap.size w w4 := hB3'.trans (hB4.mono hB3'.size)
    have hI := is_any (some ⟨b1, 0, none⟩) (some ⟨g4, 0, none⟩) n c1 k4 cap4 _ w4 (by omega) (by omega) (HS.out.next hB4') hN4
    clear hS hN4
    go_wp2_with (go_at_call 54; refine hI.mono ?_; rintro e w' ⟨rfl, rfl⟩)
    go_ret
    exact ⟨rfl, hB4'⟩
  · rw [hb]
    have hk' : ¬ cmpL x y n < 0 := by omega
    have HB : Hid (borW x y n = 0) := hb
    generalize cmpL x y n = K at *
    have hL := rless_any (some ⟨b2, 0, none⟩) (some ⟨b3, 0, none⟩) n c2 n c3 _ _ w (by omega) (by omega) HX.out HY.out
    rw [Nat.max_self, same_dif] at hL
    clear hk hb
    go_enter Try.func26, Try.ntmps26
    go_wp2_with (go_at_call 22; refine hC.mono ?_; rintro e w' ⟨rfl, rfl⟩)
    go_wp2_with (go_at_call 58; refine hL.mono ?_; rintro e w4 ⟨g4, k4, cap4, rfl, hk4, hN4, hB4⟩)
    have hI := is_any (some ⟨b1, 0, none⟩) (some ⟨g4, 0, none⟩) n c1 k4 cap4 _ w4 (by omega) (by omega) (HS.out.next hB4) hN4
    clear hL hN4
    go_wp2_with (go_at_call 54; refine hI.mono ?_; rintro e w' ⟨rfl, rfl⟩)
    go_ret
    have hkd : decide (K < 0) = false := by simpa using hk'
    exact ⟨by simp [hkd], hB4⟩
theorem taken_has {x y : Nat → Int} {w : World} {n c1 b1 b2 b3 m2 m3 c2 c3 : Nat} (hx : Words x) (hy : Words y) (hn8 : n ≤ 8) (h1 : HasN b1 n (difW x y) w) (h2 : HasN b2 m2 x w) (h3 : HasN b3 m3 y w) (hm2 : n ≤ m2) (hm3 : n ≤ m3) (hc1 : n ≤ c1) (hc2 : n ≤ c2) (hc3 : n ≤ c3) (q1 : c1 ≤ 8) (q2 : c2 ≤ 8) (q3 : c3 ≤ 8) :
    Calls Try.prog 26 #[.slice (some ⟨b1, 0, none⟩) n c1, .int .u64 (borW x y n), .slice (some ⟨b2, 0, none⟩) n c2, .slice (some ⟨b3, 0, none⟩) n c3] w fun e w' => e = .returned (.bool true) ∧ Below w.heap.size w w' :=
  taken_any b1 b2 b3 c1 c2 c3 n x y w hx hy (by omega) (h1.num (difW_words x y) (Nat.le_refl _) hc1 (by unfold maxLen; omega)) (h2.num hx hm2 hc2 (by unfold maxLen; omega)) (h3.num hy hm3 hc3 (by unfold maxLen; omega))
theorem rcmp_has {x y : Nat → Int} {w : World} {n b2 b3 m2 m3 c2 c3 : Nat} (hx : Words x) (hy : Words y) (hn8 : n ≤ 8) (h2 : HasN b2 m2 x w) (h3 : HasN b3 m3 y w) (hm2 : n ≤ m2) (hm3 : n ≤ m3) (hc2 : n ≤ c2) (hc3 : n ≤ c3) (q2 : c2 ≤ 8) (q3 : c3 ≤ 8) :
    Calls Try.prog 22 #[.slice (some ⟨b2, 0, none⟩) n c2, .slice (some ⟨b3, 0, none⟩) n c3] w fun e w' => e = .returned (.int .i64 (cmpL x y n)) ∧ w' = w := by
  have hC := cmp_any (some ⟨b2, 0, none⟩) (some ⟨b3, 0, none⟩) n c2 n c3 _ _ w (by omega) (by omega) (h2.num hx hm2 hc2 (by unfold maxLen; omega)) (h3.num hy hm3 hc3 (by unfold maxLen; omega))
  rw [Nat.max_self, cmpL_congr n (x' := x) (y' := y) fun i hi => ⟨low_at hi, low_at hi⟩] at hC
  exact hC
end Go.Proofs.Ytbbjkpcccimcbaa
