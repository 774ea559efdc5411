/-
  What the statements' own shifted does: a contract.
-/
import Derived.Test.YtbbjkpcccimcbaaRight
import Derived.Test.YtbbjkpcccimcbaaCut
import Derived.Test.YtbbjkpcccimcbaaKp
import Derived.Test.YtbbjkpcccimcbaaLsh
set_option linter.unusedVariables false
set_option linter.unusedSimpArgs false
namespace Go.Proofs.Ytbbjkpcccimcbaa
open Go.RowKit

/-- the words that limbs.Shl answers, whatever the distance -/
def shlA (x : Nat → Int) (n : Int) (j : Nat) : Int := if n < 1 then x j else shlL x (n / 64).toNat (n % 64).toNat j
/-- the words that limbs.Shr answers, whatever the distance -/
def shrA (x : Nat → Int) (n : Int) (N j : Nat) : Int := if n < 1 then x j else shrL x (n / 64).toNat (n % 64).toNat N j
theorem lowW_lt {x : Nat → Int} {N i : Nat} (h : i < N) : lowW x N i = x i := by unfold lowW; rw [if_pos h]
theorem lowW_ge {x : Nat → Int} {N i : Nat} (h : N ≤ i) : lowW x N i = 0 := by unfold lowW; rw [if_neg (by omega)]
theorem div64_zero (a : Int) (h : 0 ≤ a ∧ a ≤ 18446744073709551615) : a / 2 ^ (64 - 0) = 0 := by
  have e : (2 : Int) ^ (64 - 0) = 18446744073709551616 := by decide
  rw [e]; omega
theorem wrap64_zero (a : Int) : IntKind.u64.wrap (a * 2 ^ (64 - 0)) = 0 := by
  have e : (2 : Int) ^ (64 - 0) = 18446744073709551616 := by decide
  rw [e]
  simp only [IntKind.wrap, IntKind.bits, IntKind.signed]
  simp
theorem shlL_fin {x : Nat → Int} (hx : Words x) {N : Nat} (q r : Nat) : lowW (shlL x q r) N = lowW (finL (lowW x N) q r) N := by
  funext j
  by_cases hj : j < N
  · rw [lowW_lt hj, lowW_lt hj]
    unfold shlL finL
    by_cases hq : q ≤ j
    · rw [if_pos hq, if_pos hq, lowW_lt (x := x) (N := N) (i := j - q) (by omega)]
      by_cases h : q < j
      · rw [if_pos h]
        have e : lowp (lowW x N) q r j = x (j - q - 1) / 2 ^ (64 - r) := by
          unfold lowp
          rw [lowW_lt (x := x) (N := N) (i := j - q - 1) (by omega)]
          by_cases hr : 0 < r
          · rw [if_pos ⟨by omega, hr⟩]
          · have hr0 : r = 0 := by omega
            subst hr0
            rw [if_neg (by omega), div64_zero _ (hx _)]
        rw [e]
        exact orW_comm _ _ (wrap_word _) (div_word _ _ (hx _))
      · rw [if_neg h]
        have e : lowp (lowW x N) q r j = 0 := by unfold lowp; rw [if_neg (by omega)]
        rw [e, zero_orW _ (wrap_word _)]
    · rw [if_neg hq, if_neg hq]
  · rw [lowW_ge (by omega), lowW_ge (by omega)]
theorem shrL_fin {x : Nat → Int} (hx : Words x) {N : Nat} (q r : Nat) : lowW (shrL x q r N) N = shrW (lowW x N) q r := by
  funext j
  by_cases hj : j < N
  · rw [lowW_lt hj]
    by_cases hq : q + j < N
    · unfold shrL shrW
      rw [if_pos hq, lowW_lt hq]
      by_cases hr : r = 0
      · subst hr
        rw [if_pos rfl]
        have e : x (q + j) / 2 ^ 0 = x (q + j) := by simp
        rw [e, wrap64_zero]
        by_cases h : q + j + 1 < N
        · rw [if_pos h]; exact orW_zero _ (hx _)
        · rw [if_neg h]
      · rw [if_neg hr]
        by_cases h : q + j + 1 < N
        · rw [if_pos h, lowW_lt h]; rfl
        · rw [if_neg h, lowW_ge (x := x) (N := N) (i := q + j + 1) (by omega), Int.zero_mul]
          rw [show IntKind.u64.wrap 0 = 0 by decide, orW_zero _ (div_word _ _ (hx _))]
    · rw [shrW_zero (n := N) (fun i hi => lowW_ge hi) q r j (by omega)]
      unfold shrL; rw [if_neg hq]
  · rw [lowW_ge (by omega), shrW_zero (n := N) (fun i hi => lowW_ge hi) q r j (by omega)]
/-- the distance that the statements hold it against -/
def clamp (n : Int) : Int := if n < 0 then 0 else if 600 < n then 600 else n
theorem clamp_range (n : Int) : 0 ≤ clamp n ∧ clamp n ≤ 600 := by unfold clamp; split; omega; split <;> omega
theorem shlA_fin {x : Nat → Int} (hx : Words x) {N : Nat} (hN : N ≤ 8) (n : Int) : lowW (shlA x n) N = lowW (finL (lowW x N) (clamp n / 64).toNat (clamp n % 64).toNat) N := by
  by_cases h1 : n < 1
  · have e : shlA x n = x := by funext j; unfold shlA; rw [if_pos h1]
    have ec : clamp n = 0 := by unfold clamp; split; rfl; rw [if_neg (by omega)]; omega
    rw [e, ec]
    funext j
    by_cases hj : j < N
    · rw [lowW_lt hj, lowW_lt hj]
      show _ = finL (lowW x N) 0 0 j
      unfold finL lowp
      rw [if_pos (Nat.zero_le _), if_neg (by omega)]
      simp only [Nat.sub_zero]
      rw [lowW_lt hj]
      have e : x j * 2 ^ 0 = x j := by simp
      rw [e, wrap_id _ (hx _), zero_orW _ (hx _)]
    · rw [lowW_ge (by omega), lowW_ge (by omega)]
  · have e : shlA x n = shlL x (n / 64).toNat (n % 64).toNat := by funext j; unfold shlA; rw [if_neg h1]
    rw [e]
    by_cases h6 : 600 < n
    · have ec : clamp n = 600 := by unfold clamp; rw [if_neg (by omega), if_pos h6]
      rw [ec]
      funext j
      by_cases hj : j < N
      · rw [lowW_lt hj, lowW_lt hj]
        unfold shlL finL
        rw [if_neg (by omega), if_neg (by have e9 : ((600 : Int) / 64).toNat = 9 := rfl; omega)]
      · rw [lowW_ge (by omega), lowW_ge (by omega)]
    · have ec : clamp n = n := by unfold clamp; rw [if_neg (by omega), if_neg h6]
      rw [ec]; exact shlL_fin hx _ _
theorem shrA_fin {x : Nat → Int} (hx : Words x) {N : Nat} (hN : N ≤ 8) (n : Int) : lowW (shrA x n N) N = shrW (lowW x N) (clamp n / 64).toNat (clamp n % 64).toNat := by
  by_cases h1 : n < 1
  · have e : shrA x n N = x := by funext j; unfold shrA; rw [if_pos h1]
    have ec : clamp n = 0 := by unfold clamp; split; rfl; rw [if_neg (by omega)]; omega
    rw [e, ec]
    funext j
    show _ = shrW (lowW x N) 0 0 j
    unfold shrW
    rw [if_pos rfl, Nat.zero_add]
  · have e : shrA x n N = shrL x (n / 64).toNat (n % 64).toNat N := by funext j; unfold shrA; rw [if_neg h1]
    rw [e]
    by_cases h6 : 600 < n
    · have ec : clamp n = 600 := by unfold clamp; rw [if_neg (by omega), if_pos h6]
      rw [ec]
      have e9 : ((600 : Int) / 64).toNat = 9 := by decide
      rw [e9]
      funext j
      rw [shrW_zero (n := N) (fun i hi => lowW_ge hi) _ _ j (by omega)]
      by_cases hj : j < N
      · rw [lowW_lt hj]; unfold shrL; rw [if_neg (by omega)]
      · rw [lowW_ge (by omega)]
    · have ec : clamp n = n := by unfold clamp; rw [if_neg (by omega), if_neg h6]
      rw [ec]; exact shrL_fin hx _ _
theorem shlA_words {x : Nat → Int} (hx : Words x) (n : Int) : Words (shlA x n) := fun j => by
  unfold shlA; split
  · exact hx j
  · unfold shlL; split
    · split
      · exact orW_word _ _ (wrap_word _) (div_word _ _ (hx _))
      · exact wrap_word _
    · decide
theorem shrA_words {x : Nat → Int} (hx : Words x) (n : Int) (N : Nat) : Words (shrA x n N) := fun j => by
  unfold shrA; split
  · exact hx j
  · unfold shrL; split
    · split
      · exact orW_word _ _ (div_word _ _ (hx _)) (wrap_word _)
      · exact div_word _ _ (hx _)
    · decide
theorem shlA1 (x : Nat → Int) (n : Int) (w : World) (hx : Words x) (hn2 : n ≤ 9223372036854775807) :
    Calls Try.prog 27 #[.agg (arrOf x 1), .int .i64 n] w fun e w' => e = .returned (.agg (arrOf (shlA x n) 1)) ∧ Below w.heap.size w w' := by
  by_cases h1 : n < 1
  · have e : shlA x n = x := by funext j; unfold shlA; rw [if_pos h1]
    rw [e]; exact limShl1_0 x n w h1
  · have e : shlA x n = shlL x (n / 64).toNat (n % 64).toNat := by funext j; unfold shlA; rw [if_neg h1]
    rw [e]; exact limShl1 x n _ _ w hx (by omega) hn2 (by omega) (by omega) (by omega)
theorem shrA1 (x : Nat → Int) (n : Int) (w : World) (hx : Words x) (hn2 : n ≤ 9223372036854775807) :
    Calls Try.prog 31 #[.agg (arrOf x 1), .int .i64 n] w fun e w' => e = .returned (.agg (arrOf (shrA x n 1) 1)) ∧ Below w.heap.size w w' := by
  by_cases h1 : n < 1
  · have e : shrA x n 1 = x := by funext j; unfold shrA; rw [if_pos h1]
    rw [e]; exact limShr1_0 x n w h1
  · have e : shrA x n 1 = shrL x (n / 64).toNat (n % 64).toNat 1 := by funext j; unfold shrA; rw [if_neg h1]
    rw [e]; exact limShr1 x n _ _ w hx (by omega) hn2 (by omega) (by omega) (by omega)
theorem shlA2 (x : Nat → Int) (n : Int) (w : World) (hx : Words x) (hn2 : n ≤ 9223372036854775807) :
    Calls Try.prog 28 #[.agg (arrOf x 2), .int .i64 n] w fun e w' => e = .returned (.agg (arrOf (shlA x n) 2)) ∧ Below w.heap.size w w' := by
  by_cases h1 : n < 1
  · have e : shlA x n = x := by funext j; unfold shlA; rw [if_pos h1]
    rw [e]; exact limShl2_0 x n w h1
  · have e : shlA x n = shlL x (n / 64).toNat (n % 64).toNat := by funext j; unfold shlA; rw [if_neg h1]
    rw [e]; exact limShl2 x n _ _ w hx (by omega) hn2 (by omega) (by omega) (by omega)
theorem shrA2 (x : Nat → Int) (n : Int) (w : World) (hx : Words x) (hn2 : n ≤ 9223372036854775807) :
    Calls Try.prog 32 #[.agg (arrOf x 2), .int .i64 n] w fun e w' => e = .returned (.agg (arrOf (shrA x n 2) 2)) ∧ Below w.heap.size w w' := by
  by_cases h1 : n < 1
  · have e : shrA x n 2 = x := by funext j; unfold shrA; rw [if_pos h1]
    rw [e]; exact limShr2_0 x n w h1
  · have e : shrA x n 2 = shrL x (n / 64).toNat (n % 64).toNat 2 := by funext j; unfold shrA; rw [if_neg h1]
    rw [e]; exact limShr2 x n _ _ w hx (by omega) hn2 (by omega) (by omega) (by omega)
theorem shlA4 (x : Nat → Int) (n : Int) (w : World) (hx : Words x) (hn2 : n ≤ 9223372036854775807) :
    Calls Try.prog 29 #[.agg (arrOf x 4), .int .i64 n] w fun e w' => e = .returned (.agg (arrOf (shlA x n) 4)) ∧ Below w.heap.size w w' := by
  by_cases h1 : n < 1
  · have e : shlA x n = x := by funext j; unfold shlA; rw [if_pos h1]
    rw [e]; exact limShl4_0 x n w h1
  · have e : shlA x n = shlL x (n / 64).toNat (n % 64).toNat := by funext j; unfold shlA; rw [if_neg h1]
    rw [e]; exact limShl4 x n _ _ w hx (by omega) hn2 (by omega) (by omega) (by omega)
theorem shrA4 (x : Nat → Int) (n : Int) (w : World) (hx : Words x) (hn2 : n ≤ 9223372036854775807) :
    Calls Try.prog 33 #[.agg (arrOf x 4), .int .i64 n] w fun e w' => e = .returned (.agg (arrOf (shrA x n 4) 4)) ∧ Below w.heap.size w w' := by
  by_cases h1 : n < 1
  · have e : shrA x n 4 = x := by funext j; unfold shrA; rw [if_pos h1]
    rw [e]; exact limShr4_0 x n w h1
  · have e : shrA x n 4 = shrL x (n / 64).toNat (n % 64).toNat 4 := by funext j; unfold shrA; rw [if_neg h1]
    rw [e]; exact limShr4 x n _ _ w hx (by omega) hn2 (by omega) (by omega) (by omega)
theorem shlA8 (x : Nat → Int) (n : Int) (w : World) (hx : Words x) (hn2 : n ≤ 9223372036854775807) :
    Calls Try.prog 30 #[.agg (arrOf x 8), .int .i64 n] w fun e w' => e = .returned (.agg (arrOf (shlA x n) 8)) ∧ Below w.heap.size w w' := by
  by_cases h1 : n < 1
  · have e : shlA x n = x := by funext j; unfold shlA; rw [if_pos h1]
    rw [e]; exact limShl8_0 x n w h1
  · have e : shlA x n = shlL x (n / 64).toNat (n % 64).toNat := by funext j; unfold shlA; rw [if_neg h1]
    rw [e]; exact limShl8 x n _ _ w hx (by omega) hn2 (by omega) (by omega) (by omega)
theorem shrA8 (x : Nat → Int) (n : Int) (w : World) (hx : Words x) (hn2 : n ≤ 9223372036854775807) :
    Calls Try.prog 34 #[.agg (arrOf x 8), .int .i64 n] w fun e w' => e = .returned (.agg (arrOf (shrA x n 8) 8)) ∧ Below w.heap.size w w' := by
  by_cases h1 : n < 1
  · have e : shrA x n 8 = x := by funext j; unfold shrA; rw [if_pos h1]
    rw [e]; exact limShr8_0 x n w h1
  · have e : shrA x n 8 = shrL x (n / 64).toNat (n % 64).toNat 8 := by funext j; unfold shrA; rw [if_neg h1]
    rw [e]; exact limShr8 x n _ _ w hx (by omega) hn2 (by omega) (by omega) (by omega)

/-- ref.Left at any distance up to 600 -/
theorem left_any (b off n c : Nat) (s : Int) (x : Nat → Int) (w : World) (hn : n < 1000) (hs : 0 ≤ s ∧ s ≤ 600) (h : Num w (some ⟨b, off, none⟩) n c x) :
    Calls Try.prog 57 #[.slice (some ⟨b, off, none⟩) n c, .int .i64 s] w fun e w' => ∃ g k cap, e = .returned (.slice (some ⟨g, 0, none⟩) k cap) ∧ k < 10000 ∧ Num w' (some ⟨g, 0, none⟩) k cap (finL x (s / 64).toNat (s % 64).toNat) ∧ Below w.heap.size w w' := by
  by_cases hr : s % 64 = 0
  · have e : (s % 64).toNat = 0 := by omega
    rw [e]
    refine (left_z b off n c (s / 64).toNat s x w (by omega) (by omega) (by omega) hr hs.1 h).mono ?_
    rintro e w' ⟨g, k, cap, h1, h2, h3, h4⟩
    exact ⟨g, k, cap, h1, by omega, h3, h4⟩
  · refine (left_p b off n c (s / 64).toNat (s % 64).toNat s x w (by omega) (by omega) (by omega) (by omega) (by omega) (by omega) hs.1 h).mono ?_
    rintro e w' ⟨g, k, cap, h1, h2, h3, h4⟩
    exact ⟨g, k, cap, h1, by omega, h3, h4⟩
theorem right_any (b off n c : Nat) (s : Int) (x : Nat → Int) (w : World) (hn : n < 1000) (hs : 0 ≤ s ∧ s ≤ 600) (h : Num w (some ⟨b, off, none⟩) n c x) :
    Calls Try.prog 59 #[.slice (some ⟨b, off, none⟩) n c, .int .i64 s] w fun e w' => ∃ g k cap z, e = .returned (.tuple #[.slice (some ⟨g, 0, none⟩) k cap, .bool z]) ∧ k ≤ n ∧ Num w' (some ⟨g, 0, none⟩) k cap (shrW x (s / 64).toNat (s % 64).toNat) ∧ Below w.heap.size w w' := by
  by_cases hr : s % 64 = 0
  · have e : (s % 64).toNat = 0 := by omega
    rw [e]
    exact right_z b off n c (s / 64).toNat s x w (by omega) (by omega) (by omega) hr hs.1 h
  · exact right_p b off n c (s / 64).toNat (s % 64).toNat s x w (by omega) (by omega) (by omega) (by omega) (by omega) (by omega) hs.1 h

set_option maxHeartbeats 1000000 in
theorem shifted_has {x : Nat → Int} {n : Int} {w : World} {N c1 b1 c2 b2 b3 m3 c3 : Nat} (hx : Words x) (hN0 : 0 < N) (hN8 : N ≤ 8) (h1 : HasN b1 N (shlA x n) w) (h2 : HasN b2 N (shrA x n N) w) (h3 : HasN b3 m3 x w) (hm3 : N ≤ m3) (hc1 : N ≤ c1) (hc2 : N ≤ c2) (hc3 : N ≤ c3) (q1 : c1 ≤ 8) (q2 : c2 ≤ 8) (q3 : c3 ≤ 8) :
    Calls Try.prog 35 #[.slice (some ⟨b1, 0, none⟩) N c1, .slice (some ⟨b2, 0, none⟩) N c2, .slice (some ⟨b3, 0, none⟩) N c3, .int .i64 n] w fun e w' => e = .returned (.bool true) ∧ Below w.heap.size w w' := by
  have hX := h3.num (n := N) (c := c3) hx hm3 hc3 (by unfold maxLen; omega)
  have HL : Hid (Num w (some ⟨b1, 0, none⟩) N c1 (lowW (shlA x n) N)) := h1.num (shlA_words hx n) (Nat.le_refl _) hc1 (by unfold maxLen; omega)
  have HR : Hid (Num w (some ⟨b2, 0, none⟩) N c2 (lowW (shrA x n N) N)) := h2.num (shrA_words hx n N) (Nat.le_refl _) hc2 (by unfold maxLen; omega)
  have hcl := clamp_range n
  have hLe := left_any b3 0 N c3 (clamp n) _ w (by omega) hcl hX
  have e1 := shlA_fin hx hN8 n
  have e2 := shrA_fin hx hN8 n
  clear h1 h2 h3
  have hmm : min (max n 0) 600 = clamp n := by unfold clamp; omega
  generalize hs : clamp n = s at *
  go_enter Try.func35, Try.ntmps35
  go_wp2_with (go_at_call 57; refine hLe.mono ?_; rintro e wa ⟨g1, k1, cap1, rfl, hk1, hN1, hB1⟩)
  have hcut := cut_any g1 0 k1 cap1 N _ wa (by omega) (by omega) hN1
  clear hLe hN1
  go_wp2_with (go_at_call 52; refine hcut.mono ?_; rintro e wb ⟨g2, k2, cap2, g3, k3, cap3, rfl, hk2, hk3, hN2, hN3, hB2⟩)
  have hB12 : Below w.heap.size w wb := hB1.trans (hB2.mono hB1.size)
  have hRi := right_any b3 0 N c3 s _ wb (by omega) hcl (hX.next hB12)
  clear hcut hN3 hB1 hB2
  go_wp2_with (go_at_call 59; refine hRi.mono ?_; rintro e wc ⟨g4, k4, cap4, z4, rfl, hk4, hN4, hB3⟩)
  have hB : Below w.heap.size w wc := hB12.trans (hB3.mono hB12.size)
  rw [← e1] at hN2
  rw [← e2] at hN4
  have hI1 := is_any (some ⟨b1, 0, none⟩) (some ⟨g2, 0, none⟩) N c1 k2 cap2 _ wc (by omega) (by omega) (HL.out.next hB) (hN2.next hB3)
  have hI2 := is_any (some ⟨b2, 0, none⟩) (some ⟨g4, 0, none⟩) N c2 k4 cap4 _ wc (by omega) (by omega) (HR.out.next hB) hN4
  clear hRi hN2 hN4 HL HR e1 e2 hX hmm hs
  go_wp2_with (go_at_call_of 54 (Value.slice (some { block := b1, off := 0 }) N c1); refine hI1.mono ?_; rintro e w' ⟨rfl, rfl⟩)
  go_wp2_with (go_at_call 54; refine hI2.mono ?_; rintro e w' ⟨rfl, rfl⟩)
  go_ret
  exact ⟨rfl, hB⟩
end Go.Proofs.Ytbbjkpcccimcbaa
