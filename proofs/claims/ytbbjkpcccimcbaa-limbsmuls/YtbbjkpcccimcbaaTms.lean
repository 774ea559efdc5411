/-
  What the statements' own times does: a contract.
-/
import Derived.Test.YtbbjkpcccimcbaaTim
import Derived.Test.YtbbjkpcccimcbaaKp
set_option linter.unusedVariables false
set_option linter.unusedSimpArgs false
namespace Go.Proofs.Ytbbjkpcccimcbaa
open Go.RowKit

/-- all the words of the product by one word -/
def prodW (x : Nat → Int) (n : Int) (N i : Nat) : Int := if i < N then mulP x n i else if i = N then mulC x n N else 0
theorem prodW_words {x : Nat → Int} {n : Int} (hx : Words x) (hn : 0 ≤ n ∧ n ≤ 18446744073709551615) (N : Nat) : Words (prodW x n N) := fun i => by
  unfold prodW; split
  · exact mulP_words x n i
  · split
    · exact mulC_word hx hn N
    · decide
theorem prod_is {x z : Nat → Int} {n : Int} {N k : Nat} (hx : Words x) (hn : 0 ≤ n ∧ n ≤ 18446744073709551615) (hz : Words z) (hz0 : ∀ i, N + 1 + 1 ≤ i → z i = 0) (hv : val z (N + 1 + 1) = val (lowW x N) N * val (oneW n) 1) : z = prodW x n N := by
  have h1 : val (prodW x n N) (N + 1 + 1) = val z (N + 1 + 1) := by
    rw [hv]
    have e1 : val (oneW n) 1 = n := by simp [val, oneW]
    have e2 : val (lowW x N) N = val x N := val_congr N fun i hi => by unfold lowW; rw [if_pos hi]
    have e3 : val (prodW x n N) N = val (mulP x n) N := val_congr N fun i hi => by unfold prodW; rw [if_pos hi]
    have e4 : prodW x n N N = mulC x n N := by unfold prodW; rw [if_neg (by omega), if_pos rfl]
    have e5 : prodW x n N (N + 1) = 0 := by unfold prodW; rw [if_neg (by omega), if_neg (by omega)]
    have h := mul_val x n N
    simp only [val] at e1 ⊢
    rw [e2, e3, e4, e5, e1, h]
    simp
  funext i
  rcases Nat.lt_or_ge i (N + 1 + 1) with hi | hi
  · exact (val_inj (prodW_words hx hn N) hz (N + 1 + 1) h1 i hi).symm
  · rw [hz0 i hi]; unfold prodW; rw [if_neg (by omega), if_neg (by omega)]

set_option maxHeartbeats 1000000 in
theorem times_has {x : Nat → Int} {n : Int} {w : World} {N c1 b1 b2 m2 c2 : Nat} (hx : Words x) (hn : 0 ≤ n ∧ n ≤ 18446744073709551615) (hN0 : 0 < N) (hN8 : N ≤ 8) (h1 : HasN b1 N (mulP x n) w) (h2 : HasN b2 m2 x w) (hm2 : N ≤ m2) (hc1 : N ≤ c1) (hc2 : N ≤ c2) (q1 : c1 ≤ 8) (q2 : c2 ≤ 8) :
    Calls Try.prog 46 #[.slice (some ⟨b1, 0, none⟩) N c1, .int .u64 (mulC x n N), .slice (some ⟨b2, 0, none⟩) N c2, .int .u64 n] w fun e w' => e = .returned (.bool true) ∧ Below w.heap.size w w' := by
  have hX := h2.num (n := N) (c := c2) hx hm2 hc2 (by unfold maxLen; omega)
  have HS : Hid (Num w (some ⟨b1, 0, none⟩) N c1 (lowW (mulP x n) N)) := h1.num (mulP_words x n) (Nat.le_refl _) hc1 (by unfold maxLen; omega)
  have hT := times_raw b2 0 N c2 w.heap.size 0 1 1 _ _ (w.alloc (.cells #[.int .u64 n] 22)) (by omega) (by omega) (hX.next (below1 w _)) (num_one w n hn)
  have hC := mulC_word hx hn N
  clear h1 h2 hX
  generalize hCC : mulC x n N = C at *
  go_enter Try.func46, Try.ntmps46
  go_wp2_with (go_at_call 63; refine hT.mono ?_; rintro e w1 ⟨g1, k1, cap1, z, rfl, hk1, hN1, hv, hB1⟩)
  have hB1' : Below w.heap.size w w1 := (below1 w _).trans (hB1.mono (by simp))
  have hz := prod_is (k := k1) hx hn hN1.2.2.1 (fun i hi => hN1.2.2.2.1 i (by omega)) hv
  subst hz
  have hcut := cut_any g1 0 k1 cap1 N _ w1 (by omega) (by omega) hN1
  clear hT hN1 hv
  go_wp2_with (go_at_call 52; refine hcut.mono ?_; rintro e w2 ⟨g2, k2, cap2, g3, k3, cap3, rfl, hk2, hk3, hN2, hN3, hB2⟩)
  have hB : Below w.heap.size w w2 := hB1'.trans (hB2.mono hB1'.size)
  have e1 : lowW (prodW x n N) N = lowW (mulP x n) N := by
    funext i; unfold lowW; split
    · rename_i h; unfold prodW; rw [if_pos h]
    · rfl
  have e2 : (fun j => prodW x n N (N + j)) = oneW C := by
    funext j; unfold prodW oneW; rw [if_neg (by omega)]
    by_cases h : j = 0
    · rw [if_pos (by omega), if_pos h, hCC]
    · rw [if_neg (by omega), if_neg h]
  rw [e1] at hN2
  rw [e2] at hN3
  have hI1 := is_any (some ⟨b1, 0, none⟩) (some ⟨g2, 0, none⟩) N c1 k2 cap2 _ w2 (by omega) (by omega) (HS.out.next hB) hN2
  have hI2 := is_any (some ⟨w2.heap.size, 0, none⟩) (some ⟨g3, 0, none⟩) 1 1 k3 cap3 _ (w2.alloc (.cells #[.int .u64 C] 22)) (by omega) (by omega) (num_one w2 C hC) (hN3.next (below1 w2 _))
  clear hcut hN2 hN3 HS e1 e2 hCC
  go_wp2_with (go_at_call_of 54 (Value.slice (some { block := b1, off := 0 }) N c1); refine hI1.mono ?_; rintro e w' ⟨rfl, rfl⟩)
  go_wp2_with (go_at_call 54; refine hI2.mono ?_; rintro e w' ⟨rfl, rfl⟩)
  go_ret
  exact ⟨rfl, hB.alloc hB.size _⟩
end Go.Proofs.Ytbbjkpcccimcbaa
