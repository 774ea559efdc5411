/-
  Texts that the proof leans on.
-/
import Derived.Test.YtehgnckgmdkfmaaDoorJ9
set_option linter.unusedSectionVars false
set_option linter.unusedVariables false
set_option linter.unusedSimpArgs false
set_option maxRecDepth 20000
namespace Go.Proofs.YtehgnckgmdkfmaaDoor
open Go.RowKit
section
attribute [local go_sem] setCell_drewN alloc_drewN

set_option maxHeartbeats 1000000 in
theorem limMul4 (x : Nat → Int) (n : Int) (w : World) (hx : Words x) (hn : 0 ≤ n ∧ n ≤ 18446744073709551615) :
    Calls Tryd.prog 44 #[.agg (arrOf x 4), .int .u64 n] w fun e w' => e = .returned (.tuple #[.agg (arrOf (mulP x n) 4), .int .u64 (mulC x n 4)]) ∧ Below w.heap.size w w' := by
  have sx : (arrOf x 4).size = 4 := arrOf_size x 4
  have gx := fun i h => arrOf_get x 4 i h
  generalize arrOf x 4 = ax at *
  go_enter Tryd.func44, Tryd.ntmps44
  go_wp2
  go_loopw [7, 15] (fun c i wr => ∃ (k : Nat) (ss : Array Value), k ≤ 4 ∧ i = .int .i64 k ∧ c = .int .u64 (mulC x n k) ∧ ss.size = 4 ∧ (∀ j h, ss[j]'h = Value.int .u64 (if j < k then mulP x n j else 0)) ∧ wr = ((w.alloc (.cells ax 23)).alloc (.cells #[.int .u64 0, .int .u64 0, .int .u64 0, .int .u64 0] 23)).alloc (.cells ss 23)) (fun _ i _ => 4 - (intOf i).toNat)
  case atStart => exact ⟨0, _, Nat.zero_le _, rfl, rfl, rfl, by intro j h; have h' : j < 4 := h; match j, h' with | 0, _ => rfl | 1, _ => rfl | 2, _ => rfl | 3, _ => rfl, rfl⟩
  case round =>
    obtain ⟨k, ss, hk, rfl, rfl, hsz, hss, rfl⟩ := hrel
    by_cases h8 : k < 4
    · have h8i : (k : Int) < 4 := by omega
      have h8s : k < ss.size := by omega
      have bx := hx k
      have bc := mulC_word hx hn k
      have bc' := mulC_word hx hn (k + 1)
      have hcx : ∀ h, ax[k]'h = .int .u64 (x k) := fun h => gx k h
      have hsk : ss[k]? = some (.int .u64 0) := by rw [Array.getElem?_eq_getElem h8s, hss k h8s, if_neg (by omega)]
      have HR : Hid (∀ (i : Nat) (h : i < (ss.setIfInBounds k (.int .u64 (mulP x n k))).size), (ss.setIfInBounds k (.int .u64 (mulP x n k)))[i]'h = Value.int .u64 (if i < k + 1 then mulP x n i else 0)) := set_next hss
      have hmul := mul64 (x k) n bx hn
      have e1 : mulC x n (k + 1) = x k * n / 18446744073709551616 + (x k * n % 18446744073709551616 + mulC x n k) / 18446744073709551616 := rfl
      have e2 : mulP x n k = (x k * n % 18446744073709551616 + mulC x n k) % 18446744073709551616 := rfl
      rw [e1] at bc'
      have HE1 : Hid (mulC x n (k + 1) = x k * n / 18446744073709551616 + (x k * n % 18446744073709551616 + mulC x n k) / 18446744073709551616) := e1
      have HE2 : Hid (mulP x n k = (x k * n % 18446744073709551616 + mulC x n k) % 18446744073709551616) := e2
      have hP : 0 ≤ x k * n := Int.mul_nonneg bx.1 hn.1
      clear hss gx e1 e2 hx
      generalize x k * n = P at *
      have hL : 0 ≤ P % 18446744073709551616 := by omega
      have hH : 0 ≤ P / 18446744073709551616 := by omega
      generalize P / 18446744073709551616 = hi at *
      generalize P % 18446744073709551616 = lo at *
      generalize hCC : mulC x n k = c at *
      have hadd := fun w => add64z lo c hL bc.1 w
      go_wp2_with (go_at_call 73; refine (hmul _).mono ?_; rintro e w' ⟨rfl, rfl⟩)
      go_roundw
      case rel => refine ⟨k + 1, ss.setIfInBounds k (.int .u64 (mulP x n k)), by omega, by go_num, by rw [HE1.out], by simp [hsz], HR.out, by rw [HE2.out]⟩
      case measure => simp [intOf]; omega
    · obtain rfl : k = 4 := by omega
      have hss' : ∀ j h, ss[j]'h = Value.int .u64 (mulP x n j) := by
        intro j h; rw [hss j h, if_pos (by omega)]
      clear hss
      go_wp2
      exact bodyPost_ret (v := .tuple #[.agg (arrOf (mulP x n) 4), .int .u64 (mulC x n 4)]) (by simp [results, Tryd.results44, go_sem]; rfl) rfl ⟨rfl, below_alloc3 _ _ _ _ 0⟩
set_option maxHeartbeats 1000000 in
theorem limDiv4 (x : Nat → Int) (d : Int) (w : World) (hd : 0 < d ∧ d ≤ 18446744073709551615)
    (H : ∀ j, j < 4 → ∀ w, Calls Tryd.prog 82 #[.int .u64 (remJ x d 4 (4 - 1 - j)), .int .u64 (x j), .int .u64 d] w fun e w' => e = .returned (.tuple #[.int .u64 (quoW x d 4 j), .int .u64 (remJ x d 4 (4 - j))]) ∧ ∃ m, w' = w.drewN m) :
    Calls Tryd.prog 92 #[.agg (arrOf x 4), .int .u64 d] w fun e w' => e = .returned (.tuple #[.agg (arrOf (quoW x d 4) 4), .int .u64 (remJ x d 4 4)]) ∧ Below w.heap.size w w' := by
  have sx : (arrOf x 4).size = 4 := arrOf_size x 4
  have gx := fun i h => arrOf_get x 4 i h
  have hd0 : (d == 0) = false := by simp; omega
  generalize arrOf x 4 = ax at *
  go_enter Tryd.func92, Tryd.ntmps92
  go_wp2
  go_loopw [7, 8, 19] (fun c i u19 wr => ∃ (k m : Nat) (ss : Array Value), k ≤ 4 ∧ i = .int .i64 ((k : Int) - 1) ∧ c = .int .u64 (remJ x d 4 (4 - k)) ∧ ss.size = 4 ∧ (∀ j h, ss[j]'h = Value.int .u64 (if k ≤ j then quoW x d 4 j else 0)) ∧ wr = ((((w.alloc (.cells ax 23)).alloc (.cells #[.int .u64 0, .int .u64 0, .int .u64 0, .int .u64 0] 23)).alloc (.cells ss 23)).drewN m)) (fun _ i _ _ => (intOf i + 1).toNat)
  case atStart => exact ⟨4, 0, _, Nat.le_refl _, rfl, rfl, rfl, by intro j h; have h' : j < 4 := h; match j, h' with | 0, _ => rfl | 1, _ => rfl | 2, _ => rfl | 3, _ => rfl, rfl⟩
  case round =>
    obtain ⟨k, m, ss, hk, rfl, rfl, hsz, hss, rfl⟩ := hrel
    by_cases h0 : k = 0
    · subst h0
      have hss' : ∀ j h, ss[j]'h = Value.int .u64 (quoW x d 4 j) := by
        intro j h; rw [hss j h, if_pos (by omega)]
      clear hss H
      go_wp2
      exact bodyPost_ret (v := .tuple #[.agg (arrOf (quoW x d 4) 4), .int .u64 (remJ x d 4 4)]) (by simp [results, Tryd.results92, go_sem]; rfl) rfl ⟨rfl, below_alloc3 _ _ _ _ _⟩
    · obtain ⟨j, rfl⟩ : ∃ j, k = j + 1 := ⟨k - 1, by omega⟩
      have hj8 : (j : Int) < 4 := by omega
      have ej : ((j + 1 : Nat) : Int) - 1 = j := by omega
      have ej2 : 4 - (j + 1) = 4 - 1 - j := by omega
      rw [ej, ej2]
      have hjs : j < ss.size := by omega
      have hcx : ax[j]? = some (.int .u64 (x j)) := by rw [Array.getElem?_eq_getElem (by omega), gx j (by omega)]
      have HJ := H j (by omega)
      have hsj : ss[j]? = some (.int .u64 0) := by rw [Array.getElem?_eq_getElem hjs, hss j hjs, if_neg (by omega)]
      have hrel1 := set_prev (k := j) (f := quoW x d 4) hss
      have HR : Hid (∀ (i : Nat) (h : i < (ss.setIfInBounds j (.int .u64 (quoW x d 4 j))).size), (ss.setIfInBounds j (.int .u64 (quoW x d 4 j)))[i]'h = Value.int .u64 (if j ≤ i then quoW x d 4 i else 0)) := hrel1
      clear hss H hrel1 ej ej2
      go_wp2_with (go_at_call 82; refine (HJ _).mono ?_; rintro e w' ⟨rfl, m', rfl⟩)
      go_roundw
      case rel => exact ⟨j, m + m', ss.setIfInBounds j (.int .u64 (quoW x d 4 j)), by omega, by go_num, rfl, by simp [hsz], HR.out, rfl⟩
      case measure => simp [intOf]
/-- a product by one word -/
theorem mul4 (A n : Nat) (w : World) (hA : A < 2 ^ 256) (hn : n < 18446744073709551616) :
    Calls Tryd.prog 44 #[A4 A, .int .u64 (n : Int)] w fun e w' => e = .returned (.tuple #[A4 (A * n), .int .u64 ((A * n / 2 ^ 256 : Nat) : Int)]) ∧ Below w.heap.size w w' := by
  refine (limMul4 (W4 A) n w (W4_words A) (by omega)).mono ?_
  rintro e w' ⟨rfl, hb⟩
  refine ⟨?_, hb⟩
  have hs := mul_val (W4 A) (n : Int) 4
  have hv := val_bd (mulP_words (W4 A) (n : Int)) 4
  have hc := mulC_word (W4_words A) (n := (n : Int)) (by omega) 4
  rw [W4_val4 hA] at hs
  have e4 : (18446744073709551616 : Int) ^ 4 = 115792089237316195423570985008687907853269984665640564039457584007913129639936 := by decide
  have e4n : (2 : Nat) ^ 256 = 115792089237316195423570985008687907853269984665640564039457584007913129639936 := by decide
  have hcast : (A : Int) * (n : Int) = ((A * n : Nat) : Int) := by simp
  rw [e4, hcast] at hs
  rw [e4] at hv
  rw [e4n]
  generalize A * n = P at *
  rw [arr_A4 (mulP_words _ _) (A := P) (by rw [e4n]; omega)]
  have : mulC (W4 A) (n : Int) 4 = ((P / 115792089237316195423570985008687907853269984665640564039457584007913129639936 : Nat) : Int) := by omega
  rw [this]
/-- a quotient by one word, and the rest -/
theorem div4 (A d : Nat) (w : World) (hA : A < 2 ^ 256) (hd : 0 < d) (hd' : d < 18446744073709551616) :
    Calls Tryd.prog 92 #[A4 A, .int .u64 (d : Int)] w fun e w' => e = .returned (.tuple #[A4 (A / d), .int .u64 ((A % d : Nat) : Int)]) ∧ Below w.heap.size w w' := by
  have hdi : 0 < (d : Int) ∧ (d : Int) ≤ 18446744073709551615 := by omega
  refine (limDiv4 (W4 A) d w hdi (fun j hj w => limDiv_ok (W4 A) d 4 (W4_words A) hdi j hj w)).mono ?_
  rintro e w' ⟨rfl, hb⟩
  refine ⟨?_, hb⟩
  have hs := div_val (W4 A) (d : Int) 4 4 (Nat.le_refl _)
  have hr := remJ_bd (W4 A) (d : Int) 4 4 hdi.1
  obtain ⟨Q, hQ⟩ : ∃ Q, val (quoW (W4 A) (d : Int) 4) 4 = Q := ⟨_, rfl⟩
  rw [W4_val4 hA, hQ] at hs
  simp only [Nat.sub_self, val, Int.zero_add, Int.pow_zero, Int.mul_one, Int.sub_zero] at hs
  generalize hq : remJ (W4 A) (d : Int) 4 4 = r at *
  have h1 : (A : Int) % (d : Int) = r := by
    rw [← hs, Int.add_mul_emod_self_left, Int.emod_eq_of_lt hr.1 hr.2]
  have h2 : val (quoW (W4 A) (d : Int) 4) 4 = (A : Int) / (d : Int) := by
    rw [hQ]
    have : (A : Int) / (d : Int) = r / (d : Int) + Q := by
      rw [← Int.add_mul_ediv_left r _ (show (d : Int) ≠ 0 by omega)]
      exact congrArg (· / (d : Int)) hs.symm
    rw [this, Int.ediv_eq_zero_of_lt hr.1 hr.2, Int.zero_add]
  have hlt : A / d < 2 ^ 256 := Nat.lt_of_le_of_lt (Nat.div_le_self _ _) hA
  rw [arr_A4 (quoW_words (W4_words A) hdi.1 4) (A := A / d) (by rw [h2, Nat.mod_eq_of_lt hlt]; simp), ← h1]
  simp
end
end Go.Proofs.YtehgnckgmdkfmaaDoor
