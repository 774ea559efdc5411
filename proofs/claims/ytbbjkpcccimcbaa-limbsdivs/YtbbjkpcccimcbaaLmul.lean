/-
  What limbs.Mul does at each width: contracts.
-/
import Derived.Test.YtbbjkpcccimcbaaAdd
import Derived.Test.YtbbjkpcccimcbaaVal
set_option linter.unusedVariables false
set_option linter.unusedSimpArgs false
namespace Go.Proofs.Ytbbjkpcccimcbaa
open Go.RowKit
attribute [local go_sem] setCell_drewN alloc_drewN

theorem mul64 (x y : Int) (hx : 0 ≤ x ∧ x ≤ 18446744073709551615) (hy : 0 ≤ y ∧ y ≤ 18446744073709551615) (w : World) :
    Calls Try.prog 62 #[.int .u64 x, .int .u64 y] w fun e w' => e = .returned (.tuple #[.int .u64 (x * y / 18446744073709551616), .int .u64 (x * y % 18446744073709551616)]) ∧ w' = w := by
  obtain ⟨a, rfl⟩ := Int.eq_ofNat_of_zero_le hx.1
  obtain ⟨b, rfl⟩ := Int.eq_ofNat_of_zero_le hy.1
  have h := Try.bits_Mul64 a b (by omega) (by omega) w
  rw [Int.natCast_ediv, Int.natCast_emod, Int.natCast_mul] at h
  exact h
theorem add64z (x y : Int) (hx : 0 ≤ x) (hy : 0 ≤ y) (w : World) : (callFunc 51 #[.int .u64 x, .int .u64 y, .int .u64 0]).run Try.prog w =
    .ok (.value (.tuple #[.int .u64 ((x + y) % 18446744073709551616), .int .u64 ((x + y) / 18446744073709551616)])) w := by
  simpa using add64 x y 0 hx hy (Int.le_refl 0) (by decide) w

/-- the carry into word k, and the product's words -/
def mulC (x : Nat → Int) (n : Int) : Nat → Int
  | 0 => 0
  | k + 1 => x k * n / 18446744073709551616 + (x k * n % 18446744073709551616 + mulC x n k) / 18446744073709551616
def mulP (x : Nat → Int) (n : Int) (k : Nat) : Int := (x k * n % 18446744073709551616 + mulC x n k) % 18446744073709551616
theorem mul_bd (a b c : Int) (ha : 0 ≤ a ∧ a ≤ 18446744073709551615) (hb : 0 ≤ b ∧ b ≤ 18446744073709551615) (hc : 0 ≤ c ∧ c ≤ 18446744073709551615) : 0 ≤ a * b / 18446744073709551616 + (a * b % 18446744073709551616 + c) / 18446744073709551616 ∧ a * b / 18446744073709551616 + (a * b % 18446744073709551616 + c) / 18446744073709551616 ≤ 18446744073709551615 := by
  have h1 : 0 ≤ a * b := Int.mul_nonneg ha.1 hb.1
  have h2 : a * b ≤ 18446744073709551615 * 18446744073709551615 := Int.mul_le_mul ha.2 hb.2 hb.1 (by decide)
  generalize a * b = P at *
  omega
theorem mulC_word {x : Nat → Int} {n : Int} (hx : Words x) (hn : 0 ≤ n ∧ n ≤ 18446744073709551615) : ∀ k, 0 ≤ mulC x n k ∧ mulC x n k ≤ 18446744073709551615
  | 0 => by simp [mulC]
  | k + 1 => mul_bd _ _ _ (hx k) hn (mulC_word hx hn k)
theorem mulP_words (x : Nat → Int) (n : Int) : Words (mulP x n) := fun i => ⟨Int.emod_nonneg _ (by decide), by have := Int.emod_lt_of_pos (x i * n % 18446744073709551616 + mulC x n i) (b := 18446744073709551616) (by decide); unfold mulP; omega⟩
theorem mul_val (x : Nat → Int) (n : Int) : ∀ k, val (mulP x n) k + mulC x n k * 18446744073709551616 ^ k = val x k * n
  | 0 => by simp [val, mulC]
  | k + 1 => by
    have ih := mul_val x n k
    have e1 : mulP x n k + mulC x n (k + 1) * 18446744073709551616 = x k * n + mulC x n k := by
      simp only [mulP, mulC]; generalize x k * n = P; omega
    simp only [val]
    rw [Int.pow_succ]
    generalize (18446744073709551616 : Int) ^ k = p at *
    generalize mulC x n (k + 1) = c' at *
    generalize mulP x n k = d at *
    have e2 : d = x k * n + mulC x n k - c' * 18446744073709551616 := by omega
    rw [e2]
    grind

set_option maxHeartbeats 1000000 in
theorem limMul1 (x : Nat → Int) (n : Int) (w : World) (hx : Words x) (hn : 0 ≤ n ∧ n ≤ 18446744073709551615) :
    Calls Try.prog 42 #[.agg (arrOf x 1), .int .u64 n] w fun e w' => e = .returned (.tuple #[.agg (arrOf (mulP x n) 1), .int .u64 (mulC x n 1)]) ∧ Below w.heap.size w w' := by
  have sx : (arrOf x 1).size = 1 := arrOf_size x 1
  have gx := fun i h => arrOf_get x 1 i h
  generalize arrOf x 1 = ax at *
  go_enter Try.func42, Try.ntmps42
  go_wp2
  go_loopw [7, 15] (fun c i wr => ∃ (k : Nat) (ss : Array Value), k ≤ 1 ∧ i = .int .i64 k ∧ c = .int .u64 (mulC x n k) ∧ ss.size = 1 ∧ (∀ j h, ss[j]'h = Value.int .u64 (if j < k then mulP x n j else 0)) ∧ wr = ((w.alloc (.cells ax 25)).alloc (.cells #[.int .u64 0] 25)).alloc (.cells ss 25)) (fun _ i _ => 1 - (intOf i).toNat)
  case atStart => exact ⟨0, _, Nat.zero_le _, rfl, rfl, rfl, by intro j h; have h' : j < 1 := h; match j, h' with | 0, _ => rfl, rfl⟩
  case round =>
    obtain ⟨k, ss, hk, rfl, rfl, hsz, hss, rfl⟩ := hrel
    by_cases h8 : k < 1
    · have h8i : (k : Int) < 1 := by omega
      have h8s : k < ss.size := by omega
      have bx := hx k
      have bc := mulC_word hx hn k
      have bc' := mulC_word hx hn (k + 1)
      have hcx : ∀ h, ax[k]'h = .int .u64 (x k) := fun h => gx k h
      have hsk : ss[k]? = some (.int .u64 0) := by rw [Array.getElem?_eq_getElem h8s, hss k h8s, if_neg (by omega)]
      have HR : Hid (∀ (i : Nat) (h : i < (ss.setIfInBounds k (.int .u64 (mulP x n k))).size), (ss.setIfInBounds k (.int .u64 (mulP x n k)))[i]'h = Value.int .u64 (if i < k + 1 then mulP x n i else 0)) := set_next hss
      have hmul := mul64 (x k) n bx hn
      have e1 : mulC x n (k + 1) = x k * n / 18446744073709551616 + (x k * n % 18446744073709551616 + mulC x n k) / 18446744073709551616 := rfl
      have e2 : mulP x n k = (x k * n % 18446744073709551616 + mulC x n k) % 18446744073709551616 := rfl
      rw [e1] at bc'
      have HE1 : Hid (mulC x n (k + 1) = x k * n / 18446744073709551616 + (x k * n % 18446744073709551616 + mulC x n k) / 18446744073709551616) := e1
      have HE2 : Hid (mulP x n k = (x k * n % 18446744073709551616 + mulC x n k) % 18446744073709551616) := e2
      have hP : 0 ≤ x k * n := Int.mul_nonneg bx.1 hn.1
      clear hss gx e1 e2 hx
      generalize x k * n = P at *
      have hL : 0 ≤ P % 18446744073709551616 := by omega
      have hH : 0 ≤ P / 18446744073709551616 := by omega
      generalize P / 18446744073709551616 = hi at *
      generalize P % 18446744073709551616 = lo at *
      generalize hCC : mulC x n k = c at *
      have hadd := fun w => add64z lo c hL bc.1 w
      go_wp2_with (go_at_call 62; refine (hmul _).mono ?_; rintro e w' ⟨rfl, rfl⟩)
      go_roundw
      case rel => refine ⟨k + 1, ss.setIfInBounds k (.int .u64 (mulP x n k)), by omega, by go_num, by rw [HE1.out], by simp [hsz], HR.out, by rw [HE2.out]⟩
      case measure => simp [intOf]; omega
    · obtain rfl : k = 1 := by omega
      have hss' : ∀ j h, ss[j]'h = Value.int .u64 (mulP x n j) := by
        intro j h; rw [hss j h, if_pos (by omega)]
      clear hss
      go_wp2
      exact bodyPost_ret (v := .tuple #[.agg (arrOf (mulP x n) 1), .int .u64 (mulC x n 1)]) (by simp [results, Try.results42, go_sem]; rfl) rfl ⟨rfl, below_alloc3 _ _ _ _ 0⟩

set_option maxHeartbeats 1000000 in
theorem limMul2 (x : Nat → Int) (n : Int) (w : World) (hx : Words x) (hn : 0 ≤ n ∧ n ≤ 18446744073709551615) :
    Calls Try.prog 43 #[.agg (arrOf x 2), .int .u64 n] w fun e w' => e = .returned (.tuple #[.agg (arrOf (mulP x n) 2), .int .u64 (mulC x n 2)]) ∧ Below w.heap.size w w' := by
  have sx : (arrOf x 2).size = 2 := arrOf_size x 2
  have gx := fun i h => arrOf_get x 2 i h
  generalize arrOf x 2 = ax at *
  go_enter Try.func43, Try.ntmps43
  go_wp2
  go_loopw [7, 15] (fun c i wr => ∃ (k : Nat) (ss : Array Value), k ≤ 2 ∧ i = .int .i64 k ∧ c = .int .u64 (mulC x n k) ∧ ss.size = 2 ∧ (∀ j h, ss[j]'h = Value.int .u64 (if j < k then mulP x n j else 0)) ∧ wr = ((w.alloc (.cells ax 28)).alloc (.cells #[.int .u64 0, .int .u64 0] 28)).alloc (.cells ss 28)) (fun _ i _ => 2 - (intOf i).toNat)
  case atStart => exact ⟨0, _, Nat.zero_le _, rfl, rfl, rfl, by intro j h; have h' : j < 2 := h; match j, h' with | 0, _ => rfl | 1, _ => rfl, rfl⟩
  case round =>
    obtain ⟨k, ss, hk, rfl, rfl, hsz, hss, rfl⟩ := hrel
    by_cases h8 : k < 2
    · have h8i : (k : Int) < 2 := by omega
      have h8s : k < ss.size := by omega
      have bx := hx k
      have bc := mulC_word hx hn k
      have bc' := mulC_word hx hn (k + 1)
      have hcx : ∀ h, ax[k]'h = .int .u64 (x k) := fun h => gx k h
      have hsk : ss[k]? = some (.int .u64 0) := by rw [Array.getElem?_eq_getElem h8s, hss k h8s, if_neg (by omega)]
      have HR : Hid (∀ (i : Nat) (h : i < (ss.setIfInBounds k (.int .u64 (mulP x n k))).size), (ss.setIfInBounds k (.int .u64 (mulP x n k)))[i]'h = Value.int .u64 (if i < k + 1 then mulP x n i else 0)) := set_next hss
      have hmul := mul64 (x k) n bx hn
      have e1 : mulC x n (k + 1) = x k * n / 18446744073709551616 + (x k * n % 18446744073709551616 + mulC x n k) / 18446744073709551616 := rfl
      have e2 : mulP x n k = (x k * n % 18446744073709551616 + mulC x n k) % 18446744073709551616 := rfl
      rw [e1] at bc'
      have HE1 : Hid (mulC x n (k + 1) = x k * n / 18446744073709551616 + (x k * n % 18446744073709551616 + mulC x n k) / 18446744073709551616) := e1
      have HE2 : Hid (mulP x n k = (x k * n % 18446744073709551616 + mulC x n k) % 18446744073709551616) := e2
      have hP : 0 ≤ x k * n := Int.mul_nonneg bx.1 hn.1
      clear hss gx e1 e2 hx
      generalize x k * n = P at *
      have hL : 0 ≤ P % 18446744073709551616 := by omega
      have hH : 0 ≤ P / 18446744073709551616 := by omega
      generalize P / 18446744073709551616 = hi at *
      generalize P % 18446744073709551616 = lo at *
      generalize hCC : mulC x n k = c at *
      have hadd := fun w => add64z lo c hL bc.1 w
      go_wp2_with (go_at_call 62; refine (hmul _).mono ?_; rintro e w' ⟨rfl, rfl⟩)
      go_roundw
      case rel => refine ⟨k + 1, ss.setIfInBounds k (.int .u64 (mulP x n k)), by omega, by go_num, by rw [HE1.out], by simp [hsz], HR.out, by rw [HE2.out]⟩
      case measure => simp [intOf]; omega
    · obtain rfl : k = 2 := by omega
      have hss' : ∀ j h, ss[j]'h = Value.int .u64 (mulP x n j) := by
        intro j h; rw [hss j h, if_pos (by omega)]
      clear hss
      go_wp2
      exact bodyPost_ret (v := .tuple #[.agg (arrOf (mulP x n) 2), .int .u64 (mulC x n 2)]) (by simp [results, Try.results43, go_sem]; rfl) rfl ⟨rfl, below_alloc3 _ _ _ _ 0⟩

set_option maxHeartbeats 1000000 in
theorem limMul4 (x : Nat → Int) (n : Int) (w : World) (hx : Words x) (hn : 0 ≤ n ∧ n ≤ 18446744073709551615) :
    Calls Try.prog 44 #[.agg (arrOf x 4), .int .u64 n] w fun e w' => e = .returned (.tuple #[.agg (arrOf (mulP x n) 4), .int .u64 (mulC x n 4)]) ∧ Below w.heap.size w w' := by
  have sx : (arrOf x 4).size = 4 := arrOf_size x 4
  have gx := fun i h => arrOf_get x 4 i h
  generalize arrOf x 4 = ax at *
  go_enter Try.func44, Try.ntmps44
  go_wp2
  go_loopw [7, 15] (fun c i wr => ∃ (k : Nat) (ss : Array Value), k ≤ 4 ∧ i = .int .i64 k ∧ c = .int .u64 (mulC x n k) ∧ ss.size = 4 ∧ (∀ j h, ss[j]'h = Value.int .u64 (if j < k then mulP x n j else 0)) ∧ wr = ((w.alloc (.cells ax 32)).alloc (.cells #[.int .u64 0, .int .u64 0, .int .u64 0, .int .u64 0] 32)).alloc (.cells ss 32)) (fun _ i _ => 4 - (intOf i).toNat)
  case atStart => exact ⟨0, _, Nat.zero_le _, rfl, rfl, rfl, by intro j h; have h' : j < 4 := h; match j, h' with | 0, _ => rfl | 1, _ => rfl | 2, _ => rfl | 3, _ => rfl, rfl⟩
  case round =>
    obtain ⟨k, ss, hk, rfl, rfl, hsz, hss, rfl⟩ := hrel
    by_cases h8 : k < 4
    · have h8i : (k : Int) < 4 := by omega
      have h8s : k < ss.size := by omega
      have bx := hx k
      have bc := mulC_word hx hn k
      have bc' := mulC_word hx hn (k + 1)
      have hcx : ∀ h, ax[k]'h = .int .u64 (x k) := fun h => gx k h
      have hsk : ss[k]? = some (.int .u64 0) := by rw [Array.getElem?_eq_getElem h8s, hss k h8s, if_neg (by omega)]
      have HR : Hid (∀ (i : Nat) (h : i < (ss.setIfInBounds k (.int .u64 (mulP x n k))).size), (ss.setIfInBounds k (.int .u64 (mulP x n k)))[i]'h = Value.int .u64 (if i < k + 1 then mulP x n i else 0)) := set_next hss
      have hmul := mul64 (x k) n bx hn
      have e1 : mulC x n (k + 1) = x k * n / 18446744073709551616 + (x k * n % 18446744073709551616 + mulC x n k) / 18446744073709551616 := rfl
      have e2 : mulP x n k = (x k * n % 18446744073709551616 + mulC x n k) % 18446744073709551616 := rfl
      rw [e1] at bc'
      have HE1 : Hid (mulC x n (k + 1) = x k * n / 18446744073709551616 + (x k * n % 18446744073709551616 + mulC x n k) / 18446744073709551616) := e1
      have HE2 : Hid (mulP x n k = (x k * n % 18446744073709551616 + mulC x n k) % 18446744073709551616) := e2
      have hP : 0 ≤ x k * n := Int.mul_nonneg bx.1 hn.1
      clear hss gx e1 e2 hx
      generalize x k * n = P at *
      have hL : 0 ≤ P % 18446744073709551616 := by omega
      have hH : 0 ≤ P / 18446744073709551616 := by omega
      generalize P / 18446744073709551616 = hi at *
      generalize P % 18446744073709551616 = lo at *
      generalize hCC : mulC x n k = c at *
      have hadd := fun w => add64z lo c hL bc.1 w
      go_wp2_with (go_at_call 62; refine (hmul _).mono ?_; rintro e w' ⟨rfl, rfl⟩)
      go_roundw
      case rel => refine ⟨k + 1, ss.setIfInBounds k (.int .u64 (mulP x n k)), by omega, by go_num, by rw [HE1.out], by simp [hsz], HR.out, by rw [HE2.out]⟩
      case measure => simp [intOf]; omega
    · obtain rfl : k = 4 := by omega
      have hss' : ∀ j h, ss[j]'h = Value.int .u64 (mulP x n j) := by
        intro j h; rw [hss j h, if_pos (by omega)]
      clear hss
      go_wp2
      exact bodyPost_ret (v := .tuple #[.agg (arrOf (mulP x n) 4), .int .u64 (mulC x n 4)]) (by simp [results, Try.results44, go_sem]; rfl) rfl ⟨rfl, below_alloc3 _ _ _ _ 0⟩

set_option maxHeartbeats 1000000 in
theorem limMul8 (x : Nat → Int) (n : Int) (w : World) (hx : Words x) (hn : 0 ≤ n ∧ n ≤ 18446744073709551615) :
    Calls Try.prog 45 #[.agg (arrOf x 8), .int .u64 n] w fun e w' => e = .returned (.tuple #[.agg (arrOf (mulP x n) 8), .int .u64 (mulC x n 8)]) ∧ Below w.heap.size w w' := by
  have sx : (arrOf x 8).size = 8 := arrOf_size x 8
  have gx := fun i h => arrOf_get x 8 i h
  generalize arrOf x 8 = ax at *
  go_enter Try.func45, Try.ntmps45
  go_wp2
  go_loopw [7, 15] (fun c i wr => ∃ (k : Nat) (ss : Array Value), k ≤ 8 ∧ i = .int .i64 k ∧ c = .int .u64 (mulC x n k) ∧ ss.size = 8 ∧ (∀ j h, ss[j]'h = Value.int .u64 (if j < k then mulP x n j else 0)) ∧ wr = ((w.alloc (.cells ax 23)).alloc (.cells #[.int .u64 0, .int .u64 0, .int .u64 0, .int .u64 0, .int .u64 0, .int .u64 0, .int .u64 0, .int .u64 0] 23)).alloc (.cells ss 23)) (fun _ i _ => 8 - (intOf i).toNat)
  case atStart => exact ⟨0, _, Nat.zero_le _, rfl, rfl, rfl, by intro j h; have h' : j < 8 := h; match j, h' with | 0, _ => rfl | 1, _ => rfl | 2, _ => rfl | 3, _ => rfl | 4, _ => rfl | 5, _ => rfl | 6, _ => rfl | 7, _ => rfl, rfl⟩
  case round =>
    obtain ⟨k, ss, hk, rfl, rfl, hsz, hss, rfl⟩ := hrel
    by_cases h8 : k < 8
    · have h8i : (k : Int) < 8 := by omega
      have h8s : k < ss.size := by omega
      have bx := hx k
      have bc := mulC_word hx hn k
      have bc' := mulC_word hx hn (k + 1)
      have hcx : ∀ h, ax[k]'h = .int .u64 (x k) := fun h => gx k h
      have hsk : ss[k]? = some (.int .u64 0) := by rw [Array.getElem?_eq_getElem h8s, hss k h8s, if_neg (by omega)]
      have HR : Hid (∀ (i : Nat) (h : i < (ss.setIfInBounds k (.int .u64 (mulP x n k))).size), (ss.setIfInBounds k (.int .u64 (mulP x n k)))[i]'h = Value.int .u64 (if i < k + 1 then mulP x n i else 0)) := set_next hss
      have hmul := mul64 (x k) n bx hn
      have e1 : mulC x n (k + 1) = x k * n / 18446744073709551616 + (x k * n % 18446744073709551616 + mulC x n k) / 18446744073709551616 := rfl
      have e2 : mulP x n k = (x k * n % 18446744073709551616 + mulC x n k) % 18446744073709551616 := rfl
      rw [e1] at bc'
      have HE1 : Hid (mulC x n (k + 1) = x k * n / 18446744073709551616 + (x k * n % 18446744073709551616 + mulC x n k) / 18446744073709551616) := e1
      have HE2 : Hid (mulP x n k = (x k * n % 18446744073709551616 + mulC x n k) % 18446744073709551616) := e2
      have hP : 0 ≤ x k * n := Int.mul_nonneg bx.1 hn.1
      clear hss gx e1 e2 hx
      generalize x k * n = P at *
      have hL : 0 ≤ P % 18446744073709551616 := by omega
      have hH : 0 ≤ P / 18446744073709551616 := by omega
      generalize P / 18446744073709551616 = hi at *
      generalize P % 18446744073709551616 = lo at *
      generalize hCC : mulC x n k = c at *
      have hadd := fun w => add64z lo c hL bc.1 w
      go_wp2_with (go_at_call 62; refine (hmul _).mono ?_; rintro e w' ⟨rfl, rfl⟩)
      go_roundw
      case rel => refine ⟨k + 1, ss.setIfInBounds k (.int .u64 (mulP x n k)), by omega, by go_num, by rw [HE1.out], by simp [hsz], HR.out, by rw [HE2.out]⟩
      case measure => simp [intOf]; omega
    · obtain rfl : k = 8 := by omega
      have hss' : ∀ j h, ss[j]'h = Value.int .u64 (mulP x n j) := by
        intro j h; rw [hss j h, if_pos (by omega)]
      clear hss
      go_wp2
      exact bodyPost_ret (v := .tuple #[.agg (arrOf (mulP x n) 8), .int .u64 (mulC x n 8)]) (by simp [results, Try.results45, go_sem]; rfl) rfl ⟨rfl, below_alloc3 _ _ _ _ 0⟩
end Go.Proofs.Ytbbjkpcccimcbaa
