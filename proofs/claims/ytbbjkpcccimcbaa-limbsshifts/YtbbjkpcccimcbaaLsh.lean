/-
  What limbs.Shl and limbs.Shr do at each width: contracts.
-/
import Derived.Test.YtbbjkpcccimcbaaLeft
import Derived.BigRegion
set_option linter.unusedVariables false
set_option linter.unusedSimpArgs false
namespace Go.Proofs.Ytbbjkpcccimcbaa
open Go.RowKit
attribute [local go_sem ↓] Go.wp_at_zero Go.wp_at_succ
attribute [local go_sem] setCell_drewN alloc_drewN

/-- the words of x shifted up, as the program lays them -/
def shlL (x : Nat → Int) (q r j : Nat) : Int := if q ≤ j then (if q < j then bits BinOp.or IntKind.u64 (IntKind.u64.wrap (x (j - q) * 2 ^ r)) (x (j - q - 1) / 2 ^ (64 - r)) else IntKind.u64.wrap (x (j - q) * 2 ^ r)) else 0
/-- the words of x shifted down, as the program lays them -/
def shrL (x : Nat → Int) (q r n j : Nat) : Int := if q + j < n then (if q + j + 1 < n then bits BinOp.or IntKind.u64 (x (q + j) / 2 ^ r) (IntKind.u64.wrap (x (q + j + 1) * 2 ^ (64 - r))) else x (q + j) / 2 ^ r) else 0

set_option maxHeartbeats 1000000 in
theorem limShl1 (x : Nat → Int) (n : Int) (q r : Nat) (w : World) (hx : Words x) (hn : 1 ≤ n) (hn2 : n ≤ 9223372036854775807) (hq : n / 64 = q) (hr : n % 64 = r) (hr6 : r < 64) :
    Calls Try.prog 27 #[.agg (arrOf x 1), .int .i64 n] w fun e w' => e = .returned (.agg (arrOf (shlL x q r) 1)) ∧ Below w.heap.size w w' := by
  have sx : (arrOf x 1).size = 1 := arrOf_size x 1
  have gx := fun i h => arrOf_get x 1 i h
  generalize arrOf x 1 = ax at *
  have hn1 : ¬ n < 1 := by omega
  go_enter Try.func27, Try.ntmps27
  go_wp2
  go_loopw [8] (fun i wr => ∃ (j m : Nat) (ss : Array Value), q ≤ j ∧ i = .int .i64 j ∧ (j ≤ 1 ∨ j = q) ∧ ss.size = 1 ∧ (∀ k h, ss[k]'h = Value.int .u64 (if k < j then shlL x q r k else 0)) ∧ wr = ((((w.alloc (.cells ax 25)).alloc (.cells #[.int .u64 0] 25)).alloc (.cells ss 25)).drewN m)) (fun i _ => 1 - (intOf i).toNat)
  case atStart => exact ⟨q, 0, _, Nat.le_refl _, rfl, Or.inr rfl, rfl, by intro k h; have h' : k < 1 := h; by_cases e : k < q; (rw [if_pos e]; unfold shlL; rw [if_neg (by omega)]; match k, h' with | 0, _ => rfl); (rw [if_neg e]; match k, h' with | 0, _ => rfl), rfl⟩
  case round =>
    obtain ⟨j, m, ss, hqj, rfl, hj, hsz, hss, rfl⟩ := hrel
    by_cases h8 : j < 1
    · have h8i : (j : Int) < 1 := by omega
      have h8s : j < ss.size := by omega
      have hqi : (q : Int) ≤ j := by omega
      have e1 : ((j : Int) - q).toNat = j - q := by omega
      have hlt : (j : Int) - q < 1 := by omega
      have hge : 0 ≤ (j : Int) - q := by omega
      have bx := hx (j - q)
      have hcx : ax[j - q]? = some (.int .u64 (x (j - q))) := by rw [Array.getElem?_eq_getElem (by omega), gx _ (by omega)]
      have hsk : ss[j]? = some (.int .u64 0) := by rw [Array.getElem?_eq_getElem h8s, hss j h8s, if_neg (by omega)]
      have HR : Hid (∀ (i : Nat) (h : i < (ss.setIfInBounds j (.int .u64 (shlL x q r j))).size), (ss.setIfInBounds j (.int .u64 (shlL x q r j)))[i]'h = Value.int .u64 (if i < j + 1 then shlL x q r i else 0)) := set_next hss
      by_cases hqq : q < j
      · omega
      · have hqq' : ¬ (q : Int) < j := by omega
        have HV : Hid (shlL x q r j = IntKind.u64.wrap (x (j - q) * 2 ^ r)) := by show _ = _; unfold shlL; rw [if_pos hqj, if_neg hqq]
        clear hss gx hx
        go_wp2
        go_roundw
        case rel => refine ⟨j + 1, m, ss.setIfInBounds j (.int .u64 (shlL x q r j)), by omega, by go_num, Or.inl (by omega), by simp [hsz], HR.out, ?_⟩; rw [HV.out]
        case measure => simp [intOf]; omega
    · have h8i : ¬ (j : Int) < 1 := by omega
      have hss' : ∀ k h, ss[k]'h = Value.int .u64 (shlL x q r k) := by
        intro k h; rw [hss k h, if_pos (by omega)]
      clear hss gx
      go_wp2
      exact bodyPost_ret (v := .agg (arrOf (shlL x q r) 1)) (by simp [results, Try.results27, go_sem]; rfl) rfl ⟨rfl, below_alloc3 _ _ _ _ _⟩
set_option maxHeartbeats 400000 in
theorem limShl1_0 (x : Nat → Int) (n : Int) (w : World) (hn : n < 1) :
    Calls Try.prog 27 #[.agg (arrOf x 1), .int .i64 n] w fun e w' => e = .returned (.agg (arrOf x 1)) ∧ Below w.heap.size w w' := by
  have sx : (arrOf x 1).size = 1 := arrOf_size x 1
  have gx := fun i h => arrOf_get x 1 i h
  have hl : arrOf x 1 = #[.int .u64 (x 0)] := rfl
  rw [hl]
  rw [hl] at sx gx
  clear gx sx
  go_enter Try.func27, Try.ntmps27
  go_wp2
  exact bodyPost_ret (v := .agg #[.int .u64 (x 0)]) (by simp [results, Try.results27, go_sem]) rfl ⟨rfl, ((Below.refl _ _).alloc (Nat.le_refl _) _).alloc (by simp) _⟩

set_option maxHeartbeats 1000000 in
theorem limShr1 (x : Nat → Int) (n : Int) (q r : Nat) (w : World) (hx : Words x) (hn : 1 ≤ n) (hn2 : n ≤ 9223372036854775807) (hq : n / 64 = q) (hr : n % 64 = r) (hr6 : r < 64) :
    Calls Try.prog 31 #[.agg (arrOf x 1), .int .i64 n] w fun e w' => e = .returned (.agg (arrOf (shrL x q r 1) 1)) ∧ Below w.heap.size w w' := by
  have sx : (arrOf x 1).size = 1 := arrOf_size x 1
  have gx := fun i h => arrOf_get x 1 i h
  generalize arrOf x 1 = ax at *
  have hn1 : ¬ n < 1 := by omega
  go_enter Try.func31, Try.ntmps31
  go_wp2
  go_loopw [8] (fun i wr => ∃ (j m : Nat) (ss : Array Value), q ≤ j ∧ i = .int .i64 j ∧ (j ≤ 1 ∨ j = q) ∧ ss.size = 1 ∧ (∀ k h, ss[k]'h = Value.int .u64 (if k < j - q then shrL x q r 1 k else 0)) ∧ wr = ((((w.alloc (.cells ax 25)).alloc (.cells #[.int .u64 0] 25)).alloc (.cells ss 25)).drewN m)) (fun i _ => 1 - (intOf i).toNat)
  case atStart => exact ⟨q, 0, _, Nat.le_refl _, rfl, Or.inr rfl, rfl, by intro k h; have h' : k < 1 := h; rw [if_neg (by omega)]; match k, h' with | 0, _ => rfl, rfl⟩
  case round =>
    obtain ⟨j, m, ss, hqj, rfl, hj, hsz, hss, rfl⟩ := hrel
    by_cases h8 : j < 1
    · have h8i : (j : Int) < 1 := by omega
      have h8s : j - q < ss.size := by omega
      have hqi : (q : Int) ≤ j := by omega
      have e1 : ((j : Int) - q).toNat = j - q := by omega
      have hlt : (j : Int) - q < 1 := by omega
      have hge : 0 ≤ (j : Int) - q := by omega
      have bx := hx j
      have hcx : ax[j]? = some (.int .u64 (x j)) := by rw [Array.getElem?_eq_getElem (by omega), gx _ (by omega)]
      have hcx' : ∀ h, ax[j]'h = .int .u64 (x j) := fun h => gx j h
      have hsk : ss[j - q]? = some (.int .u64 0) := by rw [Array.getElem?_eq_getElem h8s, hss _ h8s, if_neg (by omega)]
      have HR0 : ∀ (i : Nat) (h : i < (ss.setIfInBounds (j - q) (.int .u64 (shrL x q r 1 (j - q)))).size), (ss.setIfInBounds (j - q) (.int .u64 (shrL x q r 1 (j - q))))[i]'h = Value.int .u64 (if i < (j - q) + 1 then shrL x q r 1 i else 0) := set_next hss
      have HR : Hid (∀ (i : Nat) (h : i < (ss.setIfInBounds (j - q) (.int .u64 (shrL x q r 1 (j - q)))).size), (ss.setIfInBounds (j - q) (.int .u64 (shrL x q r 1 (j - q))))[i]'h = Value.int .u64 (if i < j + 1 - q then shrL x q r 1 i else 0)) := by
        intro i h; rw [HR0 i h, show j - q + 1 = j + 1 - q by omega]
      clear HR0
      have ejq : q + (j - q) = j := by omega
      have hget : ∀ v : Value, (ss.setIfInBounds (j - q) v)[j - q]? = some v := fun v => by rw [Array.getElem?_setIfInBounds_self_of_lt h8s]
      by_cases hqq : j + 1 < 1
      · omega
      · have hqq' : ¬ (j : Int) + 1 < 1 := by omega
        have HV : Hid (shrL x q r 1 (j - q) = x j / 2 ^ r) := by show _ = _; unfold shrL; rw [ejq, if_pos h8, if_neg hqq]
        clear hss gx hx ejq
        go_wp2
        go_roundw
        case rel => refine ⟨j + 1, m, ss.setIfInBounds (j - q) (.int .u64 (shrL x q r 1 (j - q))), by omega, by go_num, Or.inl (by omega), by simp [hsz], HR.out, ?_⟩; rw [HV.out]
        case measure => simp [intOf]; omega
    · have h8i : ¬ (j : Int) < 1 := by omega
      have hss' : ∀ k h, ss[k]'h = Value.int .u64 (shrL x q r 1 k) := by
        intro k h; rw [hss k h]
        split
        · rfl
        · unfold shrL; rw [if_neg (by omega)]
      clear hss gx
      go_wp2
      exact bodyPost_ret (v := .agg (arrOf (shrL x q r 1) 1)) (by simp [results, Try.results31, go_sem]; rfl) rfl ⟨rfl, below_alloc3 _ _ _ _ _⟩
set_option maxHeartbeats 400000 in
theorem limShr1_0 (x : Nat → Int) (n : Int) (w : World) (hn : n < 1) :
    Calls Try.prog 31 #[.agg (arrOf x 1), .int .i64 n] w fun e w' => e = .returned (.agg (arrOf x 1)) ∧ Below w.heap.size w w' := by
  have sx : (arrOf x 1).size = 1 := arrOf_size x 1
  have gx := fun i h => arrOf_get x 1 i h
  have hl : arrOf x 1 = #[.int .u64 (x 0)] := rfl
  rw [hl]
  rw [hl] at sx gx
  clear gx sx
  go_enter Try.func31, Try.ntmps31
  go_wp2
  exact bodyPost_ret (v := .agg #[.int .u64 (x 0)]) (by simp [results, Try.results31, go_sem]) rfl ⟨rfl, ((Below.refl _ _).alloc (Nat.le_refl _) _).alloc (by simp) _⟩

set_option maxHeartbeats 1000000 in
theorem limShl2 (x : Nat → Int) (n : Int) (q r : Nat) (w : World) (hx : Words x) (hn : 1 ≤ n) (hn2 : n ≤ 9223372036854775807) (hq : n / 64 = q) (hr : n % 64 = r) (hr6 : r < 64) :
    Calls Try.prog 28 #[.agg (arrOf x 2), .int .i64 n] w fun e w' => e = .returned (.agg (arrOf (shlL x q r) 2)) ∧ Below w.heap.size w w' := by
  have sx : (arrOf x 2).size = 2 := arrOf_size x 2
  have gx := fun i h => arrOf_get x 2 i h
  generalize arrOf x 2 = ax at *
  have hn1 : ¬ n < 1 := by omega
  go_enter Try.func28, Try.ntmps28
  go_wp2
  go_loopw [8] (fun i wr => ∃ (j m : Nat) (ss : Array Value), q ≤ j ∧ i = .int .i64 j ∧ (j ≤ 2 ∨ j = q) ∧ ss.size = 2 ∧ (∀ k h, ss[k]'h = Value.int .u64 (if k < j then shlL x q r k else 0)) ∧ wr = ((((w.alloc (.cells ax 28)).alloc (.cells #[.int .u64 0, .int .u64 0] 28)).alloc (.cells ss 28)).drewN m)) (fun i _ => 2 - (intOf i).toNat)
  case atStart => exact ⟨q, 0, _, Nat.le_refl _, rfl, Or.inr rfl, rfl, by intro k h; have h' : k < 2 := h; by_cases e : k < q; (rw [if_pos e]; unfold shlL; rw [if_neg (by omega)]; match k, h' with | 0, _ => rfl | 1, _ => rfl); (rw [if_neg e]; match k, h' with | 0, _ => rfl | 1, _ => rfl), rfl⟩
  case round =>
    obtain ⟨j, m, ss, hqj, rfl, hj, hsz, hss, rfl⟩ := hrel
    by_cases h8 : j < 2
    · have h8i : (j : Int) < 2 := by omega
      have h8s : j < ss.size := by omega
      have hqi : (q : Int) ≤ j := by omega
      have e1 : ((j : Int) - q).toNat = j - q := by omega
      have hlt : (j : Int) - q < 2 := by omega
      have hge : 0 ≤ (j : Int) - q := by omega
      have bx := hx (j - q)
      have hcx : ax[j - q]? = some (.int .u64 (x (j - q))) := by rw [Array.getElem?_eq_getElem (by omega), gx _ (by omega)]
      have hsk : ss[j]? = some (.int .u64 0) := by rw [Array.getElem?_eq_getElem h8s, hss j h8s, if_neg (by omega)]
      have HR : Hid (∀ (i : Nat) (h : i < (ss.setIfInBounds j (.int .u64 (shlL x q r j))).size), (ss.setIfInBounds j (.int .u64 (shlL x q r j)))[i]'h = Value.int .u64 (if i < j + 1 then shlL x q r i else 0)) := set_next hss
      by_cases hqq : q < j
      · have hqq' : (q : Int) < j := by omega
        have e2 : ((j : Int) - q - 1).toNat = j - q - 1 := by omega
        have hlt2 : (j : Int) - q - 1 < 2 := by omega
        have hge2 : 0 ≤ (j : Int) - q - 1 := by omega
        have bx2 := hx (j - q - 1)
        have hcx2 : ax[j - q - 1]? = some (.int .u64 (x (j - q - 1))) := by rw [Array.getElem?_eq_getElem (by omega), gx _ (by omega)]
        have HV : Hid (shlL x q r j = bits BinOp.or IntKind.u64 (IntKind.u64.wrap (x (j - q) * 2 ^ r)) (x (j - q - 1) / 2 ^ (64 - r))) := by show _ = _; unfold shlL; rw [if_pos hqj, if_pos hqq]
        clear hss gx hx
        go_wp2
        go_region
        go_wp2
        go_roundw
        case rel => refine ⟨j + 1, m + 1, ss.setIfInBounds j (.int .u64 (shlL x q r j)), by omega, by go_num, Or.inl (by omega), by simp [hsz], HR.out, ?_⟩; rw [HV.out]
        case measure => simp [intOf]; omega
      · have hqq' : ¬ (q : Int) < j := by omega
        have HV : Hid (shlL x q r j = IntKind.u64.wrap (x (j - q) * 2 ^ r)) := by show _ = _; unfold shlL; rw [if_pos hqj, if_neg hqq]
        clear hss gx hx
        go_wp2
        go_roundw
        case rel => refine ⟨j + 1, m, ss.setIfInBounds j (.int .u64 (shlL x q r j)), by omega, by go_num, Or.inl (by omega), by simp [hsz], HR.out, ?_⟩; rw [HV.out]
        case measure => simp [intOf]; omega
    · have h8i : ¬ (j : Int) < 2 := by omega
      have hss' : ∀ k h, ss[k]'h = Value.int .u64 (shlL x q r k) := by
        intro k h; rw [hss k h, if_pos (by omega)]
      clear hss gx
      go_wp2
      exact bodyPost_ret (v := .agg (arrOf (shlL x q r) 2)) (by simp [results, Try.results28, go_sem]; rfl) rfl ⟨rfl, below_alloc3 _ _ _ _ _⟩
set_option maxHeartbeats 400000 in
theorem limShl2_0 (x : Nat → Int) (n : Int) (w : World) (hn : n < 1) :
    Calls Try.prog 28 #[.agg (arrOf x 2), .int .i64 n] w fun e w' => e = .returned (.agg (arrOf x 2)) ∧ Below w.heap.size w w' := by
  have sx : (arrOf x 2).size = 2 := arrOf_size x 2
  have gx := fun i h => arrOf_get x 2 i h
  have hl : arrOf x 2 = #[.int .u64 (x 0), .int .u64 (x 1)] := rfl
  rw [hl]
  rw [hl] at sx gx
  clear gx sx
  go_enter Try.func28, Try.ntmps28
  go_wp2
  exact bodyPost_ret (v := .agg #[.int .u64 (x 0), .int .u64 (x 1)]) (by simp [results, Try.results28, go_sem]) rfl ⟨rfl, ((Below.refl _ _).alloc (Nat.le_refl _) _).alloc (by simp) _⟩

set_option maxHeartbeats 1000000 in
theorem limShr2 (x : Nat → Int) (n : Int) (q r : Nat) (w : World) (hx : Words x) (hn : 1 ≤ n) (hn2 : n ≤ 9223372036854775807) (hq : n / 64 = q) (hr : n % 64 = r) (hr6 : r < 64) :
    Calls Try.prog 32 #[.agg (arrOf x 2), .int .i64 n] w fun e w' => e = .returned (.agg (arrOf (shrL x q r 2) 2)) ∧ Below w.heap.size w w' := by
  have sx : (arrOf x 2).size = 2 := arrOf_size x 2
  have gx := fun i h => arrOf_get x 2 i h
  generalize arrOf x 2 = ax at *
  have hn1 : ¬ n < 1 := by omega
  go_enter Try.func32, Try.ntmps32
  go_wp2
  go_loopw [8] (fun i wr => ∃ (j m : Nat) (ss : Array Value), q ≤ j ∧ i = .int .i64 j ∧ (j ≤ 2 ∨ j = q) ∧ ss.size = 2 ∧ (∀ k h, ss[k]'h = Value.int .u64 (if k < j - q then shrL x q r 2 k else 0)) ∧ wr = ((((w.alloc (.cells ax 28)).alloc (.cells #[.int .u64 0, .int .u64 0] 28)).alloc (.cells ss 28)).drewN m)) (fun i _ => 2 - (intOf i).toNat)
  case atStart => exact ⟨q, 0, _, Nat.le_refl _, rfl, Or.inr rfl, rfl, by intro k h; have h' : k < 2 := h; rw [if_neg (by omega)]; match k, h' with | 0, _ => rfl | 1, _ => rfl, rfl⟩
  case round =>
    obtain ⟨j, m, ss, hqj, rfl, hj, hsz, hss, rfl⟩ := hrel
    by_cases h8 : j < 2
    · have h8i : (j : Int) < 2 := by omega
      have h8s : j - q < ss.size := by omega
      have hqi : (q : Int) ≤ j := by omega
      have e1 : ((j : Int) - q).toNat = j - q := by omega
      have hlt : (j : Int) - q < 2 := by omega
      have hge : 0 ≤ (j : Int) - q := by omega
      have bx := hx j
      have hcx : ax[j]? = some (.int .u64 (x j)) := by rw [Array.getElem?_eq_getElem (by omega), gx _ (by omega)]
      have hcx' : ∀ h, ax[j]'h = .int .u64 (x j) := fun h => gx j h
      have hsk : ss[j - q]? = some (.int .u64 0) := by rw [Array.getElem?_eq_getElem h8s, hss _ h8s, if_neg (by omega)]
      have HR0 : ∀ (i : Nat) (h : i < (ss.setIfInBounds (j - q) (.int .u64 (shrL x q r 2 (j - q)))).size), (ss.setIfInBounds (j - q) (.int .u64 (shrL x q r 2 (j - q))))[i]'h = Value.int .u64 (if i < (j - q) + 1 then shrL x q r 2 i else 0) := set_next hss
      have HR : Hid (∀ (i : Nat) (h : i < (ss.setIfInBounds (j - q) (.int .u64 (shrL x q r 2 (j - q)))).size), (ss.setIfInBounds (j - q) (.int .u64 (shrL x q r 2 (j - q))))[i]'h = Value.int .u64 (if i < j + 1 - q then shrL x q r 2 i else 0)) := by
        intro i h; rw [HR0 i h, show j - q + 1 = j + 1 - q by omega]
      clear HR0
      have ejq : q + (j - q) = j := by omega
      have hget : ∀ v : Value, (ss.setIfInBounds (j - q) v)[j - q]? = some v := fun v => by rw [Array.getElem?_setIfInBounds_self_of_lt h8s]
      by_cases hqq : j + 1 < 2
      · have hqq' : (j : Int) + 1 < 2 := by omega
        have bx2 := hx (j + 1)
        have e2 : ((j : Int) + 1).toNat = j + 1 := by omega
        have hcx2 : ax[j + 1]? = some (.int .u64 (x (j + 1))) := by rw [Array.getElem?_eq_getElem (by omega), gx _ (by omega)]
        have hcx2' : ∀ h, ax[j + 1]'h = .int .u64 (x (j + 1)) := fun h => gx (j + 1) h
        have HV : Hid (shrL x q r 2 (j - q) = bits BinOp.or IntKind.u64 (x j / 2 ^ r) (IntKind.u64.wrap (x (j + 1) * 2 ^ (64 - r)))) := by show _ = _; unfold shrL; rw [ejq, if_pos h8, if_pos hqq]
        clear hss gx hx ejq
        go_wp2
        go_region
        go_wp2
        go_roundw
        case rel => refine ⟨j + 1, m + 1, ss.setIfInBounds (j - q) (.int .u64 (shrL x q r 2 (j - q))), by omega, by go_num, Or.inl (by omega), by simp [hsz], HR.out, ?_⟩; rw [HV.out]
        case measure => simp [intOf]; omega
      · have hqq' : ¬ (j : Int) + 1 < 2 := by omega
        have HV : Hid (shrL x q r 2 (j - q) = x j / 2 ^ r) := by show _ = _; unfold shrL; rw [ejq, if_pos h8, if_neg hqq]
        clear hss gx hx ejq
        go_wp2
        go_roundw
        case rel => refine ⟨j + 1, m, ss.setIfInBounds (j - q) (.int .u64 (shrL x q r 2 (j - q))), by omega, by go_num, Or.inl (by omega), by simp [hsz], HR.out, ?_⟩; rw [HV.out]
        case measure => simp [intOf]; omega
    · have h8i : ¬ (j : Int) < 2 := by omega
      have hss' : ∀ k h, ss[k]'h = Value.int .u64 (shrL x q r 2 k) := by
        intro k h; rw [hss k h]
        split
        · rfl
        · unfold shrL; rw [if_neg (by omega)]
      clear hss gx
      go_wp2
      exact bodyPost_ret (v := .agg (arrOf (shrL x q r 2) 2)) (by simp [results, Try.results32, go_sem]; rfl) rfl ⟨rfl, below_alloc3 _ _ _ _ _⟩
set_option maxHeartbeats 400000 in
theorem limShr2_0 (x : Nat → Int) (n : Int) (w : World) (hn : n < 1) :
    Calls Try.prog 32 #[.agg (arrOf x 2), .int .i64 n] w fun e w' => e = .returned (.agg (arrOf x 2)) ∧ Below w.heap.size w w' := by
  have sx : (arrOf x 2).size = 2 := arrOf_size x 2
  have gx := fun i h => arrOf_get x 2 i h
  have hl : arrOf x 2 = #[.int .u64 (x 0), .int .u64 (x 1)] := rfl
  rw [hl]
  rw [hl] at sx gx
  clear gx sx
  go_enter Try.func32, Try.ntmps32
  go_wp2
  exact bodyPost_ret (v := .agg #[.int .u64 (x 0), .int .u64 (x 1)]) (by simp [results, Try.results32, go_sem]) rfl ⟨rfl, ((Below.refl _ _).alloc (Nat.le_refl _) _).alloc (by simp) _⟩

set_option maxHeartbeats 1000000 in
theorem limShl4 (x : Nat → Int) (n : Int) (q r : Nat) (w : World) (hx : Words x) (hn : 1 ≤ n) (hn2 : n ≤ 9223372036854775807) (hq : n / 64 = q) (hr : n % 64 = r) (hr6 : r < 64) :
    Calls Try.prog 29 #[.agg (arrOf x 4), .int .i64 n] w fun e w' => e = .returned (.agg (arrOf (shlL x q r) 4)) ∧ Below w.heap.size w w' := by
  have sx : (arrOf x 4).size = 4 := arrOf_size x 4
  have gx := fun i h => arrOf_get x 4 i h
  generalize arrOf x 4 = ax at *
  have hn1 : ¬ n < 1 := by omega
  go_enter Try.func29, Try.ntmps29
  go_wp2
  go_loopw [8] (fun i wr => ∃ (j m : Nat) (ss : Array Value), q ≤ j ∧ i = .int .i64 j ∧ (j ≤ 4 ∨ j = q) ∧ ss.size = 4 ∧ (∀ k h, ss[k]'h = Value.int .u64 (if k < j then shlL x q r k else 0)) ∧ wr = ((((w.alloc (.cells ax 32)).alloc (.cells #[.int .u64 0, .int .u64 0, .int .u64 0, .int .u64 0] 32)).alloc (.cells ss 32)).drewN m)) (fun i _ => 4 - (intOf i).toNat)
  case atStart => exact ⟨q, 0, _, Nat.le_refl _, rfl, Or.inr rfl, rfl, by intro k h; have h' : k < 4 := h; by_cases e : k < q; (rw [if_pos e]; unfold shlL; rw [if_neg (by omega)]; match k, h' with | 0, _ => rfl | 1, _ => rfl | 2, _ => rfl | 3, _ => rfl); (rw [if_neg e]; match k, h' with | 0, _ => rfl | 1, _ => rfl | 2, _ => rfl | 3, _ => rfl), rfl⟩
  case round =>
    obtain ⟨j, m, ss, hqj, rfl, hj, hsz, hss, rfl⟩ := hrel
    by_cases h8 : j < 4
    · have h8i : (j : Int) < 4 := by omega
      have h8s : j < ss.size := by omega
      have hqi : (q : Int) ≤ j := by omega
      have e1 : ((j : Int) - q).toNat = j - q := by omega
      have hlt : (j : Int) - q < 4 := by omega
      have hge : 0 ≤ (j : Int) - q := by omega
      have bx := hx (j - q)
      have hcx : ax[j - q]? = some (.int .u64 (x (j - q))) := by rw [Array.getElem?_eq_getElem (by omega), gx _ (by omega)]
      have hsk : ss[j]? = some (.int .u64 0) := by rw [Array.getElem?_eq_getElem h8s, hss j h8s, if_neg (by omega)]
      have HR : Hid (∀ (i : Nat) (h : i < (ss.setIfInBounds j (.int .u64 (shlL x q r j))).size), (ss.setIfInBounds j (.int .u64 (shlL x q r j)))[i]'h = Value.int .u64 (if i < j + 1 then shlL x q r i else 0)) := set_next hss
      by_cases hqq : q < j
      · have hqq' : (q : Int) < j := by omega
        have e2 : ((j : Int) - q - 1).toNat = j - q - 1 := by omega
        have hlt2 : (j : Int) - q - 1 < 4 := by omega
        have hge2 : 0 ≤ (j : Int) - q - 1 := by omega
        have bx2 := hx (j - q - 1)
        have hcx2 : ax[j - q - 1]? = some (.int .u64 (x (j - q - 1))) := by rw [Array.getElem?_eq_getElem (by omega), gx _ (by omega)]
        have HV : Hid (shlL x q r j = bits BinOp.or IntKind.u64 (IntKind.u64.wrap (x (j - q) * 2 ^ r)) (x (j - q - 1) / 2 ^ (64 - r))) := by show _ = _; unfold shlL; rw [if_pos hqj, if_pos hqq]
        clear hss gx hx
        go_wp2
        go_region
        go_wp2
        go_roundw
        case rel => refine ⟨j + 1, m + 1, ss.setIfInBounds j (.int .u64 (shlL x q r j)), by omega, by go_num, Or.inl (by omega), by simp [hsz], HR.out, ?_⟩; rw [HV.out]
        case measure => simp [intOf]; omega
      · have hqq' : ¬ (q : Int) < j := by omega
        have HV : Hid (shlL x q r j = IntKind.u64.wrap (x (j - q) * 2 ^ r)) := by show _ = _; unfold shlL; rw [if_pos hqj, if_neg hqq]
        clear hss gx hx
        go_wp2
        go_roundw
        case rel => refine ⟨j + 1, m, ss.setIfInBounds j (.int .u64 (shlL x q r j)), by omega, by go_num, Or.inl (by omega), by simp [hsz], HR.out, ?_⟩; rw [HV.out]
        case measure => simp [intOf]; omega
    · have h8i : ¬ (j : Int) < 4 := by omega
      have hss' : ∀ k h, ss[k]'h = Value.int .u64 (shlL x q r k) := by
        intro k h; rw [hss k h, if_pos (by omega)]
      clear hss gx
      go_wp2
      exact bodyPost_ret (v := .agg (arrOf (shlL x q r) 4)) (by simp [results, Try.results29, go_sem]; rfl) rfl ⟨rfl, below_alloc3 _ _ _ _ _⟩
set_option maxHeartbeats 400000 in
theorem limShl4_0 (x : Nat → Int) (n : Int) (w : World) (hn : n < 1) :
    Calls Try.prog 29 #[.agg (arrOf x 4), .int .i64 n] w fun e w' => e = .returned (.agg (arrOf x 4)) ∧ Below w.heap.size w w' := by
  have sx : (arrOf x 4).size = 4 := arrOf_size x 4
  have gx := fun i h => arrOf_get x 4 i h
  have hl : arrOf x 4 = #[.int .u64 (x 0), .int .u64 (x 1), .int .u64 (x 2), .int .u64 (x 3)] := rfl
  rw [hl]
  rw [hl] at sx gx
  clear gx sx
  go_enter Try.func29, Try.ntmps29
  go_wp2
  exact bodyPost_ret (v := .agg #[.int .u64 (x 0), .int .u64 (x 1), .int .u64 (x 2), .int .u64 (x 3)]) (by simp [results, Try.results29, go_sem]) rfl ⟨rfl, ((Below.refl _ _).alloc (Nat.le_refl _) _).alloc (by simp) _⟩

set_option maxHeartbeats 1000000 in
theorem limShr4 (x : Nat → Int) (n : Int) (q r : Nat) (w : World) (hx : Words x) (hn : 1 ≤ n) (hn2 : n ≤ 9223372036854775807) (hq : n / 64 = q) (hr : n % 64 = r) (hr6 : r < 64) :
    Calls Try.prog 33 #[.agg (arrOf x 4), .int .i64 n] w fun e w' => e = .returned (.agg (arrOf (shrL x q r 4) 4)) ∧ Below w.heap.size w w' := by
  have sx : (arrOf x 4).size = 4 := arrOf_size x 4
  have gx := fun i h => arrOf_get x 4 i h
  generalize arrOf x 4 = ax at *
  have hn1 : ¬ n < 1 := by omega
  go_enter Try.func33, Try.ntmps33
  go_wp2
  go_loopw [8] (fun i wr => ∃ (j m : Nat) (ss : Array Value), q ≤ j ∧ i = .int .i64 j ∧ (j ≤ 4 ∨ j = q) ∧ ss.size = 4 ∧ (∀ k h, ss[k]'h = Value.int .u64 (if k < j - q then shrL x q r 4 k else 0)) ∧ wr = ((((w.alloc (.cells ax 32)).alloc (.cells #[.int .u64 0, .int .u64 0, .int .u64 0, .int .u64 0] 32)).alloc (.cells ss 32)).drewN m)) (fun i _ => 4 - (intOf i).toNat)
  case atStart => exact ⟨q, 0, _, Nat.le_refl _, rfl, Or.inr rfl, rfl, by intro k h; have h' : k < 4 := h; rw [if_neg (by omega)]; match k, h' with | 0, _ => rfl | 1, _ => rfl | 2, _ => rfl | 3, _ => rfl, rfl⟩
  case round =>
    obtain ⟨j, m, ss, hqj, rfl, hj, hsz, hss, rfl⟩ := hrel
    by_cases h8 : j < 4
    · have h8i : (j : Int) < 4 := by omega
      have h8s : j - q < ss.size := by omega
      have hqi : (q : Int) ≤ j := by omega
      have e1 : ((j : Int) - q).toNat = j - q := by omega
      have hlt : (j : Int) - q < 4 := by omega
      have hge : 0 ≤ (j : Int) - q := by omega
      have bx := hx j
      have hcx : ax[j]? = some (.int .u64 (x j)) := by rw [Array.getElem?_eq_getElem (by omega), gx _ (by omega)]
      have hcx' : ∀ h, ax[j]'h = .int .u64 (x j) := fun h => gx j h
      have hsk : ss[j - q]? = some (.int .u64 0) := by rw [Array.getElem?_eq_getElem h8s, hss _ h8s, if_neg (by omega)]
      have HR0 : ∀ (i : Nat) (h : i < (ss.setIfInBounds (j - q) (.int .u64 (shrL x q r 4 (j - q)))).size), (ss.setIfInBounds (j - q) (.int .u64 (shrL x q r 4 (j - q))))[i]'h = Value.int .u64 (if i < (j - q) + 1 then shrL x q r 4 i else 0) := set_next hss
      have HR : Hid (∀ (i : Nat) (h : i < (ss.setIfInBounds (j - q) (.int .u64 (shrL x q r 4 (j - q)))).size), (ss.setIfInBounds (j - q) (.int .u64 (shrL x q r 4 (j - q))))[i]'h = Value.int .u64 (if i < j + 1 - q then shrL x q r 4 i else 0)) := by
        intro i h; rw [HR0 i h, show j - q + 1 = j + 1 - q by omega]
      clear HR0
      have ejq : q + (j - q) = j := by omega
      have hget : ∀ v : Value, (ss.setIfInBounds (j - q) v)[j - q]? = some v := fun v => by rw [Array.getElem?_setIfInBounds_self_of_lt h8s]
      by_cases hqq : j + 1 < 4
      · have hqq' : (j : Int) + 1 < 4 := by omega
        have bx2 := hx (j + 1)
        have e2 : ((j : Int) + 1).toNat = j + 1 := by omega
        have hcx2 : ax[j + 1]? = some (.int .u64 (x (j + 1))) := by rw [Array.getElem?_eq_getElem (by omega), gx _ (by omega)]
        have hcx2' : ∀ h, ax[j + 1]'h = .int .u64 (x (j + 1)) := fun h => gx (j + 1) h
        have HV : Hid (shrL x q r 4 (j - q) = bits BinOp.or IntKind.u64 (x j / 2 ^ r) (IntKind.u64.wrap (x (j + 1) * 2 ^ (64 - r)))) := by show _ = _; unfold shrL; rw [ejq, if_pos h8, if_pos hqq]
        clear hss gx hx ejq
        go_wp2
        go_region
        go_wp2
        go_roundw
        case rel => refine ⟨j + 1, m + 1, ss.setIfInBounds (j - q) (.int .u64 (shrL x q r 4 (j - q))), by omega, by go_num, Or.inl (by omega), by simp [hsz], HR.out, ?_⟩; rw [HV.out]
        case measure => simp [intOf]; omega
      · have hqq' : ¬ (j : Int) + 1 < 4 := by omega
        have HV : Hid (shrL x q r 4 (j - q) = x j / 2 ^ r) := by show _ = _; unfold shrL; rw [ejq, if_pos h8, if_neg hqq]
        clear hss gx hx ejq
        go_wp2
        go_roundw
        case rel => refine ⟨j + 1, m, ss.setIfInBounds (j - q) (.int .u64 (shrL x q r 4 (j - q))), by omega, by go_num, Or.inl (by omega), by simp [hsz], HR.out, ?_⟩; rw [HV.out]
        case measure => simp [intOf]; omega
    · have h8i : ¬ (j : Int) < 4 := by omega
      have hss' : ∀ k h, ss[k]'h = Value.int .u64 (shrL x q r 4 k) := by
        intro k h; rw [hss k h]
        split
        · rfl
        · unfold shrL; rw [if_neg (by omega)]
      clear hss gx
      go_wp2
      exact bodyPost_ret (v := .agg (arrOf (shrL x q r 4) 4)) (by simp [results, Try.results33, go_sem]; rfl) rfl ⟨rfl, below_alloc3 _ _ _ _ _⟩
set_option maxHeartbeats 400000 in
theorem limShr4_0 (x : Nat → Int) (n : Int) (w : World) (hn : n < 1) :
    Calls Try.prog 33 #[.agg (arrOf x 4), .int .i64 n] w fun e w' => e = .returned (.agg (arrOf x 4)) ∧ Below w.heap.size w w' := by
  have sx : (arrOf x 4).size = 4 := arrOf_size x 4
  have gx := fun i h => arrOf_get x 4 i h
  have hl : arrOf x 4 = #[.int .u64 (x 0), .int .u64 (x 1), .int .u64 (x 2), .int .u64 (x 3)] := rfl
  rw [hl]
  rw [hl] at sx gx
  clear gx sx
  go_enter Try.func33, Try.ntmps33
  go_wp2
  exact bodyPost_ret (v := .agg #[.int .u64 (x 0), .int .u64 (x 1), .int .u64 (x 2), .int .u64 (x 3)]) (by simp [results, Try.results33, go_sem]) rfl ⟨rfl, ((Below.refl _ _).alloc (Nat.le_refl _) _).alloc (by simp) _⟩

set_option maxHeartbeats 1000000 in
theorem limShl8 (x : Nat → Int) (n : Int) (q r : Nat) (w : World) (hx : Words x) (hn : 1 ≤ n) (hn2 : n ≤ 9223372036854775807) (hq : n / 64 = q) (hr : n % 64 = r) (hr6 : r < 64) :
    Calls Try.prog 30 #[.agg (arrOf x 8), .int .i64 n] w fun e w' => e = .returned (.agg (arrOf (shlL x q r) 8)) ∧ Below w.heap.size w w' := by
  have sx : (arrOf x 8).size = 8 := arrOf_size x 8
  have gx := fun i h => arrOf_get x 8 i h
  generalize arrOf x 8 = ax at *
  have hn1 : ¬ n < 1 := by omega
  go_enter Try.func30, Try.ntmps30
  go_wp2
  go_loopw [8] (fun i wr => ∃ (j m : Nat) (ss : Array Value), q ≤ j ∧ i = .int .i64 j ∧ (j ≤ 8 ∨ j = q) ∧ ss.size = 8 ∧ (∀ k h, ss[k]'h = Value.int .u64 (if k < j then shlL x q r k else 0)) ∧ wr = ((((w.alloc (.cells ax 23)).alloc (.cells #[.int .u64 0, .int .u64 0, .int .u64 0, .int .u64 0, .int .u64 0, .int .u64 0, .int .u64 0, .int .u64 0] 23)).alloc (.cells ss 23)).drewN m)) (fun i _ => 8 - (intOf i).toNat)
  case atStart => exact ⟨q, 0, _, Nat.le_refl _, rfl, Or.inr rfl, rfl, by intro k h; have h' : k < 8 := h; by_cases e : k < q; (rw [if_pos e]; unfold shlL; rw [if_neg (by omega)]; match k, h' with | 0, _ => rfl | 1, _ => rfl | 2, _ => rfl | 3, _ => rfl | 4, _ => rfl | 5, _ => rfl | 6, _ => rfl | 7, _ => rfl); (rw [if_neg e]; match k, h' with | 0, _ => rfl | 1, _ => rfl | 2, _ => rfl | 3, _ => rfl | 4, _ => rfl | 5, _ => rfl | 6, _ => rfl | 7, _ => rfl), rfl⟩
  case round =>
    obtain ⟨j, m, ss, hqj, rfl, hj, hsz, hss, rfl⟩ := hrel
    by_cases h8 : j < 8
    · have h8i : (j : Int) < 8 := by omega
      have h8s : j < ss.size := by omega
      have hqi : (q : Int) ≤ j := by omega
      have e1 : ((j : Int) - q).toNat = j - q := by omega
      have hlt : (j : Int) - q < 8 := by omega
      have hge : 0 ≤ (j : Int) - q := by omega
      have bx := hx (j - q)
      have hcx : ax[j - q]? = some (.int .u64 (x (j - q))) := by rw [Array.getElem?_eq_getElem (by omega), gx _ (by omega)]
      have hsk : ss[j]? = some (.int .u64 0) := by rw [Array.getElem?_eq_getElem h8s, hss j h8s, if_neg (by omega)]
      have HR : Hid (∀ (i : Nat) (h : i < (ss.setIfInBounds j (.int .u64 (shlL x q r j))).size), (ss.setIfInBounds j (.int .u64 (shlL x q r j)))[i]'h = Value.int .u64 (if i < j + 1 then shlL x q r i else 0)) := set_next hss
      by_cases hqq : q < j
      · have hqq' : (q : Int) < j := by omega
        have e2 : ((j : Int) - q - 1).toNat = j - q - 1 := by omega
        have hlt2 : (j : Int) - q - 1 < 8 := by omega
        have hge2 : 0 ≤ (j : Int) - q - 1 := by omega
        have bx2 := hx (j - q - 1)
        have hcx2 : ax[j - q - 1]? = some (.int .u64 (x (j - q - 1))) := by rw [Array.getElem?_eq_getElem (by omega), gx _ (by omega)]
        have HV : Hid (shlL x q r j = bits BinOp.or IntKind.u64 (IntKind.u64.wrap (x (j - q) * 2 ^ r)) (x (j - q - 1) / 2 ^ (64 - r))) := by show _ = _; unfold shlL; rw [if_pos hqj, if_pos hqq]
        clear hss gx hx
        go_wp2
        go_region
        go_wp2
        go_roundw
        case rel => refine ⟨j + 1, m + 1, ss.setIfInBounds j (.int .u64 (shlL x q r j)), by omega, by go_num, Or.inl (by omega), by simp [hsz], HR.out, ?_⟩; rw [HV.out]
        case measure => simp [intOf]; omega
      · have hqq' : ¬ (q : Int) < j := by omega
        have HV : Hid (shlL x q r j = IntKind.u64.wrap (x (j - q) * 2 ^ r)) := by show _ = _; unfold shlL; rw [if_pos hqj, if_neg hqq]
        clear hss gx hx
        go_wp2
        go_roundw
        case rel => refine ⟨j + 1, m, ss.setIfInBounds j (.int .u64 (shlL x q r j)), by omega, by go_num, Or.inl (by omega), by simp [hsz], HR.out, ?_⟩; rw [HV.out]
        case measure => simp [intOf]; omega
    · have h8i : ¬ (j : Int) < 8 := by omega
      have hss' : ∀ k h, ss[k]'h = Value.int .u64 (shlL x q r k) := by
        intro k h; rw [hss k h, if_pos (by omega)]
      clear hss gx
      go_wp2
      exact bodyPost_ret (v := .agg (arrOf (shlL x q r) 8)) (by simp [results, Try.results30, go_sem]; rfl) rfl ⟨rfl, below_alloc3 _ _ _ _ _⟩
set_option maxHeartbeats 400000 in
theorem limShl8_0 (x : Nat → Int) (n : Int) (w : World) (hn : n < 1) :
    Calls Try.prog 30 #[.agg (arrOf x 8), .int .i64 n] w fun e w' => e = .returned (.agg (arrOf x 8)) ∧ Below w.heap.size w w' := by
  have sx : (arrOf x 8).size = 8 := arrOf_size x 8
  have gx := fun i h => arrOf_get x 8 i h
  have hl : arrOf x 8 = #[.int .u64 (x 0), .int .u64 (x 1), .int .u64 (x 2), .int .u64 (x 3), .int .u64 (x 4), .int .u64 (x 5), .int .u64 (x 6), .int .u64 (x 7)] := rfl
  rw [hl]
  rw [hl] at sx gx
  clear gx sx
  go_enter Try.func30, Try.ntmps30
  go_wp2
  exact bodyPost_ret (v := .agg #[.int .u64 (x 0), .int .u64 (x 1), .int .u64 (x 2), .int .u64 (x 3), .int .u64 (x 4), .int .u64 (x 5), .int .u64 (x 6), .int .u64 (x 7)]) (by simp [results, Try.results30, go_sem]) rfl ⟨rfl, ((Below.refl _ _).alloc (Nat.le_refl _) _).alloc (by simp) _⟩

set_option maxHeartbeats 1000000 in
theorem limShr8 (x : Nat → Int) (n : Int) (q r : Nat) (w : World) (hx : Words x) (hn : 1 ≤ n) (hn2 : n ≤ 9223372036854775807) (hq : n / 64 = q) (hr : n % 64 = r) (hr6 : r < 64) :
    Calls Try.prog 34 #[.agg (arrOf x 8), .int .i64 n] w fun e w' => e = .returned (.agg (arrOf (shrL x q r 8) 8)) ∧ Below w.heap.size w w' := by
  have sx : (arrOf x 8).size = 8 := arrOf_size x 8
  have gx := fun i h => arrOf_get x 8 i h
  generalize arrOf x 8 = ax at *
  have hn1 : ¬ n < 1 := by omega
  go_enter Try.func34, Try.ntmps34
  go_wp2
  go_loopw [8] (fun i wr => ∃ (j m : Nat) (ss : Array Value), q ≤ j ∧ i = .int .i64 j ∧ (j ≤ 8 ∨ j = q) ∧ ss.size = 8 ∧ (∀ k h, ss[k]'h = Value.int .u64 (if k < j - q then shrL x q r 8 k else 0)) ∧ wr = ((((w.alloc (.cells ax 23)).alloc (.cells #[.int .u64 0, .int .u64 0, .int .u64 0, .int .u64 0, .int .u64 0, .int .u64 0, .int .u64 0, .int .u64 0] 23)).alloc (.cells ss 23)).drewN m)) (fun i _ => 8 - (intOf i).toNat)
  case atStart => exact ⟨q, 0, _, Nat.le_refl _, rfl, Or.inr rfl, rfl, by intro k h; have h' : k < 8 := h; rw [if_neg (by omega)]; match k, h' with | 0, _ => rfl | 1, _ => rfl | 2, _ => rfl | 3, _ => rfl | 4, _ => rfl | 5, _ => rfl | 6, _ => rfl | 7, _ => rfl, rfl⟩
  case round =>
    obtain ⟨j, m, ss, hqj, rfl, hj, hsz, hss, rfl⟩ := hrel
    by_cases h8 : j < 8
    · have h8i : (j : Int) < 8 := by omega
      have h8s : j - q < ss.size := by omega
      have hqi : (q : Int) ≤ j := by omega
      have e1 : ((j : Int) - q).toNat = j - q := by omega
      have hlt : (j : Int) - q < 8 := by omega
      have hge : 0 ≤ (j : Int) - q := by omega
      have bx := hx j
      have hcx : ax[j]? = some (.int .u64 (x j)) := by rw [Array.getElem?_eq_getElem (by omega), gx _ (by omega)]
      have hcx' : ∀ h, ax[j]'h = .int .u64 (x j) := fun h => gx j h
      have hsk : ss[j - q]? = some (.int .u64 0) := by rw [Array.getElem?_eq_getElem h8s, hss _ h8s, if_neg (by omega)]
      have HR0 : ∀ (i : Nat) (h : i < (ss.setIfInBounds (j - q) (.int .u64 (shrL x q r 8 (j - q)))).size), (ss.setIfInBounds (j - q) (.int .u64 (shrL x q r 8 (j - q))))[i]'h = Value.int .u64 (if i < (j - q) + 1 then shrL x q r 8 i else 0) := set_next hss
      have HR : Hid (∀ (i : Nat) (h : i < (ss.setIfInBounds (j - q) (.int .u64 (shrL x q r 8 (j - q)))).size), (ss.setIfInBounds (j - q) (.int .u64 (shrL x q r 8 (j - q))))[i]'h = Value.int .u64 (if i < j + 1 - q then shrL x q r 8 i else 0)) := by
        intro i h; rw [HR0 i h, show j - q + 1 = j + 1 - q by omega]
      clear HR0
      have ejq : q + (j - q) = j := by omega
      have hget : ∀ v : Value, (ss.setIfInBounds (j - q) v)[j - q]? = some v := fun v => by rw [Array.getElem?_setIfInBounds_self_of_lt h8s]
      by_cases hqq : j + 1 < 8
      · have hqq' : (j : Int) + 1 < 8 := by omega
        have bx2 := hx (j + 1)
        have e2 : ((j : Int) + 1).toNat = j + 1 := by omega
        have hcx2 : ax[j + 1]? = some (.int .u64 (x (j + 1))) := by rw [Array.getElem?_eq_getElem (by omega), gx _ (by omega)]
        have hcx2' : ∀ h, ax[j + 1]'h = .int .u64 (x (j + 1)) := fun h => gx (j + 1) h
        have HV : Hid (shrL x q r 8 (j - q) = bits BinOp.or IntKind.u64 (x j / 2 ^ r) (IntKind.u64.wrap (x (j + 1) * 2 ^ (64 - r)))) := by show _ = _; unfold shrL; rw [ejq, if_pos h8, if_pos hqq]
        clear hss gx hx ejq
        go_wp2
        go_region
        go_wp2
        go_roundw
        case rel => refine ⟨j + 1, m + 1, ss.setIfInBounds (j - q) (.int .u64 (shrL x q r 8 (j - q))), by omega, by go_num, Or.inl (by omega), by simp [hsz], HR.out, ?_⟩; rw [HV.out]
        case measure => simp [intOf]; omega
      · have hqq' : ¬ (j : Int) + 1 < 8 := by omega
        have HV : Hid (shrL x q r 8 (j - q) = x j / 2 ^ r) := by show _ = _; unfold shrL; rw [ejq, if_pos h8, if_neg hqq]
        clear hss gx hx ejq
        go_wp2
        go_roundw
        case rel => refine ⟨j + 1, m, ss.setIfInBounds (j - q) (.int .u64 (shrL x q r 8 (j - q))), by omega, by go_num, Or.inl (by omega), by simp [hsz], HR.out, ?_⟩; rw [HV.out]
        case measure => simp [intOf]; omega
    · have h8i : ¬ (j : Int) < 8 := by omega
      have hss' : ∀ k h, ss[k]'h = Value.int .u64 (shrL x q r 8 k) := by
        intro k h; rw [hss k h]
        split
        · rfl
        · unfold shrL; rw [if_neg (by omega)]
      clear hss gx
      go_wp2
      exact bodyPost_ret (v := .agg (arrOf (shrL x q r 8) 8)) (by simp [results, Try.results34, go_sem]; rfl) rfl ⟨rfl, below_alloc3 _ _ _ _ _⟩
set_option maxHeartbeats 400000 in
theorem limShr8_0 (x : Nat → Int) (n : Int) (w : World) (hn : n < 1) :
    Calls Try.prog 34 #[.agg (arrOf x 8), .int .i64 n] w fun e w' => e = .returned (.agg (arrOf x 8)) ∧ Below w.heap.size w w' := by
  have sx : (arrOf x 8).size = 8 := arrOf_size x 8
  have gx := fun i h => arrOf_get x 8 i h
  have hl : arrOf x 8 = #[.int .u64 (x 0), .int .u64 (x 1), .int .u64 (x 2), .int .u64 (x 3), .int .u64 (x 4), .int .u64 (x 5), .int .u64 (x 6), .int .u64 (x 7)] := rfl
  rw [hl]
  rw [hl] at sx gx
  clear gx sx
  go_enter Try.func34, Try.ntmps34
  go_wp2
  exact bodyPost_ret (v := .agg #[.int .u64 (x 0), .int .u64 (x 1), .int .u64 (x 2), .int .u64 (x 3), .int .u64 (x 4), .int .u64 (x 5), .int .u64 (x 6), .int .u64 (x 7)]) (by simp [results, Try.results34, go_sem]) rfl ⟨rfl, ((Below.refl _ _).alloc (Nat.le_refl _) _).alloc (by simp) _⟩
end Go.Proofs.Ytbbjkpcccimcbaa
