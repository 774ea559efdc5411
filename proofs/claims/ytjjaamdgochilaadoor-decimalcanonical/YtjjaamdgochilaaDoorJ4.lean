/-
  Texts that the proof leans on, joined: Lm4, Up, Dvm, Dvn.
-/
import Derived.Test.YtjjaamdgochilaaDoorJ3
import Derived.Test.YtjjaamdgochilaaDoorJ2
import Derived.BigRegion
import Derived.WalkKit
import Derived.Lib.BitFns
set_option linter.unusedSectionVars false
set_option linter.unusedVariables false
set_option linter.unusedSimpArgs false
set_option maxRecDepth 20000
namespace Go.Proofs.YtjjaamdgochilaaDoor
open Go.RowKit
attribute [local go_sem ↓] Go.wp_at_zero Go.wp_at_succ
attribute [local go_sem] setCell_drewN alloc_drewN

theorem limAdd4 (x y : Nat → Int) (w : World) (hx : Words x) (hy : Words y) :
    Calls Tryd.prog 43 #[.agg (arrOf x 4), .agg (arrOf y 4)] w fun e w' => e = .returned (.tuple #[.agg (arrOf (sumW x y) 4), .int .u64 (carryW x y 4)]) ∧ Below w.heap.size w w' := by
  have sx : (arrOf x 4).size = 4 := arrOf_size x 4
  have sy : (arrOf y 4).size = 4 := arrOf_size y 4
  have gx := fun i h => arrOf_get x 4 i h
  have gy := fun i h => arrOf_get y 4 i h
  generalize arrOf x 4 = ax at *
  generalize arrOf y 4 = ay at *
  go_enter Tryd.func43, Tryd.ntmps43
  go_wp2
  go_loopw [7, 8, 11, 14] (fun c u8 i u14 wr => ∃ (k m : Nat) (ss : Array Value), k ≤ 4 ∧ i = .int .i64 k ∧ c = .int .u64 (carryW x y k) ∧ ss.size = 4 ∧ (∀ j h, ss[j]'h = Value.int .u64 (if j < k then sumW x y j else 0)) ∧ wr = (((((w.alloc (.cells ax 23)).alloc (.cells ay 23)).alloc (.cells #[.int .u64 0, .int .u64 0, .int .u64 0, .int .u64 0] 23)).alloc (.cells ss 23)).drewN m)) (fun _ _ i _ _ => 4 - (intOf i).toNat)
  case atStart => exact ⟨0, 0, _, Nat.zero_le _, rfl, rfl, rfl, by intro j h; have h' : j < 4 := h; match j, h' with | 0, _ => rfl | 1, _ => rfl | 2, _ => rfl | 3, _ => rfl, rfl⟩
  case round =>
    obtain ⟨k, m, ss, hk, rfl, rfl, hsz, hss, rfl⟩ := hrel
    have hcar := carryW_01 hx hy k
    by_cases h8 : k < 4
    · have h8i : (k : Int) < 4 := by omega
      have h8s : k < ss.size := by omega
      have bx := hx k
      have b_y := hy k
      have hcx : (ax[k]'(by omega)) = .int .u64 (x k) := gx k _
      have hcy : (ay[k]'(by omega)) = .int .u64 (y k) := gy k _
      have hadd := fun w => add64 (x k) (y k) (carryW x y k) bx.1 b_y.1 hcar.1 hcar.2 w
      go_wp2
      go_region_held3 (fun w' => w'.cell? ⟨w.heap.size, k, none⟩ = some (.int .u64 (x k)) ∧ w'.cell? ⟨w.heap.size + 1, k, none⟩ = some (.int .u64 (y k))) ((simp [go_sem, hcx, hcy, sx, sy, h8])) (fail)
      go_wp2
      go_roundw
      case rel => exact ⟨k + 1, m + 1, ss.setIfInBounds k (.int .u64 (sumW x y k)), by omega, by go_num, rfl, by simp [hsz], set_next hss, rfl⟩
      case measure => simp [intOf]; omega
    · obtain rfl : k = 4 := by omega
      have hss' : ∀ j h, ss[j]'h = Value.int .u64 (sumW x y j) := by
        intro j h; rw [hss j h, if_pos (by omega)]
      clear hss
      go_wp2
      exact bodyPost_ret (v := .tuple #[.agg (arrOf (sumW x y) 4), .int .u64 (carryW x y 4)]) (by simp [results, Tryd.results43, go_sem]; rfl) rfl ⟨rfl, below_alloc4 _ _ _ _ _ _⟩

theorem limSub4 (x y : Nat → Int) (w : World) (hx : Words x) (hy : Words y) :
    Calls Tryd.prog 67 #[.agg (arrOf x 4), .agg (arrOf y 4)] w fun e w' => e = .returned (.tuple #[.agg (arrOf (difW x y) 4), .int .u64 (borW x y 4)]) ∧ Below w.heap.size w w' := by
  have sx : (arrOf x 4).size = 4 := arrOf_size x 4
  have sy : (arrOf y 4).size = 4 := arrOf_size y 4
  have gx := fun i h => arrOf_get x 4 i h
  have gy := fun i h => arrOf_get y 4 i h
  generalize arrOf x 4 = ax at *
  generalize arrOf y 4 = ay at *
  go_enter Tryd.func67, Tryd.ntmps67
  go_wp2
  go_loopw [7, 8, 11, 14] (fun c u8 i u14 wr => ∃ (k m : Nat) (ss : Array Value), k ≤ 4 ∧ i = .int .i64 k ∧ c = .int .u64 (borW x y k) ∧ ss.size = 4 ∧ (∀ j h, ss[j]'h = Value.int .u64 (if j < k then difW x y j else 0)) ∧ wr = (((((w.alloc (.cells ax 23)).alloc (.cells ay 23)).alloc (.cells #[.int .u64 0, .int .u64 0, .int .u64 0, .int .u64 0] 23)).alloc (.cells ss 23)).drewN m)) (fun _ _ i _ _ => 4 - (intOf i).toNat)
  case atStart => exact ⟨0, 0, _, Nat.zero_le _, rfl, rfl, rfl, by intro j h; have h' : j < 4 := h; match j, h' with | 0, _ => rfl | 1, _ => rfl | 2, _ => rfl | 3, _ => rfl, rfl⟩
  case round =>
    obtain ⟨k, m, ss, hk, rfl, rfl, hsz, hss, rfl⟩ := hrel
    have hcar := borW_01 x y k
    by_cases h8 : k < 4
    · have h8i : (k : Int) < 4 := by omega
      have h8s : k < ss.size := by omega
      have bx := hx k
      have b_y := hy k
      have hcx : (ax[k]'(by omega)) = .int .u64 (x k) := gx k _
      have hcy : (ay[k]'(by omega)) = .int .u64 (y k) := gy k _
      have hadd := fun w => sub64 (x k) (y k) (borW x y k) bx.1 b_y.1 (by omega) hcar.1 hcar.2 w
      go_wp2
      go_region_held3 (fun w' => w'.cell? ⟨w.heap.size, k, none⟩ = some (.int .u64 (x k)) ∧ w'.cell? ⟨w.heap.size + 1, k, none⟩ = some (.int .u64 (y k))) ((simp [go_sem, hcx, hcy, sx, sy, h8])) (fail)
      go_wp2
      go_roundw
      case rel => exact ⟨k + 1, m + 1, ss.setIfInBounds k (.int .u64 (difW x y k)), by omega, by go_num, rfl, by simp [hsz], set_next hss, rfl⟩
      case measure => simp [intOf]; omega
    · obtain rfl : k = 4 := by omega
      have hss' : ∀ j h, ss[j]'h = Value.int .u64 (difW x y j) := by
        intro j h; rw [hss j h, if_pos (by omega)]
      clear hss
      go_wp2
      exact bodyPost_ret (v := .tuple #[.agg (arrOf (difW x y) 4), .int .u64 (borW x y 4)]) (by simp [results, Tryd.results67, go_sem]; rfl) rfl ⟨rfl, below_alloc4 _ _ _ _ _ _⟩

def shlL (x : Nat → Int) (q r j : Nat) : Int := if q ≤ j then (if q < j then bits BinOp.or IntKind.u64 (IntKind.u64.wrap (x (j - q) * 2 ^ r)) (x (j - q - 1) / 2 ^ (64 - r)) else IntKind.u64.wrap (x (j - q) * 2 ^ r)) else 0
def shrL (x : Nat → Int) (q r n j : Nat) : Int := if q + j < n then (if q + j + 1 < n then bits BinOp.or IntKind.u64 (x (q + j) / 2 ^ r) (IntKind.u64.wrap (x (q + j + 1) * 2 ^ (64 - r))) else x (q + j) / 2 ^ r) else 0

theorem limShl4 (x : Nat → Int) (n : Int) (q r : Nat) (w : World) (hx : Words x) (hn : 1 ≤ n) (hn2 : n ≤ 9223372036854775807) (hq : n / 64 = q) (hr : n % 64 = r) (hr6 : r < 64) :
    Calls Tryd.prog 56 #[.agg (arrOf x 4), .int .i64 n] w fun e w' => e = .returned (.agg (arrOf (shlL x q r) 4)) ∧ Below w.heap.size w w' := by
  have sx : (arrOf x 4).size = 4 := arrOf_size x 4
  have gx := fun i h => arrOf_get x 4 i h
  generalize arrOf x 4 = ax at *
  have hn1 : ¬ n < 1 := by omega
  go_enter Tryd.func56, Tryd.ntmps56
  go_wp2
  go_loopw [8] (fun i wr => ∃ (j m : Nat) (ss : Array Value), q ≤ j ∧ i = .int .i64 j ∧ (j ≤ 4 ∨ j = q) ∧ ss.size = 4 ∧ (∀ k h, ss[k]'h = Value.int .u64 (if k < j then shlL x q r k else 0)) ∧ wr = ((((w.alloc (.cells ax 23)).alloc (.cells #[.int .u64 0, .int .u64 0, .int .u64 0, .int .u64 0] 23)).alloc (.cells ss 23)).drewN m)) (fun i _ => 4 - (intOf i).toNat)
  case atStart => exact ⟨q, 0, _, Nat.le_refl _, rfl, Or.inr rfl, rfl, by intro k h; have h' : k < 4 := h; by_cases e : k < q; (rw [if_pos e]; unfold shlL; rw [if_neg (by omega)]; match k, h' with | 0, _ => rfl | 1, _ => rfl | 2, _ => rfl | 3, _ => rfl); (rw [if_neg e]; match k, h' with | 0, _ => rfl | 1, _ => rfl | 2, _ => rfl | 3, _ => rfl), rfl⟩
  case round =>
    obtain ⟨j, m, ss, hqj, rfl, hj, hsz, hss, rfl⟩ := hrel
    by_cases h8 : j < 4
    · have h8i : (j : Int) < 4 := by omega
      have h8s : j < ss.size := by omega
      have hqi : (q : Int) ≤ j := by omega
      have e1 : ((j : Int) - q).toNat = j - q := by omega
      have hlt : (j : Int) - q < 4 := by omega
      have hge : 0 ≤ (j : Int) - q := by omega
      have bx := hx (j - q)
      have hcx : ax[j - q]? = some (.int .u64 (x (j - q))) := by rw [Array.getElem?_eq_getElem (by omega), gx _ (by omega)]
      have hsk : ss[j]? = some (.int .u64 0) := by rw [Array.getElem?_eq_getElem h8s, hss j h8s, if_neg (by omega)]
      have HR : Hid (∀ (i : Nat) (h : i < (ss.setIfInBounds j (.int .u64 (shlL x q r j))).size), (ss.setIfInBounds j (.int .u64 (shlL x q r j)))[i]'h = Value.int .u64 (if i < j + 1 then shlL x q r i else 0)) := set_next hss
      by_cases hqq : q < j
      · have hqq' : (q : Int) < j := by omega
        have e2 : ((j : Int) - q - 1).toNat = j - q - 1 := by omega
        have hlt2 : (j : Int) - q - 1 < 4 := by omega
        have hge2 : 0 ≤ (j : Int) - q - 1 := by omega
        have bx2 := hx (j - q - 1)
        have hcx2 : ax[j - q - 1]? = some (.int .u64 (x (j - q - 1))) := by rw [Array.getElem?_eq_getElem (by omega), gx _ (by omega)]
        have HV : Hid (shlL x q r j = bits BinOp.or IntKind.u64 (IntKind.u64.wrap (x (j - q) * 2 ^ r)) (x (j - q - 1) / 2 ^ (64 - r))) := by show _ = _; unfold shlL; rw [if_pos hqj, if_pos hqq]
        clear hss gx hx
        go_wp2
        go_region
        go_wp2
        go_roundw
        case rel => refine ⟨j + 1, m + 1, ss.setIfInBounds j (.int .u64 (shlL x q r j)), by omega, by go_num, Or.inl (by omega), by simp [hsz], HR.out, ?_⟩; rw [HV.out]
        case measure => simp [intOf]; omega
      · have hqq' : ¬ (q : Int) < j := by omega
        have HV : Hid (shlL x q r j = IntKind.u64.wrap (x (j - q) * 2 ^ r)) := by show _ = _; unfold shlL; rw [if_pos hqj, if_neg hqq]
        clear hss gx hx
        go_wp2
        go_roundw
        case rel => refine ⟨j + 1, m, ss.setIfInBounds j (.int .u64 (shlL x q r j)), by omega, by go_num, Or.inl (by omega), by simp [hsz], HR.out, ?_⟩; rw [HV.out]
        case measure => simp [intOf]; omega
    · have h8i : ¬ (j : Int) < 4 := by omega
      have hss' : ∀ k h, ss[k]'h = Value.int .u64 (shlL x q r k) := by
        intro k h; rw [hss k h, if_pos (by omega)]
      clear hss gx
      go_wp2
      exact bodyPost_ret (v := .agg (arrOf (shlL x q r) 4)) (by simp [results, Tryd.results56, go_sem]; rfl) rfl ⟨rfl, below_alloc3 _ _ _ _ _⟩
theorem limShl4_0 (x : Nat → Int) (n : Int) (w : World) (hn : n < 1) :
    Calls Tryd.prog 56 #[.agg (arrOf x 4), .int .i64 n] w fun e w' => e = .returned (.agg (arrOf x 4)) ∧ Below w.heap.size w w' := by
  have sx : (arrOf x 4).size = 4 := arrOf_size x 4
  have gx := fun i h => arrOf_get x 4 i h
  have hl : arrOf x 4 = #[.int .u64 (x 0), .int .u64 (x 1), .int .u64 (x 2), .int .u64 (x 3)] := rfl
  rw [hl]
  rw [hl] at sx gx
  clear gx sx
  go_enter Tryd.func56, Tryd.ntmps56
  go_wp2
  exact bodyPost_ret (v := .agg #[.int .u64 (x 0), .int .u64 (x 1), .int .u64 (x 2), .int .u64 (x 3)]) (by simp [results, Tryd.results56, go_sem]) rfl ⟨rfl, ((Below.refl _ _).alloc (Nat.le_refl _) _).alloc (by simp) _⟩

theorem limShr4 (x : Nat → Int) (n : Int) (q r : Nat) (w : World) (hx : Words x) (hn : 1 ≤ n) (hn2 : n ≤ 9223372036854775807) (hq : n / 64 = q) (hr : n % 64 = r) (hr6 : r < 64) :
    Calls Tryd.prog 66 #[.agg (arrOf x 4), .int .i64 n] w fun e w' => e = .returned (.agg (arrOf (shrL x q r 4) 4)) ∧ Below w.heap.size w w' := by
  have sx : (arrOf x 4).size = 4 := arrOf_size x 4
  have gx := fun i h => arrOf_get x 4 i h
  generalize arrOf x 4 = ax at *
  have hn1 : ¬ n < 1 := by omega
  go_enter Tryd.func66, Tryd.ntmps66
  go_wp2
  go_loopw [8] (fun i wr => ∃ (j m : Nat) (ss : Array Value), q ≤ j ∧ i = .int .i64 j ∧ (j ≤ 4 ∨ j = q) ∧ ss.size = 4 ∧ (∀ k h, ss[k]'h = Value.int .u64 (if k < j - q then shrL x q r 4 k else 0)) ∧ wr = ((((w.alloc (.cells ax 23)).alloc (.cells #[.int .u64 0, .int .u64 0, .int .u64 0, .int .u64 0] 23)).alloc (.cells ss 23)).drewN m)) (fun i _ => 4 - (intOf i).toNat)
  case atStart => exact ⟨q, 0, _, Nat.le_refl _, rfl, Or.inr rfl, rfl, by intro k h; have h' : k < 4 := h; rw [if_neg (by omega)]; match k, h' with | 0, _ => rfl | 1, _ => rfl | 2, _ => rfl | 3, _ => rfl, rfl⟩
  case round =>
    obtain ⟨j, m, ss, hqj, rfl, hj, hsz, hss, rfl⟩ := hrel
    by_cases h8 : j < 4
    · have h8i : (j : Int) < 4 := by omega
      have h8s : j - q < ss.size := by omega
      have hqi : (q : Int) ≤ j := by omega
      have e1 : ((j : Int) - q).toNat = j - q := by omega
      have hlt : (j : Int) - q < 4 := by omega
      have hge : 0 ≤ (j : Int) - q := by omega
      have bx := hx j
      have hcx : ax[j]? = some (.int .u64 (x j)) := by rw [Array.getElem?_eq_getElem (by omega), gx _ (by omega)]
      have hcx' : ∀ h, ax[j]'h = .int .u64 (x j) := fun h => gx j h
      have hsk : ss[j - q]? = some (.int .u64 0) := by rw [Array.getElem?_eq_getElem h8s, hss _ h8s, if_neg (by omega)]
      have HR0 : ∀ (i : Nat) (h : i < (ss.setIfInBounds (j - q) (.int .u64 (shrL x q r 4 (j - q)))).size), (ss.setIfInBounds (j - q) (.int .u64 (shrL x q r 4 (j - q))))[i]'h = Value.int .u64 (if i < (j - q) + 1 then shrL x q r 4 i else 0) := set_next hss
      have HR : Hid (∀ (i : Nat) (h : i < (ss.setIfInBounds (j - q) (.int .u64 (shrL x q r 4 (j - q)))).size), (ss.setIfInBounds (j - q) (.int .u64 (shrL x q r 4 (j - q))))[i]'h = Value.int .u64 (if i < j + 1 - q then shrL x q r 4 i else 0)) := by
        intro i h; rw [HR0 i h, show j - q + 1 = j + 1 - q by omega]
      clear HR0
      have ejq : q + (j - q) = j := by omega
      have hget : ∀ v : Value, (ss.setIfInBounds (j - q) v)[j - q]? = some v := fun v => by rw [Array.getElem?_setIfInBounds_self_of_lt h8s]
      by_cases hqq : j + 1 < 4
      · have hqq' : (j : Int) + 1 < 4 := by omega
        have bx2 := hx (j + 1)
        have e2 : ((j : Int) + 1).toNat = j + 1 := by omega
        have hcx2 : ax[j + 1]? = some (.int .u64 (x (j + 1))) := by rw [Array.getElem?_eq_getElem (by omega), gx _ (by omega)]
        have hcx2' : ∀ h, ax[j + 1]'h = .int .u64 (x (j + 1)) := fun h => gx (j + 1) h
        have HV : Hid (shrL x q r 4 (j - q) = bits BinOp.or IntKind.u64 (x j / 2 ^ r) (IntKind.u64.wrap (x (j + 1) * 2 ^ (64 - r)))) := by show _ = _; unfold shrL; rw [ejq, if_pos h8, if_pos hqq]
        clear hss gx hx ejq
        go_wp2
        go_region
        go_wp2
        go_roundw
        case rel => refine ⟨j + 1, m + 1, ss.setIfInBounds (j - q) (.int .u64 (shrL x q r 4 (j - q))), by omega, by go_num, Or.inl (by omega), by simp [hsz], HR.out, ?_⟩; rw [HV.out]
        case measure => simp [intOf]; omega
      · have hqq' : ¬ (j : Int) + 1 < 4 := by omega
        have HV : Hid (shrL x q r 4 (j - q) = x j / 2 ^ r) := by show _ = _; unfold shrL; rw [ejq, if_pos h8, if_neg hqq]
        clear hss gx hx ejq
        go_wp2
        go_roundw
        case rel => refine ⟨j + 1, m, ss.setIfInBounds (j - q) (.int .u64 (shrL x q r 4 (j - q))), by omega, by go_num, Or.inl (by omega), by simp [hsz], HR.out, ?_⟩; rw [HV.out]
        case measure => simp [intOf]; omega
    · have h8i : ¬ (j : Int) < 4 := by omega
      have hss' : ∀ k h, ss[k]'h = Value.int .u64 (shrL x q r 4 k) := by
        intro k h; rw [hss k h]
        split
        · rfl
        · unfold shrL; rw [if_neg (by omega)]
      clear hss gx
      go_wp2
      exact bodyPost_ret (v := .agg (arrOf (shrL x q r 4) 4)) (by simp [results, Tryd.results66, go_sem]; rfl) rfl ⟨rfl, below_alloc3 _ _ _ _ _⟩
theorem limShr4_0 (x : Nat → Int) (n : Int) (w : World) (hn : n < 1) :
    Calls Tryd.prog 66 #[.agg (arrOf x 4), .int .i64 n] w fun e w' => e = .returned (.agg (arrOf x 4)) ∧ Below w.heap.size w w' := by
  have sx : (arrOf x 4).size = 4 := arrOf_size x 4
  have gx := fun i h => arrOf_get x 4 i h
  have hl : arrOf x 4 = #[.int .u64 (x 0), .int .u64 (x 1), .int .u64 (x 2), .int .u64 (x 3)] := rfl
  rw [hl]
  rw [hl] at sx gx
  clear gx sx
  go_enter Tryd.func66, Tryd.ntmps66
  go_wp2
  exact bodyPost_ret (v := .agg #[.int .u64 (x 0), .int .u64 (x 1), .int .u64 (x 2), .int .u64 (x 3)]) (by simp [results, Tryd.results66, go_sem]) rfl ⟨rfl, ((Below.refl _ _).alloc (Nat.le_refl _) _).alloc (by simp) _⟩

theorem lenL_succ (x : Nat → Int) (n : Nat) : lenL x (n + 1) = if x n = 0 then lenL x n else 64 * (n : Int) + Lib.bitLen (x n).toNat := by
  by_cases h : x n = 0
  · simp [lenL, sizeL, h]
  · simp [lenL, sizeL, h]; omega

theorem limLen4 (cs : Array Value) (x : Nat → Int) (w : World) (hx : ∀ i, 0 ≤ x i ∧ x i ≤ 18446744073709551615) (hsz : cs.size = 4) (hc : ∀ i, i < 4 → cs[i]? = some (.int .u64 (x i))) :
    Calls Tryd.prog 87 #[.agg cs] w fun e w' => e = .returned (.int .i64 (lenL x 4)) ∧ w' = w.alloc (.cells cs 23) := by
  go_enter Tryd.func87, Tryd.ntmps87
  go_wp2
  go_loop [3] (fun t => ∃ k : Nat, k ≤ 4 ∧ lenL x k = lenL x 4 ∧ t = .int .i64 ((k : Int) - 1)) (fun t => (intOf t + 1).toNat)
  case atStart => exact ⟨4, Nat.le_refl _, rfl, rfl⟩
  case round =>
    obtain ⟨k, hk, hs, rfl⟩ := hrel
    by_cases h0 : k = 0
    · subst h0
      have HS : Hid (lenL x 4 = 0) := hs.symm
      clear hs
      go_wp2
      go_ret
      exact ⟨ret_int HS.out.symm, rfl⟩
    · obtain ⟨j, rfl⟩ : ∃ j, k = j + 1 := ⟨k - 1, by omega⟩
      have hcj := hc j (by omega)
      have hb := hx j
      have hbl := bitLen64 (x j).toNat
      have hj8 : (j : Int) < 4 := by omega
      have ej : ((j + 1 : Nat) : Int) - 1 = j := by omega
      rw [ej]
      by_cases hz : x j = 0
      · have HS : Hid (lenL x j = lenL x 4) := by
          have := lenL_succ x j
          rw [if_pos hz] at this
          exact this.symm.trans hs
        clear hs hc hx
        go_wp2
        go_round
        case rel => exact ⟨j, by omega, HS.out, by go_num⟩
        case measure => simp [intOf]
      · have HS : Hid (64 * (j : Int) + Lib.bitLen (x j).toNat = lenL x 4) := by
          have := lenL_succ x j
          rw [if_neg hz] at this
          exact this.symm.trans hs
        have hcl := Tryd.bits_Len64 (x j) (w.alloc (.cells cs 23)) hb.1 hb.2
        clear hs hc hx
        generalize Lib.bitLen (x j).toNat = L at *
        go_wp2_with (go_at_call 83; refine hcl.mono ?_; rintro e w' ⟨rfl, rfl⟩)
        go_ret
        exact ⟨ret_int (by rw [← HS.out]; omega), rfl⟩

def bitV (v n : Int) : Int := bits BinOp.and IntKind.u64 (v / 2 ^ (n % 64).toNat) 1

theorem limBit4 (x : Nat → Int) (n : Int) (w : World) (hx : Words x) (h0 : 0 ≤ n) (h1 : n < 256) :
    Calls Tryd.prog 68 #[.agg (arrOf x 4), .int .i64 n] w fun e w' => e = .returned (.int .u64 (bitV (x (n / 64).toNat) n)) ∧ Below w.heap.size w w' := by
  have hsz : (arrOf x 4).size = 4 := arrOf_size x 4
  have hc : ∀ h, (arrOf x 4)[(n / 64).toNat]'h = .int .u64 (x (n / 64).toNat) := fun h => arrOf_get x 4 _ h
  have hb := hx (n / 64).toNat
  generalize arrOf x 4 = cs at *
  generalize hv : x (n / 64).toNat = v at *
  clear hv
  have hj : n / 64 < 4 := by omega
  have hj0 : 0 ≤ n / 64 := by omega
  have hm : n % 64 < 64 := by omega
  have hm0 : 0 ≤ n % 64 := by omega
  go_enter Tryd.func68, Tryd.ntmps68
  go_wp2
  go_ret
  exact ⟨rfl, (Below.refl _ _).alloc (Nat.le_refl _) _⟩

theorem len4 (x : Nat → Int) (w : World) (hx : Words x) : Calls Tryd.prog 87 #[.agg (arrOf x 4)] w fun e w' => e = .returned (.int .i64 (lenL x 4)) ∧ Below w.heap.size w w' :=
  (limLen4 (arrOf x 4) x w hx (by simp) (fun i h => arrOf_get? x 4 i h)).mono fun _ _ ⟨h1, h2⟩ => ⟨h1, by rw [h2]; exact (Below.refl _ _).alloc (Nat.le_refl _) _⟩
def shlA (x : Nat → Int) (n : Int) (j : Nat) : Int := if n < 1 then x j else shlL x (n / 64).toNat (n % 64).toNat j
def shrA (x : Nat → Int) (n : Int) (N j : Nat) : Int := if n < 1 then x j else shrL x (n / 64).toNat (n % 64).toNat N j
theorem lowW_lt {x : Nat → Int} {N i : Nat} (h : i < N) : lowW x N i = x i := by unfold lowW; rw [if_pos h]
theorem lowW_ge {x : Nat → Int} {N i : Nat} (h : N ≤ i) : lowW x N i = 0 := by unfold lowW; rw [if_neg (by omega)]
theorem div64_zero (a : Int) (h : 0 ≤ a ∧ a ≤ 18446744073709551615) : a / 2 ^ (64 - 0) = 0 := by
  have e : (2 : Int) ^ (64 - 0) = 18446744073709551616 := by decide
  rw [e]; omega
theorem wrap64_zero (a : Int) : IntKind.u64.wrap (a * 2 ^ (64 - 0)) = 0 := by
  have e : (2 : Int) ^ (64 - 0) = 18446744073709551616 := by decide
  rw [e]
  simp only [IntKind.wrap, IntKind.bits, IntKind.signed]
  simp
theorem shlL_fin {x : Nat → Int} (hx : Words x) {N : Nat} (q r : Nat) : lowW (shlL x q r) N = lowW (finL (lowW x N) q r) N := by
  funext j
  by_cases hj : j < N
  · rw [lowW_lt hj, lowW_lt hj]
    unfold shlL finL
    by_cases hq : q ≤ j
    · rw [if_pos hq, if_pos hq, lowW_lt (x := x) (N := N) (i := j - q) (by omega)]
      by_cases h : q < j
      · rw [if_pos h]
        have e : lowp (lowW x N) q r j = x (j - q - 1) / 2 ^ (64 - r) := by
          unfold lowp
          rw [lowW_lt (x := x) (N := N) (i := j - q - 1) (by omega)]
          by_cases hr : 0 < r
          · rw [if_pos ⟨by omega, hr⟩]
          · have hr0 : r = 0 := by omega
            subst hr0
            rw [if_neg (by omega), div64_zero _ (hx _)]
        rw [e]
        exact orW_comm _ _ (wrap_word _) (div_word _ _ (hx _))
      · rw [if_neg h]
        have e : lowp (lowW x N) q r j = 0 := by unfold lowp; rw [if_neg (by omega)]
        rw [e, zero_orW _ (wrap_word _)]
    · rw [if_neg hq, if_neg hq]
  · rw [lowW_ge (by omega), lowW_ge (by omega)]
theorem shrL_fin {x : Nat → Int} (hx : Words x) {N : Nat} (q r : Nat) : lowW (shrL x q r N) N = shrW (lowW x N) q r := by
  funext j
  by_cases hj : j < N
  · rw [lowW_lt hj]
    by_cases hq : q + j < N
    · unfold shrL shrW
      rw [if_pos hq, lowW_lt hq]
      by_cases hr : r = 0
      · subst hr
        rw [if_pos rfl]
        have e : x (q + j) / 2 ^ 0 = x (q + j) := by simp
        rw [e, wrap64_zero]
        by_cases h : q + j + 1 < N
        · rw [if_pos h]; exact orW_zero _ (hx _)
        · rw [if_neg h]
      · rw [if_neg hr]
        by_cases h : q + j + 1 < N
        · rw [if_pos h, lowW_lt h]; rfl
        · rw [if_neg h, lowW_ge (x := x) (N := N) (i := q + j + 1) (by omega), Int.zero_mul]
          rw [show IntKind.u64.wrap 0 = 0 by decide, orW_zero _ (div_word _ _ (hx _))]
    · rw [shrW_zero (n := N) (fun i hi => lowW_ge hi) q r j (by omega)]
      unfold shrL; rw [if_neg hq]
  · rw [lowW_ge (by omega), shrW_zero (n := N) (fun i hi => lowW_ge hi) q r j (by omega)]
theorem shlA_words {x : Nat → Int} (hx : Words x) (n : Int) : Words (shlA x n) := fun j => by
  unfold shlA; split
  · exact hx j
  · unfold shlL; split
    · split
      · exact orW_word _ _ (wrap_word _) (div_word _ _ (hx _))
      · exact wrap_word _
    · decide
theorem shrA_words {x : Nat → Int} (hx : Words x) (n : Int) (N : Nat) : Words (shrA x n N) := fun j => by
  unfold shrA; split
  · exact hx j
  · unfold shrL; split
    · split
      · exact orW_word _ _ (div_word _ _ (hx _)) (wrap_word _)
      · exact div_word _ _ (hx _)
    · decide
theorem shlA4 (x : Nat → Int) (n : Int) (w : World) (hx : Words x) (hn2 : n ≤ 9223372036854775807) :
    Calls Tryd.prog 56 #[.agg (arrOf x 4), .int .i64 n] w fun e w' => e = .returned (.agg (arrOf (shlA x n) 4)) ∧ Below w.heap.size w w' := by
  by_cases h1 : n < 1
  · have e : shlA x n = x := by funext j; unfold shlA; rw [if_pos h1]
    rw [e]; exact limShl4_0 x n w h1
  · have e : shlA x n = shlL x (n / 64).toNat (n % 64).toNat := by funext j; unfold shlA; rw [if_neg h1]
    rw [e]; exact limShl4 x n _ _ w hx (by omega) hn2 (by omega) (by omega) (by omega)
theorem shrA4 (x : Nat → Int) (n : Int) (w : World) (hx : Words x) (hn2 : n ≤ 9223372036854775807) :
    Calls Tryd.prog 66 #[.agg (arrOf x 4), .int .i64 n] w fun e w' => e = .returned (.agg (arrOf (shrA x n 4) 4)) ∧ Below w.heap.size w w' := by
  by_cases h1 : n < 1
  · have e : shrA x n 4 = x := by funext j; unfold shrA; rw [if_pos h1]
    rw [e]; exact limShr4_0 x n w h1
  · have e : shrA x n 4 = shrL x (n / 64).toNat (n % 64).toNat 4 := by funext j; unfold shrA; rw [if_neg h1]
    rw [e]; exact limShr4 x n _ _ w hx (by omega) hn2 (by omega) (by omega) (by omega)
end Go.Proofs.YtjjaamdgochilaaDoor

namespace Go.Proofs.YtjjaamdgochilaaDoor
open Go.RowKit

/-- block g is N words, those of x, none of them frozen -/
def Own (g N : Nat) (x : Nat → Int) (w : World) : Prop := w.heap[g]? = some (.cells (arrOf x N) 22)
/-- all but block g is as it was (the count of draws aside) -/
structure Upd (g : Nat) (w w' : World) : Prop where
  os : w'.os = w.os
  tape : w'.tape = w.tape
  output : w'.output = w.output
  size : w'.heap.size = w.heap.size
  block : ∀ k, k ≠ g → w'.heap[k]? = w.heap[k]?
theorem Upd.refl (g : Nat) (w : World) : Upd g w w := ⟨rfl, rfl, rfl, rfl, fun _ _ => rfl⟩
theorem Upd.trans {g : Nat} {a b c : World} (h : Upd g a b) (k : Upd g b c) : Upd g a c :=
  ⟨k.os.trans h.os, k.tape.trans h.tape, k.output.trans h.output, k.size.trans h.size, fun i hi => (k.block i hi).trans (h.block i hi)⟩
theorem Upd.drewN {g : Nat} {a b : World} (h : Upd g a b) (m : Nat) : Upd g a (b.drewN m) := ⟨h.os, h.tape, h.output, h.size, h.block⟩
theorem Upd.drew {g : Nat} {a b : World} (h : Upd g a b) : Upd g a b.drew := ⟨h.os, h.tape, h.output, h.size, h.block⟩
theorem Upd.set {g : Nat} {a b : World} (h : Upd g a b) (i : Nat) (v : Value) : Upd g a (b.setCell ⟨g, i, none⟩ v) :=
  h.trans ⟨rfl, rfl, rfl, by simp [World.setCell], fun k hk => Below.heap_setCell _ _ _ _ hk⟩
theorem Upd.below {g B : Nat} {w w' : World} (h : Upd g w w') (hB : B ≤ g) : Below B w w' := ⟨h.os, h.tape, h.output, Nat.le_of_eq h.size.symm, fun k hk => h.block k (by omega)⟩
theorem Upd.num {g : Nat} {w w' : World} {b off n c : Nat} {x : Nat → Int} (h : Upd g w w') (hb : b ≠ g) (hN : Num w (some ⟨b, off, none⟩) n c x) : Num w' (some ⟨b, off, none⟩) n c x := by
  obtain ⟨h1, h2, h3, h4, h5⟩ := hN
  refine ⟨h1, h2, h3, h4, ?_⟩
  rcases h5 with ⟨h5, _⟩ | ⟨b', off', h6, h7, h8⟩
  · cases h5
  · cases h6
    exact Or.inr ⟨b, off, rfl, by rw [h.size]; exact h7, fun i hi => (World.cell?_of_block (w := w) (a := ⟨b, off + i, none⟩) (h.block b hb)).trans (h8 i hi)⟩
/-- a number that lies elsewhere stays -/
def Apart (a : Option Addr) (g : Nat) : Prop := ∀ p, a = some p → p.block ≠ g
theorem Upd.num' {g : Nat} {w w' : World} {a : Option Addr} {n c : Nat} {x : Nat → Int} (h : Upd g w w') (hb : Apart a g) (hN : Num w a n c x) : Num w' a n c x := by
  have hN' := hN
  obtain ⟨h1, h2, h3, h4, h5⟩ := hN'
  rcases h5 with ⟨rfl, rfl⟩ | ⟨b', off', rfl, h7, h8⟩
  · exact ⟨h1, h2, h3, h4, Or.inl ⟨rfl, rfl⟩⟩
  · exact h.num (hb _ rfl) hN
theorem Upd.own {g g' N : Nat} {w w' : World} {x : Nat → Int} (h : Upd g w w') (hb : g' ≠ g) (hN : Own g' N x w) : Own g' N x w' := (h.block g' hb).trans hN
theorem Below.own {B g N : Nat} {w w' : World} {x : Nat → Int} (h : Below B w w') (hb : g < B) (hN : Own g N x w) : Own g N x w' := (h.block g hb).trans hN

theorem Own.lt {g N : Nat} {x : Nat → Int} {w : World} (h : Own g N x w) : g < w.heap.size := by
  rcases Nat.lt_or_ge g w.heap.size with h' | h'
  · exact h'
  · unfold Own at h; rw [Array.getElem?_eq_none h'] at h; cases h
theorem Own.cell {g N : Nat} {x : Nat → Int} {w : World} (h : Own g N x w) (i : Nat) (hi : i < N) : w.cell? ⟨g, i, none⟩ = some (.int .u64 (x i)) := by
  unfold World.cell?
  have hh : w.heap[g]? = some (.cells (arrOf x N) 22) := h
  simp [hh, arrOf_get? x N i hi]
theorem Own.frozen {g N : Nat} {x : Nat → Int} {w : World} (h : Own g N x w) (i : Nat) : w.frozen? ⟨g, i, none⟩ = false := by
  unfold World.frozen?
  have hh : w.heap[g]? = some (.cells (arrOf x N) 22) := h
  simp [hh]
theorem Own.set {g N : Nat} {x : Nat → Int} {w : World} (h : Own g N x w) (i : Nat) (v : Int) : Own g N (fun j => if j = i then v else x j) (w.setCell ⟨g, i, none⟩ (.int .u64 v)) := by
  have hh : w.heap[g]? = some (.cells (arrOf x N) 22) := h
  show (w.setCell ⟨g, i, none⟩ (.int .u64 v)).heap[g]? = _
  simp only [World.setCell, Array.getElem?_modify, if_true, hh]
  simp [arrOf_set]
theorem Own.congr {g N : Nat} {x y : Nat → Int} {w : World} (h : Own g N x w) (e : ∀ i, i < N → x i = y i) : Own g N y w := by
  unfold Own; rw [← arrOf_congr e]; exact h
theorem Own.new (w : World) (x : Nat → Int) (N : Nat) : Own w.heap.size N x (w.alloc (.cells (arrOf x N) 22)) := (MapKept.heap_alloc w _).1
/-- words off to off + m of the block, as a number -/
def segW (x : Nat → Int) (off m i : Nat) : Int := if i < m then x (off + i) else 0
theorem segW_words {x : Nat → Int} (hx : Words x) (off m : Nat) : Words (segW x off m) := fun i => by unfold segW; split; exact hx _; decide
theorem segW_zero (x : Nat → Int) (off m i : Nat) (h : m ≤ i) : segW x off m i = 0 := by unfold segW; rw [if_neg (by omega)]
theorem segW_lt (x : Nat → Int) (off m i : Nat) (h : i < m) : segW x off m i = x (off + i) := by unfold segW; rw [if_pos h]
theorem Own.num {g N : Nat} {x : Nat → Int} {w : World} (h : Own g N x w) (hx : Words x) (off m c : Nat) (hm : off + m ≤ N) (hc : m ≤ c) (hc2 : c ≤ maxLen) : Num w (some ⟨g, off, none⟩) m c (segW x off m) :=
  ⟨hc, hc2, segW_words hx off m, fun i hi => segW_zero x off m i hi, Or.inr ⟨g, off, rfl, h.lt, fun i hi => by rw [h.cell (off + i) (by omega), segW_lt x off m i hi]⟩⟩
end Go.Proofs.YtjjaamdgochilaaDoor

namespace Go.Proofs.YtjjaamdgochilaaDoor

/-- what a step is about: u below Y = d1 * 2^32 + d0, one digit e more -/
structure Dg (u d1 d0 e : Int) : Prop where
  a1 : 2147483648 ≤ d1
  a2 : d1 < 4294967296
  b1 : 0 ≤ d0
  b2 : d0 < 4294967296
  e1 : 0 ≤ e
  e2 : e < 4294967296
  u1 : 0 ≤ u
  u2 : u < d1 * 4294967296 + d0

theorem Dg.pos {u d1 d0 e : Int} (h : Dg u d1 d0 e) : 0 < d1 * 4294967296 + d0 := by have := h.a1; have := h.b1; omega
theorem mulY (q d1 d0 : Int) : q * (d1 * 4294967296 + d0) = (q * d1) * 4294967296 + q * d0 := by rw [Int.mul_add, Int.mul_assoc]
/-- the digit is below 2^32 -/
theorem Dg.lt {u d1 d0 e : Int} (h : Dg u d1 d0 e) : (u * 4294967296 + e) / (d1 * 4294967296 + d0) < 4294967296 := by
  apply Int.ediv_lt_of_lt_mul h.pos
  have := h.u2; have := h.e2; omega
theorem Dg.nonneg {u d1 d0 e : Int} (h : Dg u d1 d0 e) : 0 ≤ (u * 4294967296 + e) / (d1 * 4294967296 + d0) := Int.ediv_nonneg (by have := h.u1; have := h.e1; omega) (by have := h.pos; omega)
/-- the guess is too great -/
theorem Dg.big {u d1 d0 e q r : Int} (h : Dg u d1 d0 e) (hq : q * d1 + r = u) (ht : 4294967296 * r + e < q * d0) : (u * 4294967296 + e) / (d1 * 4294967296 + d0) ≤ q - 1 := by
  have : (u * 4294967296 + e) / (d1 * 4294967296 + d0) < q := by
    apply Int.ediv_lt_of_lt_mul h.pos
    rw [mulY]; omega
  omega
theorem Dg.big' {u d1 d0 e q : Int} (h : Dg u d1 d0 e) (ht : 4294967296 ≤ q) : (u * 4294967296 + e) / (d1 * 4294967296 + d0) ≤ q - 1 := by
  have := h.lt; omega
/-- the guess is right -/
theorem Dg.right {u d1 d0 e q r : Int} (h : Dg u d1 d0 e) (hq : q * d1 + r = u) (hge : (u * 4294967296 + e) / (d1 * 4294967296 + d0) ≤ q) (ht : q * d0 ≤ 4294967296 * r + e) : (u * 4294967296 + e) / (d1 * 4294967296 + d0) = q := by
  have : q ≤ (u * 4294967296 + e) / (d1 * 4294967296 + d0) := by
    apply Int.le_ediv_of_mul_le h.pos
    rw [mulY]; omega
  omega
theorem Dg.right' {u d1 d0 e q r : Int} (h : Dg u d1 d0 e) (hq : q * d1 + r = u) (hge : (u * 4294967296 + e) / (d1 * 4294967296 + d0) ≤ q) (hq2 : q ≤ 4294967296) (hr : 4294967296 ≤ r) : (u * 4294967296 + e) / (d1 * 4294967296 + d0) = q := by
  refine h.right hq hge ?_
  have h0 : 0 ≤ q := Int.le_trans h.nonneg hge
  have h1 : q * d0 ≤ 4294967296 * d0 := Int.mul_le_mul_of_nonneg_right hq2 h.b1
  have := h.b2; have := h.e1
  omega
/-- the first guess -/
theorem Dg.first {u d1 d0 e : Int} (h : Dg u d1 d0 e) : (u / d1) * d1 + u % d1 = u ∧ (u * 4294967296 + e) / (d1 * 4294967296 + d0) ≤ u / d1 ∧ u / d1 ≤ 4294967297 ∧ 0 ≤ u % d1 ∧ u % d1 < 4294967296 := by
  have a1 := h.a1; have a2 := h.a2
  have hd : 0 < d1 := by omega
  have e0 : (u / d1) * d1 + u % d1 = u := Int.mul_comm d1 _ ▸ Int.mul_ediv_add_emod u d1
  have m0 := Int.emod_nonneg u (show d1 ≠ 0 by omega)
  have m1 := Int.emod_lt_of_pos u hd
  refine ⟨e0, ?_, ?_, m0, by omega⟩
  · have : (u * 4294967296 + e) / (d1 * 4294967296 + d0) < u / d1 + 1 := by
      apply Int.ediv_lt_of_lt_mul h.pos
      rw [mulY, Int.add_mul]
      have p0 : 0 ≤ (u / d1 + 1) * d0 := Int.mul_nonneg (by have := Int.ediv_nonneg h.u1 (Int.le_of_lt hd); omega) h.b1
      have := h.e2
      omega
    omega
  · have : u / d1 < 4294967298 := by
      apply Int.ediv_lt_of_lt_mul hd
      have := h.u2; have := h.b2
      omega
    omega
end Go.Proofs.YtjjaamdgochilaaDoor

namespace Go.Proofs.YtjjaamdgochilaaDoor

theorem bitLenAux_spec : ∀ (f x : Nat), 0 < x → x < 2 ^ f → 1 ≤ Lib.bitLenAux f x ∧ 2 ^ (Lib.bitLenAux f x - 1) ≤ x ∧ x < 2 ^ Lib.bitLenAux f x
  | 0, x, h0, h => by simp at h; omega
  | f + 1, x, h0, h => by
    simp only [Lib.bitLenAux]
    rw [if_neg (by omega)]
    by_cases h1 : x / 2 = 0
    · have hx : x = 1 := by omega
      subst hx
      have : Lib.bitLenAux f (1 / 2) = 0 := by cases f <;> simp [Lib.bitLenAux]
      rw [this]; decide
    · have ih := bitLenAux_spec f (x / 2) (by omega) (by rw [Nat.pow_succ] at h; omega)
      generalize Lib.bitLenAux f (x / 2) = k at ih
      obtain ⟨j, rfl⟩ : ∃ j, k = j + 1 := ⟨k - 1, by omega⟩
      simp only [Nat.add_sub_cancel] at ih
      refine ⟨by omega, ?_, ?_⟩
      · rw [show 1 + (j + 1) - 1 = j + 1 by omega, Nat.pow_succ]; omega
      · rw [show 1 + (j + 1) = (j + 1) + 1 by omega, Nat.pow_succ]; omega
theorem bitLen_spec (x : Nat) (h0 : 0 < x) (h : x < 18446744073709551616) : 1 ≤ Lib.bitLen x ∧ Lib.bitLen x ≤ 64 ∧ 2 ^ (Lib.bitLen x - 1) ≤ x ∧ x < 2 ^ Lib.bitLen x := by
  have h1 := bitLenAux_spec 64 x h0 h
  have h2 : Lib.bitLen x ≤ 64 := by
    rcases Nat.lt_or_ge 64 (Lib.bitLen x) with h3 | h3
    · exfalso
      have h4 : 2 ^ 64 ≤ 2 ^ (Lib.bitLen x - 1) := Nat.pow_le_pow_right (by decide) (by omega)
      have h5 : 2 ^ (Lib.bitLen x - 1) ≤ x := h1.2.1
      have : (2 : Nat) ^ 64 = 18446744073709551616 := by decide
      omega
    · exact h3
  exact ⟨h1.1, h2, h1.2.1, h1.2.2⟩
/-- the shifted divisor has its highest bit -/
theorem norm_bd (y : Nat) (h0 : 0 < y) (h : y < 18446744073709551616) : 9223372036854775808 ≤ y * 2 ^ (64 - Lib.bitLen y) ∧ y * 2 ^ (64 - Lib.bitLen y) < 18446744073709551616 ∧ 64 - Lib.bitLen y < 64 := by
  obtain ⟨h1, h2, h3, h4⟩ := bitLen_spec y h0 h
  generalize hL : Lib.bitLen y = L at *
  have p1 : 2 ^ (L - 1) * 2 ^ (64 - L) = 9223372036854775808 := by rw [← Nat.pow_add, show L - 1 + (64 - L) = 63 by omega]
  have p2 : 2 ^ L * 2 ^ (64 - L) = 18446744073709551616 := by rw [← Nat.pow_add, show L + (64 - L) = 64 by omega]
  have hp : 0 < 2 ^ (64 - L) := Nat.pow_pos (by decide)
  exact ⟨by rw [← p1]; exact Nat.mul_le_mul_right _ h3, by rw [← p2]; exact Nat.mul_lt_mul_of_pos_right h4 hp, by omega⟩
/-- the two words shifted up, as three digits -/
theorem norm_join (hi lo y s : Nat) (hs : s < 64) (hh : hi < y) (hl : lo < 18446744073709551616) (hy : y * 2 ^ s < 18446744073709551616) :
    (hi * 2 ^ s) ||| (lo / 2 ^ (64 - s)) = hi * 2 ^ s + lo / 2 ^ (64 - s) ∧ (hi * 2 ^ s + lo / 2 ^ (64 - s)) * 18446744073709551616 + (lo * 2 ^ s) % 18446744073709551616 = (hi * 18446744073709551616 + lo) * 2 ^ s ∧ hi * 2 ^ s + lo / 2 ^ (64 - s) < y * 2 ^ s := by
  have hp : 0 < 2 ^ s := Nat.pow_pos (by decide)
  have hq : 0 < 2 ^ (64 - s) := Nat.pow_pos (by decide)
  have hpq : 2 ^ (64 - s) * 2 ^ s = 18446744073709551616 := by rw [← Nat.pow_add, show 64 - s + s = 64 by omega]
  have hlt : lo / 2 ^ (64 - s) < 2 ^ s := by
    rw [Nat.div_lt_iff_lt_mul hq, Nat.mul_comm, hpq]; exact hl
  have hsum : lo * 2 ^ s = (lo / 2 ^ (64 - s)) * 18446744073709551616 + (lo * 2 ^ s) % 18446744073709551616 := by
    have h1 : lo * 2 ^ s / 18446744073709551616 = lo / 2 ^ (64 - s) := by rw [← hpq, Nat.mul_div_mul_right _ _ hp]
    have h2 := Nat.div_add_mod (lo * 2 ^ s) 18446744073709551616
    rw [h1] at h2
    omega
  refine ⟨?_, ?_, ?_⟩
  · exact nat_join s _ _ (Nat.mul_mod_left _ _) hlt
  · rw [Nat.add_mul, Nat.add_mul, Nat.mul_right_comm hi 18446744073709551616 (2 ^ s)]
    omega
  · have : (hi + 1) * 2 ^ s ≤ y * 2 ^ s := Nat.mul_le_mul_right _ hh
    rw [Nat.add_mul] at this
    omega
/-- back again -/
theorem norm_back (n y s q r : Nat) (h : n * 2 ^ s = q * (y * 2 ^ s) + r) (hr : r < y * 2 ^ s) : q = n / y ∧ r / 2 ^ s = n % y := by
  have hp : 0 < 2 ^ s := Nat.pow_pos (by decide)
  have hy : 0 < y := by
    rcases Nat.eq_zero_or_pos y with h0 | h0
    · subst h0; simp at hr
    · exact h0
  have h1 : r = (n - q * y) * 2 ^ s := by
    rw [Nat.sub_mul, Nat.mul_assoc]; omega
  have h2 : n - q * y < y := by
    rw [h1] at hr; exact Nat.lt_of_mul_lt_mul_right hr
  have h3 : q * y ≤ n := by
    have : q * y * 2 ^ s ≤ n * 2 ^ s := by rw [h, Nat.mul_assoc]; omega
    exact Nat.le_of_mul_le_mul_right this hp
  have h4 : n = y * q + (n - q * y) := by rw [Nat.mul_comm y q]; omega
  constructor
  · rw [h4, Nat.mul_add_div hy, Nat.div_eq_of_lt h2]; omega
  · rw [h1, Nat.mul_div_cancel _ hp]
    conv => rhs; rw [h4]
    rw [Nat.mul_add_mod, Nat.mod_eq_of_lt h2]
end Go.Proofs.YtjjaamdgochilaaDoor
