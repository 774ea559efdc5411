/-
  What limbs.Add does at each width: contracts.
-/
import Derived.Test.YtbbjkpcccimcbaaArr
import Derived.Deep.RegionHeld3
import Derived.Deep.DrawnRows
namespace Go.Proofs.Ytbbjkpcccimcbaa
open Go.RowKit
attribute [local go_sem ↓] Go.wp_at_zero Go.wp_at_succ
theorem setCell_drewN (w : World) (n : Nat) (a : Addr) (v : Value) : (w.drewN n).setCell a v = (w.setCell a v).drewN n := rfl
theorem alloc_drewN (w : World) (n : Nat) (o : Obj) : (w.drewN n).alloc o = (w.alloc o).drewN n := rfl
attribute [local go_sem] setCell_drewN alloc_drewN

/-- the carry into word k, and the sum's words -/
def carryW (x y : Nat → Int) : Nat → Int
  | 0 => 0
  | k + 1 => (x k + y k + carryW x y k) / 18446744073709551616
def sumW (x y : Nat → Int) (k : Nat) : Int := (x k + y k + carryW x y k) % 18446744073709551616

def Words (x : Nat → Int) : Prop := ∀ i, 0 ≤ x i ∧ x i ≤ 18446744073709551615
theorem carryW_01 {x y : Nat → Int} (hx : Words x) (hy : Words y) (k : Nat) : 0 ≤ carryW x y k ∧ carryW x y k ≤ 1 := by
  induction k with
  | zero => simp [carryW]
  | succ k ih => have := hx k; have := hy k; simp only [carryW]; omega
/-- the borrow from word k, and the difference's words -/
def borW (x y : Nat → Int) : Nat → Int
  | 0 => 0
  | k + 1 => bor (x k) (y k) (borW x y k)
def difW (x y : Nat → Int) (k : Nat) : Int := (x k - y k - borW x y k) % 18446744073709551616
theorem bor_01 (x y b : Int) : 0 ≤ bor x y b ∧ bor x y b ≤ 1 := by unfold bor; split <;> omega
theorem borW_01 (x y : Nat → Int) (k : Nat) : 0 ≤ borW x y k ∧ borW x y k ≤ 1 := by
  cases k with
  | zero => simp [borW]
  | succ k => exact bor_01 _ _ _

theorem below_alloc4 (w : World) (o1 o2 o3 o4 : Obj) (m : Nat) : Below w.heap.size w ((((((w.alloc o1).alloc o2).alloc o3).alloc o4).drewN m)) := by
  have h := ((((Below.refl w.heap.size w).alloc (Nat.le_refl _) o1).alloc (by simp) o2).alloc (by simp; omega) o3).alloc (by simp; omega) o4
  exact ⟨h.os, h.tape, h.output, h.size, h.block⟩
theorem below_alloc3 (w : World) (o1 o2 o3 : Obj) (m : Nat) : Below w.heap.size w (((((w.alloc o1).alloc o2).alloc o3).drewN m)) := by
  have h := (((Below.refl w.heap.size w).alloc (Nat.le_refl _) o1).alloc (by simp) o2).alloc (by simp; omega) o3
  exact ⟨h.os, h.tape, h.output, h.size, h.block⟩
theorem set_next {ss : Array Value} {k : Nat} {f : Nat → Int} (hss : ∀ j h, ss[j]'h = Value.int .u64 (if j < k then f j else 0)) (j : Nat) (h : j < (ss.setIfInBounds k (.int .u64 (f k))).size) : (ss.setIfInBounds k (.int .u64 (f k)))[j]'h = Value.int .u64 (if j < k + 1 then f j else 0) := by
  have h' : j < ss.size := by simpa using h
  rw [Array.getElem_setIfInBounds]
  by_cases e : k = j
  · subst e; simp
  · rw [if_neg e, hss j h']
    by_cases e2 : j < k
    · simp [e2, Nat.lt_succ_of_lt e2]
    · simp [e2, show ¬ j < k + 1 by omega]
  exact h'

set_option maxHeartbeats 1000000 in
theorem limAdd1 (x y : Nat → Int) (w : World) (hx : Words x) (hy : Words y) :
    Calls Try.prog 10 #[.agg (arrOf x 1), .agg (arrOf y 1)] w fun e w' => e = .returned (.tuple #[.agg (arrOf (sumW x y) 1), .int .u64 (carryW x y 1)]) ∧ Below w.heap.size w w' := by
  have sx : (arrOf x 1).size = 1 := arrOf_size x 1
  have sy : (arrOf y 1).size = 1 := arrOf_size y 1
  have gx := fun i h => arrOf_get x 1 i h
  have gy := fun i h => arrOf_get y 1 i h
  generalize arrOf x 1 = ax at *
  generalize arrOf y 1 = ay at *
  go_enter Try.func10, Try.ntmps10
  go_wp2
  go_loopw [7, 8, 11, 14] (fun c u8 i u14 wr => ∃ (k m : Nat) (ss : Array Value), k ≤ 1 ∧ i = .int .i64 k ∧ c = .int .u64 (carryW x y k) ∧ ss.size = 1 ∧ (∀ j h, ss[j]'h = Value.int .u64 (if j < k then sumW x y j else 0)) ∧ wr = (((((w.alloc (.cells ax 25)).alloc (.cells ay 25)).alloc (.cells #[.int .u64 0] 25)).alloc (.cells ss 25)).drewN m)) (fun _ _ i _ _ => 1 - (intOf i).toNat)
  case atStart => exact ⟨0, 0, _, Nat.zero_le _, rfl, rfl, rfl, by intro j h; have h' : j < 1 := h; match j, h' with | 0, _ => rfl, rfl⟩
  case round =>
    obtain ⟨k, m, ss, hk, rfl, rfl, hsz, hss, rfl⟩ := hrel
    have hcar := carryW_01 hx hy k
    by_cases h8 : k < 1
    · have h8i : (k : Int) < 1 := by omega
      have h8s : k < ss.size := by omega
      have bx := hx k
      have b_y := hy k
      have hcx : (ax[k]'(by omega)) = .int .u64 (x k) := gx k _
      have hcy : (ay[k]'(by omega)) = .int .u64 (y k) := gy k _
      have hadd := fun w => add64 (x k) (y k) (carryW x y k) bx.1 b_y.1 hcar.1 hcar.2 w
      go_wp2
      go_region_held3 (fun w' => w'.cell? ⟨w.heap.size, k, none⟩ = some (.int .u64 (x k)) ∧ w'.cell? ⟨w.heap.size + 1, k, none⟩ = some (.int .u64 (y k))) ((simp [go_sem, hcx, hcy, sx, sy, h8])) (fail)
      go_wp2
      go_roundw
      case rel => exact ⟨k + 1, m + 1, ss.setIfInBounds k (.int .u64 (sumW x y k)), by omega, by go_num, rfl, by simp [hsz], set_next hss, rfl⟩
      case measure => simp [intOf]; omega
    · obtain rfl : k = 1 := by omega
      have hss' : ∀ j h, ss[j]'h = Value.int .u64 (sumW x y j) := by
        intro j h; rw [hss j h, if_pos (by omega)]
      clear hss
      go_wp2
      exact bodyPost_ret (v := .tuple #[.agg (arrOf (sumW x y) 1), .int .u64 (carryW x y 1)]) (by simp [results, Try.results10, go_sem]; rfl) rfl ⟨rfl, below_alloc4 _ _ _ _ _ _⟩

set_option maxHeartbeats 1000000 in
theorem limAdd2 (x y : Nat → Int) (w : World) (hx : Words x) (hy : Words y) :
    Calls Try.prog 11 #[.agg (arrOf x 2), .agg (arrOf y 2)] w fun e w' => e = .returned (.tuple #[.agg (arrOf (sumW x y) 2), .int .u64 (carryW x y 2)]) ∧ Below w.heap.size w w' := by
  have sx : (arrOf x 2).size = 2 := arrOf_size x 2
  have sy : (arrOf y 2).size = 2 := arrOf_size y 2
  have gx := fun i h => arrOf_get x 2 i h
  have gy := fun i h => arrOf_get y 2 i h
  generalize arrOf x 2 = ax at *
  generalize arrOf y 2 = ay at *
  go_enter Try.func11, Try.ntmps11
  go_wp2
  go_loopw [7, 8, 11, 14] (fun c u8 i u14 wr => ∃ (k m : Nat) (ss : Array Value), k ≤ 2 ∧ i = .int .i64 k ∧ c = .int .u64 (carryW x y k) ∧ ss.size = 2 ∧ (∀ j h, ss[j]'h = Value.int .u64 (if j < k then sumW x y j else 0)) ∧ wr = (((((w.alloc (.cells ax 28)).alloc (.cells ay 28)).alloc (.cells #[.int .u64 0, .int .u64 0] 28)).alloc (.cells ss 28)).drewN m)) (fun _ _ i _ _ => 2 - (intOf i).toNat)
  case atStart => exact ⟨0, 0, _, Nat.zero_le _, rfl, rfl, rfl, by intro j h; have h' : j < 2 := h; match j, h' with | 0, _ => rfl | 1, _ => rfl, rfl⟩
  case round =>
    obtain ⟨k, m, ss, hk, rfl, rfl, hsz, hss, rfl⟩ := hrel
    have hcar := carryW_01 hx hy k
    by_cases h8 : k < 2
    · have h8i : (k : Int) < 2 := by omega
      have h8s : k < ss.size := by omega
      have bx := hx k
      have b_y := hy k
      have hcx : (ax[k]'(by omega)) = .int .u64 (x k) := gx k _
      have hcy : (ay[k]'(by omega)) = .int .u64 (y k) := gy k _
      have hadd := fun w => add64 (x k) (y k) (carryW x y k) bx.1 b_y.1 hcar.1 hcar.2 w
      go_wp2
      go_region_held3 (fun w' => w'.cell? ⟨w.heap.size, k, none⟩ = some (.int .u64 (x k)) ∧ w'.cell? ⟨w.heap.size + 1, k, none⟩ = some (.int .u64 (y k))) ((simp [go_sem, hcx, hcy, sx, sy, h8])) (fail)
      go_wp2
      go_roundw
      case rel => exact ⟨k + 1, m + 1, ss.setIfInBounds k (.int .u64 (sumW x y k)), by omega, by go_num, rfl, by simp [hsz], set_next hss, rfl⟩
      case measure => simp [intOf]; omega
    · obtain rfl : k = 2 := by omega
      have hss' : ∀ j h, ss[j]'h = Value.int .u64 (sumW x y j) := by
        intro j h; rw [hss j h, if_pos (by omega)]
      clear hss
      go_wp2
      exact bodyPost_ret (v := .tuple #[.agg (arrOf (sumW x y) 2), .int .u64 (carryW x y 2)]) (by simp [results, Try.results11, go_sem]; rfl) rfl ⟨rfl, below_alloc4 _ _ _ _ _ _⟩

set_option maxHeartbeats 1000000 in
theorem limAdd4 (x y : Nat → Int) (w : World) (hx : Words x) (hy : Words y) :
    Calls Try.prog 13 #[.agg (arrOf x 4), .agg (arrOf y 4)] w fun e w' => e = .returned (.tuple #[.agg (arrOf (sumW x y) 4), .int .u64 (carryW x y 4)]) ∧ Below w.heap.size w w' := by
  have sx : (arrOf x 4).size = 4 := arrOf_size x 4
  have sy : (arrOf y 4).size = 4 := arrOf_size y 4
  have gx := fun i h => arrOf_get x 4 i h
  have gy := fun i h => arrOf_get y 4 i h
  generalize arrOf x 4 = ax at *
  generalize arrOf y 4 = ay at *
  go_enter Try.func13, Try.ntmps13
  go_wp2
  go_loopw [7, 8, 11, 14] (fun c u8 i u14 wr => ∃ (k m : Nat) (ss : Array Value), k ≤ 4 ∧ i = .int .i64 k ∧ c = .int .u64 (carryW x y k) ∧ ss.size = 4 ∧ (∀ j h, ss[j]'h = Value.int .u64 (if j < k then sumW x y j else 0)) ∧ wr = (((((w.alloc (.cells ax 32)).alloc (.cells ay 32)).alloc (.cells #[.int .u64 0, .int .u64 0, .int .u64 0, .int .u64 0] 32)).alloc (.cells ss 32)).drewN m)) (fun _ _ i _ _ => 4 - (intOf i).toNat)
  case atStart => exact ⟨0, 0, _, Nat.zero_le _, rfl, rfl, rfl, by intro j h; have h' : j < 4 := h; match j, h' with | 0, _ => rfl | 1, _ => rfl | 2, _ => rfl | 3, _ => rfl, rfl⟩
  case round =>
    obtain ⟨k, m, ss, hk, rfl, rfl, hsz, hss, rfl⟩ := hrel
    have hcar := carryW_01 hx hy k
    by_cases h8 : k < 4
    · have h8i : (k : Int) < 4 := by omega
      have h8s : k < ss.size := by omega
      have bx := hx k
      have b_y := hy k
      have hcx : (ax[k]'(by omega)) = .int .u64 (x k) := gx k _
      have hcy : (ay[k]'(by omega)) = .int .u64 (y k) := gy k _
      have hadd := fun w => add64 (x k) (y k) (carryW x y k) bx.1 b_y.1 hcar.1 hcar.2 w
      go_wp2
      go_region_held3 (fun w' => w'.cell? ⟨w.heap.size, k, none⟩ = some (.int .u64 (x k)) ∧ w'.cell? ⟨w.heap.size + 1, k, none⟩ = some (.int .u64 (y k))) ((simp [go_sem, hcx, hcy, sx, sy, h8])) (fail)
      go_wp2
      go_roundw
      case rel => exact ⟨k + 1, m + 1, ss.setIfInBounds k (.int .u64 (sumW x y k)), by omega, by go_num, rfl, by simp [hsz], set_next hss, rfl⟩
      case measure => simp [intOf]; omega
    · obtain rfl : k = 4 := by omega
      have hss' : ∀ j h, ss[j]'h = Value.int .u64 (sumW x y j) := by
        intro j h; rw [hss j h, if_pos (by omega)]
      clear hss
      go_wp2
      exact bodyPost_ret (v := .tuple #[.agg (arrOf (sumW x y) 4), .int .u64 (carryW x y 4)]) (by simp [results, Try.results13, go_sem]; rfl) rfl ⟨rfl, below_alloc4 _ _ _ _ _ _⟩

set_option maxHeartbeats 1000000 in
theorem limAdd8 (x y : Nat → Int) (w : World) (hx : Words x) (hy : Words y) :
    Calls Try.prog 15 #[.agg (arrOf x 8), .agg (arrOf y 8)] w fun e w' => e = .returned (.tuple #[.agg (arrOf (sumW x y) 8), .int .u64 (carryW x y 8)]) ∧ Below w.heap.size w w' := by
  have sx : (arrOf x 8).size = 8 := arrOf_size x 8
  have sy : (arrOf y 8).size = 8 := arrOf_size y 8
  have gx := fun i h => arrOf_get x 8 i h
  have gy := fun i h => arrOf_get y 8 i h
  generalize arrOf x 8 = ax at *
  generalize arrOf y 8 = ay at *
  go_enter Try.func15, Try.ntmps15
  go_wp2
  go_loopw [7, 8, 11, 14] (fun c u8 i u14 wr => ∃ (k m : Nat) (ss : Array Value), k ≤ 8 ∧ i = .int .i64 k ∧ c = .int .u64 (carryW x y k) ∧ ss.size = 8 ∧ (∀ j h, ss[j]'h = Value.int .u64 (if j < k then sumW x y j else 0)) ∧ wr = (((((w.alloc (.cells ax 23)).alloc (.cells ay 23)).alloc (.cells #[.int .u64 0, .int .u64 0, .int .u64 0, .int .u64 0, .int .u64 0, .int .u64 0, .int .u64 0, .int .u64 0] 23)).alloc (.cells ss 23)).drewN m)) (fun _ _ i _ _ => 8 - (intOf i).toNat)
  case atStart => exact ⟨0, 0, _, Nat.zero_le _, rfl, rfl, rfl, by intro j h; have h' : j < 8 := h; match j, h' with | 0, _ => rfl | 1, _ => rfl | 2, _ => rfl | 3, _ => rfl | 4, _ => rfl | 5, _ => rfl | 6, _ => rfl | 7, _ => rfl, rfl⟩
  case round =>
    obtain ⟨k, m, ss, hk, rfl, rfl, hsz, hss, rfl⟩ := hrel
    have hcar := carryW_01 hx hy k
    by_cases h8 : k < 8
    · have h8i : (k : Int) < 8 := by omega
      have h8s : k < ss.size := by omega
      have bx := hx k
      have b_y := hy k
      have hcx : (ax[k]'(by omega)) = .int .u64 (x k) := gx k _
      have hcy : (ay[k]'(by omega)) = .int .u64 (y k) := gy k _
      have hadd := fun w => add64 (x k) (y k) (carryW x y k) bx.1 b_y.1 hcar.1 hcar.2 w
      go_wp2
      go_region_held3 (fun w' => w'.cell? ⟨w.heap.size, k, none⟩ = some (.int .u64 (x k)) ∧ w'.cell? ⟨w.heap.size + 1, k, none⟩ = some (.int .u64 (y k))) ((simp [go_sem, hcx, hcy, sx, sy, h8])) (fail)
      go_wp2
      go_roundw
      case rel => exact ⟨k + 1, m + 1, ss.setIfInBounds k (.int .u64 (sumW x y k)), by omega, by go_num, rfl, by simp [hsz], set_next hss, rfl⟩
      case measure => simp [intOf]; omega
    · obtain rfl : k = 8 := by omega
      have hss' : ∀ j h, ss[j]'h = Value.int .u64 (sumW x y j) := by
        intro j h; rw [hss j h, if_pos (by omega)]
      clear hss
      go_wp2
      exact bodyPost_ret (v := .tuple #[.agg (arrOf (sumW x y) 8), .int .u64 (carryW x y 8)]) (by simp [results, Try.results15, go_sem]; rfl) rfl ⟨rfl, below_alloc4 _ _ _ _ _ _⟩
end Go.Proofs.Ytbbjkpcccimcbaa
