/-
  What limbs.Add does at each width: contracts.
-/
import Derived.Test.YtemhpdhplbcgjaaDoorArr
import Derived.Deep.RegionHeld3
import Derived.Deep.DrawnRows
set_option maxRecDepth 20000
set_option maxRecDepth 20000
namespace Go.Proofs.YtemhpdhplbcgjaaDoor
open Go.RowKit
attribute [local go_sem ↓] Go.wp_at_zero Go.wp_at_succ
theorem setCell_drewN (w : World) (n : Nat) (a : Addr) (v : Value) : (w.drewN n).setCell a v = (w.setCell a v).drewN n := rfl
theorem alloc_drewN (w : World) (n : Nat) (o : Obj) : (w.drewN n).alloc o = (w.alloc o).drewN n := rfl
attribute [local go_sem] setCell_drewN alloc_drewN

/-- the carry into word k, and the sum's words -/
def carryW (x y : Nat → Int) : Nat → Int
  | 0 => 0
  | k + 1 => (x k + y k + carryW x y k) / 18446744073709551616
def sumW (x y : Nat → Int) (k : Nat) : Int := (x k + y k + carryW x y k) % 18446744073709551616

def Words (x : Nat → Int) : Prop := ∀ i, 0 ≤ x i ∧ x i ≤ 18446744073709551615
theorem carryW_01 {x y : Nat → Int} (hx : Words x) (hy : Words y) (k : Nat) : 0 ≤ carryW x y k ∧ carryW x y k ≤ 1 := by
  induction k with
  | zero => simp [carryW]
  | succ k ih => have := hx k; have := hy k; simp only [carryW]; omega
/-- the borrow from word k, and the difference's words -/
def borW (x y : Nat → Int) : Nat → Int
  | 0 => 0
  | k + 1 => bor (x k) (y k) (borW x y k)
def difW (x y : Nat → Int) (k : Nat) : Int := (x k - y k - borW x y k) % 18446744073709551616
theorem bor_01 (x y b : Int) : 0 ≤ bor x y b ∧ bor x y b ≤ 1 := by unfold bor; split <;> omega
theorem borW_01 (x y : Nat → Int) (k : Nat) : 0 ≤ borW x y k ∧ borW x y k ≤ 1 := by
  cases k with
  | zero => simp [borW]
  | succ k => exact bor_01 _ _ _

theorem below_alloc4 (w : World) (o1 o2 o3 o4 : Obj) (m : Nat) : Below w.heap.size w ((((((w.alloc o1).alloc o2).alloc o3).alloc o4).drewN m)) := by
  have h := ((((Below.refl w.heap.size w).alloc (Nat.le_refl _) o1).alloc (by simp) o2).alloc (by simp; omega) o3).alloc (by simp; omega) o4
  exact ⟨h.os, h.tape, h.output, h.size, h.block⟩
theorem below_alloc3 (w : World) (o1 o2 o3 : Obj) (m : Nat) : Below w.heap.size w (((((w.alloc o1).alloc o2).alloc o3).drewN m)) := by
  have h := (((Below.refl w.heap.size w).alloc (Nat.le_refl _) o1).alloc (by simp) o2).alloc (by simp; omega) o3
  exact ⟨h.os, h.tape, h.output, h.size, h.block⟩
theorem set_next {ss : Array Value} {k : Nat} {f : Nat → Int} (hss : ∀ j h, ss[j]'h = Value.int .u64 (if j < k then f j else 0)) (j : Nat) (h : j < (ss.setIfInBounds k (.int .u64 (f k))).size) : (ss.setIfInBounds k (.int .u64 (f k)))[j]'h = Value.int .u64 (if j < k + 1 then f j else 0) := by
  have h' : j < ss.size := by simpa using h
  rw [Array.getElem_setIfInBounds]
  by_cases e : k = j
  · subst e; simp
  · rw [if_neg e, hss j h']
    by_cases e2 : j < k
    · simp [e2, Nat.lt_succ_of_lt e2]
    · simp [e2, show ¬ j < k + 1 by omega]
  exact h'





end Go.Proofs.YtemhpdhplbcgjaaDoor
