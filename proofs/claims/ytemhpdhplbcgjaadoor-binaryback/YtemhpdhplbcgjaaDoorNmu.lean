/-
  What nat's mulAdd, addProduct and Mul do: contracts.
-/
import Derived.Test.YtemhpdhplbcgjaaDoorAdds
set_option linter.unusedVariables false
set_option linter.unusedSimpArgs false
set_option maxRecDepth 20000
set_option maxRecDepth 20000
namespace Go.Proofs.YtemhpdhplbcgjaaDoor
open Go.RowKit

theorem low_high {l h t : Int} (e : l + h * 18446744073709551616 = t) (h0 : 0 ≤ l) (h1 : l ≤ 18446744073709551615) : t % 18446744073709551616 = l ∧ t / 18446744073709551616 = h := by omega

set_option maxHeartbeats 1000000 in
set_option maxHeartbeats 1000000 in
theorem apart_of {w : World} {a : Option Addr} {n c : Nat} {x : Nat → Int} (h : Num w a n c x) : Apart a w.heap.size := by
  intro p hp
  rcases h.2.2.2.2 with ⟨h, _⟩ | ⟨b, off, h, hb, _⟩
  · rw [h] at hp; cases hp
  · rw [h] at hp; cases hp; exact Nat.ne_of_lt hb
theorem val_zero : ∀ m, val (fun _ => 0) m = 0 := by intro m; induction m with | zero => rfl | succ m ih => simp only [val]; rw [ih]; simp

set_option maxHeartbeats 2000000 in
set_option maxHeartbeats 400000 in
def mulE (s s' : Nat) : Int := if 2000 < s + s' then 4 else 0
def mulV (s s' : Nat) (V W : Int) : Int := if 2000 < s + s' then 0 else V * W
end Go.Proofs.YtemhpdhplbcgjaaDoor
