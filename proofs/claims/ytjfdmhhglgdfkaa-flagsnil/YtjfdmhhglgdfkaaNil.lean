/-
  The law FlagsNil: it returns true.
-/
import Derived.Test.YtjfdmhhglgdfkaaAwk
set_option linter.unusedVariables false
set_option linter.unusedSimpArgs false
namespace Go.Proofs.Ytjfdmhhglgdfkaa
open Go.RowKit

theorem together_nil (v : Value) (w : World) :
    Calls Try.prog 16 #[.pointer none, v] w fun e w' => e = .returned (.tuple #[]) ∧ Below w.heap.size w w' := by
  go_enter Try.func16, Try.ntmps16
  go_wp2
  first | go_end0 | refine bodyPost_ret (results_none rfl _ _ _) rfl ?_
  exact ⟨rfl, (Below.refl _ _).alloc (Nat.le_refl _) _⟩
theorem share_nil (n m : Int) (w : World) :
    Calls Try.prog 17 #[.pointer none, .int .i64 n, .int .i64 m] w fun e w' => e = .returned (.slice none 0 0) ∧ Below w.heap.size w w' := by
  go_enter Try.func17, Try.ntmps17
  go_wp2
  go_ret
  exact ⟨rfl, ((Below.refl _ _).alloc (Nat.le_refl _) _).alloc (by simp) _⟩
set_option maxHeartbeats 800000 in
theorem flagsNil_any (n : Int) (w : World) :
    Calls Try.prog 7 #[.int .i64 n] w fun e w' => e = .returned (.bool true) ∧ Below w.heap.size w w' := by
  go_enter Try.func7, Try.ntmps7
  go_wp2_with (first | (go_at_call 8; refine (awake_any _).mono ?_; rintro e w0 ⟨rfl, b0⟩) | (go_at_call 10; refine (raise_nil n _).mono ?_; rintro e w1 ⟨rfl, rfl⟩) | (go_at_call 13; refine (set_nil 1 _).mono ?_; rintro e w1 ⟨rfl, rfl⟩))
  refine (together_nil _ _).mono ?_
  rintro e w2 ⟨rfl, b2⟩
  have bx : Below w.heap.size w (w1.alloc (.cells #[.int .i64 n] 3)) := b0.alloc b0.size _
  have by' : Below w.heap.size w ((w1.alloc (.cells #[.int .i64 n] 3)).alloc (.cells #[.slice (some ⟨w1.heap.size, 0, none⟩) 1 1] 45)) := bx.alloc bx.size _
  have b3 := by'.trans (b2.mono by'.size)
  clear b2 b0 bx by'
  go_wp2_with (go_at_call 17; refine (share_nil n 2 _).mono ?_; rintro e w4 ⟨rfl, b4⟩)
  have b5 := b3.trans (b4.mono b3.size)
  clear b3 b4 w2
  go_wp2_with (first | (go_at_call 14; refine (flags_nil _).mono ?_; rintro e w5 ⟨rfl, rfl⟩) | (go_at_call 12; refine (test_nil n _).mono ?_; rintro e w5 ⟨rfl, rfl⟩) | (go_at_call 11; refine (clear_nil n _).mono ?_; rintro e w5 ⟨rfl, rfl⟩) | (go_at_call 15; refine (direction_nil _).mono ?_; rintro e w5 ⟨rfl, rfl⟩))
  go_ret
  exact ⟨rfl, b5⟩
end Go.Proofs.Ytjfdmhhglgdfkaa
