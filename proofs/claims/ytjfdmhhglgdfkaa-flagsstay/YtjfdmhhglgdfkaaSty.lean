/-
  The law FlagsStay: it returns true.
-/
import Derived.Test.YtjfdmhhglgdfkaaAwk
set_option linter.unusedVariables false
set_option linter.unusedSimpArgs false
namespace Go.Proofs.Ytjfdmhhglgdfkaa
open Go.RowKit

/-- a slice of integers -/
def Ints (w : World) (a : Option Addr) (n : Nat) (x : Nat → Int) : Prop :=
  n ≤ 9223372036854775807 ∧ ((a = none ∧ n = 0) ∨ ∃ b off, a = some ⟨b, off, none⟩ ∧ b < w.heap.size ∧ ∀ i, i < n → w.cell? ⟨b, off + i, none⟩ = some (.int .i64 (x i)))
theorem Ints.below {w w' : World} {a : Option Addr} {n : Nat} {x : Nat → Int} (h : Ints w a n x) (hB : Below w.heap.size w w') : Ints w' a n x := by
  obtain ⟨h0, h⟩ := h
  rcases h with h | ⟨b, off, rfl, hb, hc⟩
  · exact ⟨h0, Or.inl h⟩
  · exact ⟨h0, Or.inr ⟨b, off, rfl, Nat.lt_of_lt_of_le hb hB.size, fun i hi => (hB.cell (p := ⟨b, off + i, none⟩) hb).trans (hc i hi)⟩⟩

theorem stay_bits1 (r f o : BitVec 4) (h : r &&& f = f) : (r ||| o) &&& f = f := by
  revert r f o; decide
theorem stay_bits2 (r f o : BitVec 4) (h : r &&& f = f) : (r &&& ~~~ (o &&& ~~~ f)) &&& f = f := by
  revert r f o; decide

set_option maxHeartbeats 800000 in
theorem flagsStay_any (f : Int) (a : Option Addr) (n c : Nat) (x : Nat → Int) (w : World) (hx : Ints w a n x) :
    Calls Try.prog 4 #[.int .i64 f, .slice a n c] w fun e w' => e = .returned (.bool true) ∧ Below w.heap.size w w' := by
  have hn := hx.1
  have HX : Hid (Ints w a n x) := hx
  clear hx
  go_enter Try.func4, Try.ntmps4
  go_wp2_with (go_at_call 8; refine (awake_any _).mono ?_; rintro e w0 ⟨rfl, b0⟩)
  go_wp2_with (go_at_call 9; refine (new_any _).mono ?_; rintro e w1 ⟨rfl, rfl⟩)
  have c0 := Ctx.new w0
  have b1 : Below w.heap.size w (w0.alloc (.cells #[.int .u32 0, .int .i32 0] 34)) := b0.alloc b0.size _
  have hg : w.heap.size ≤ w0.heap.size := b0.size
  clear b0
  go_wp2_with (go_at_call 10; refine (raise_any w0.heap.size 0#4 0 f _ c0).mono ?_; rintro e w2 ⟨rfl, c1, u1⟩)
  have b2 := b1.trans (u1.below hg)
  clear u1 b1 c0
  generalize w0.heap.size = g at *
  have h0 : (0#4 ||| L f) &&& L f = L f := by generalize L f = z; revert z; decide
  have C1 : Hid (Ctx g (0#4 ||| L f) 0 w2) := c1
  clear c1 w0
  go_wp2_with fail
  go_loopw [6, 15] (fun u6 i wr => ∃ (k : Nat) (r : BitVec 4), k ≤ n ∧ i = .int .i64 k ∧ Hid (r &&& L f = L f) ∧ Ctx g r 0 wr ∧ Below w.heap.size w wr) (fun _ i _ => n - (intOf i).toNat)
  case atStart => exact ⟨0, _, Nat.zero_le _, rfl, h0, C1.out, b2⟩
  case round =>
    obtain ⟨k, r, hk, rfl, hr, hC, hB⟩ := hrel
    clear b2 C1 h0
    by_cases hlt : k < n
    · have hki : (k : Int) < n := by omega
      obtain ⟨_, hx⟩ := HX.out.below hB
      rcases hx with ⟨_, hx⟩ | ⟨b, off, rfl, hb, hcell⟩
      · omega
      have hck := hcell k hlt
      have q1 : r ||| L (x k) = r ||| L (x k) := rfl
      have f15 := and15 f
      have s1 := and64 (r ||| L (x k)) f
      rw [stay_bits1 _ _ (L (x k)) hr.out] at s1
      have s2 := and64 (r &&& ~~~ L (bits .andNot .i64 (x k) f)) f
      rw [L_andNot, stay_bits2 _ _ (L (x k)) hr.out] at s2
      have l2 : L (bits .andNot .i64 (x k) f) = L (x k) &&& ~~~ L f := L_andNot _ _
      have R1 : Hid ((r ||| L (x k)) &&& L f = L f) := stay_bits1 _ _ (L (x k)) hr.out
      have R2 : Hid ((r &&& ~~~ (L (x k) &&& ~~~ L f)) &&& L f = L f) := stay_bits2 _ _ (L (x k)) hr.out
      have HC : Hid (Ctx g r 0 wr) := hC
      have HL : Hid (L (bits .andNot .i64 (x k) f) = L (x k) &&& ~~~ L f) := l2
      clear hcell hC l2 hr q1
      have HB : Hid (Below w.heap.size w wr) := hB
      clear hB
      go_wp2_with (first | (go_at_call 10; refine (raise_any g r 0 (x k) _ HC.out).mono ?_; rintro e w3 ⟨rfl, c3, u3⟩) | (go_at_call 11; refine (clear_any g r 0 (bits .andNot .i64 (x k) f) _ HC.out).mono ?_; rintro e w3 ⟨rfl, c3, u3⟩; rw [HL.out] at c3) | (go_at_call 14; refine (flags_any g _ 0 _ c3).mono ?_; rintro e w4 ⟨rfl, rfl⟩))
      all_goals
        go_roundw
        case rel => exact ⟨k + 1, _, by omega, by go_num, by first | exact R1 | exact R2, c3, HB.out.trans (u3.below hg)⟩
        case measure => simp [intOf]; omega
    · obtain rfl : k = n := by omega
      go_wp2
      go_ret
      exact ⟨rfl, hB⟩
end Go.Proofs.Ytjfdmhhglgdfkaa
