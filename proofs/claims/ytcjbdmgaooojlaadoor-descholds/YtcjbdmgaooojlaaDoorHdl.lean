/-
  The law DescHolds: it returns true.
-/
import Derived.Test.YtcjbdmgaooojlaaDoorHld
set_option linter.unusedVariables false
set_option linter.unusedSimpArgs false
namespace Go.Proofs.YtcjbdmgaooojlaaDoor
open Go.RowKit

theorem holds_is {f g : Int} {b : Bool} (hb : decide (holdsP f g) = b) {w0 w : World} (hT : Tab w0) (h0 : Below w0.heap.size w0 w) :
    Calls Tryd.prog 14 #[.int .i64 f, .int .i64 g] w fun e w' => e = .returned (.bool b) ∧ Below w0.heap.size w0 w' :=
  (holds_any f g w (hT.go h0)).mono fun e w' h => ⟨hb ▸ h.1, h0.trans (h.2.mono h0.size)⟩
theorem rholds_is {f g : Int} {b : Bool} (hb : decide (holdsP f g) = b) {w0 w : World} (h0 : Below w0.heap.size w0 w) :
    Calls Tryd.prog 15 #[.int .i64 f, .int .i64 g] w fun e w' => e = .returned (.bool b) ∧ Below w0.heap.size w0 w' :=
  (rholds_any f g w).mono fun e w' h => ⟨hb ▸ h.1, h0.trans (h.2.mono h0.size)⟩
theorem of_is {n z : Int} (hz : infoE n = z) {w0 w : World} (hT : Tab w0) (h0 : Below w0.heap.size w0 w) :
    Calls Tryd.prog 10 #[.int .i64 n] w fun e w' => e = .returned (.tuple #[.agg #[.int .i64 (numN n), .string (nameN n), .int .i64 (baseN n), .int .i64 (widthN n), .int .i64 (precN n), .int .i64 (expN n), .int .i64 (leastN n), .int .i64 (mostN n), .int .i64 (payN n), .bool (denseN n)], .int .i64 z]) ∧ Below w0.heap.size w0 w' :=
  (ofv_any n w (hT.go h0)).mono fun e w' h => ⟨hz ▸ h.1, h0.trans (h.2.mono h0.size)⟩

theorem holds_law_ways {f g h : Int} (R : Prop)
    (r : ∀ (b0 b1 b2 b3 : Bool) (z : Int), decide (holdsP f f) = b0 → infoE f = z → (b0 = true ∧ z = 0 ∨ b0 = false ∧ z = 1) → decide (holdsP f g) = b1 → decide (holdsP g h) = b2 → decide (holdsP f h) = b3 → (b1 = false ∨ b1 = true ∧ b2 = false ∨ b1 = true ∧ b2 = true ∧ b3 = true) → R) : R := by
  refine r _ _ _ _ _ rfl rfl ?_ rfl rfl rfl ?_
  · by_cases k : okN f
    · exact .inl ⟨decide_eq_true ((holdsP_self f).2 k), if_pos k⟩
    · exact .inr ⟨decide_eq_false (fun q => k ((holdsP_self f).1 q)), if_neg k⟩
  · by_cases k1 : holdsP f g
    · by_cases k2 : holdsP g h
      · exact .inr (.inr ⟨decide_eq_true k1, decide_eq_true k2, decide_eq_true (holdsP_trans k1 k2)⟩)
      · exact .inr (.inl ⟨decide_eq_true k1, decide_eq_false k2⟩)
    · exact .inl (decide_eq_false k1)

set_option maxHeartbeats 1000000 in
theorem descHolds_any (f g h : Int) (w : World) (hT : Tab w) :
    Calls Tryd.prog 4 #[.int .i64 f, .int .i64 g, .int .i64 h] w fun e w' => e = .returned (.bool true) ∧ Below w.heap.size w w' := by
  refine holds_law_ways (f := f) (g := g) (h := h) _ ?_
  intro b0 b1 b2 b3 z e0 ez k0 e1 e2 e3 k
  rcases k0 with ⟨rfl, rfl⟩ | ⟨rfl, rfl⟩
  all_goals
    rcases k with rfl | ⟨rfl, rfl⟩ | ⟨rfl, rfl, rfl⟩
    all_goals
      have c0 := fun a b {w'} => holds_is (f := a) (g := b) (w := w') rfl hT
      have c4 := fun {w'} => rholds_is (w0 := w) (w := w') e1
      have c5 := fun {w'} => of_is (w := w') ez hT
      have c6 := awake_any w hT
      clear ez
      go_enter Tryd.func4, Tryd.ntmps4
      go_wp2_with (first
        | (go_at_call 9; refine c6.mono ?_; rintro e wa ⟨rfl, hB⟩)
        | (go_at_call 15; refine (c4 hB).mono ?_; clear hB; rintro e wb ⟨rfl, hB⟩)
        | (go_at_call 10; refine (c5 hB).mono ?_; rintro e wc ⟨rfl, hC⟩; replace hB := hC.alloc hC.size (.cells #[.int .i64 (numN f), .string (nameN f), .int .i64 (baseN f), .int .i64 (widthN f), .int .i64 (precN f), .int .i64 (expN f), .int .i64 (leastN f), .int .i64 (mostN f), .int .i64 (payN f), .bool (denseN f)] 24); clear hC)
        | (go_at_call 14; refine (c0 _ _ hB).mono ?_; clear hB; rintro e wd ⟨rfl, hB⟩; simp only [e0, e1, e2, e3]))
      go_ret
      exact ⟨rfl, hB⟩
end Go.Proofs.YtcjbdmgaooojlaaDoor
