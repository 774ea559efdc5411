/-
  Texts that the proof leans on.
-/
import Derived.Test.YtpemdcnneabbfaaDoorJ12
import Derived.Test.YtpemdcnneabbfaaDoorJ15
import Derived.Test.YtpemdcnneabbfaaDoorJ14
import Derived.Test.YtpemdcnneabbfaaDoorJ11
import Derived.Deep.QuietTactic
import Derived.BigQuiet
set_option linter.unusedVariables false
set_option linter.unusedSimpArgs false
set_option linter.unusedSectionVars false
set_option maxRecDepth 20000
namespace Go.Proofs.YtpemdcnneabbfaaDoor
open Go.RowKit
section
def fitsP (n : Int) (x : Nat → Int) : Prop := okN n ∧ lenL (lowW x 4) 4 ≤ widthN n
instance (n : Int) (x : Nat → Int) : Decidable (fitsP n x) := inferInstanceAs (Decidable (_ ∧ _))
theorem box_num {w0 w : World} {ax : Array Value} {t : TypeId} {x : Nat → Int} (hx : Words x) (hax : ∀ i, i < 4 → ax[i]? = some (.int .u64 (x i))) (hb : Below (w0.alloc (.cells ax t)).heap.size (w0.alloc (.cells ax t)) w) :
    Num w (some ⟨w0.heap.size, 0, none⟩) 4 4 (lowW x 4) :=
  ((HasN.of_alloc w0 ax t 4 x hax).next hb).num hx (Nat.le_refl _) (Nat.le_refl _) (by unfold maxLen; omega)
theorem below_drewF {B : Nat} {a w : World} {m : Nat} (h : Below B a w) : Below B a (w.drewN m) := ⟨h.os, h.tape, h.output, h.size, h.block⟩
theorem num_drewN {w : World} {a : Option Addr} {n c : Nat} {x : Nat → Int} (h : Num w a n c x) (m : Nat) : Num (w.drewN m) a n c x := h
set_option maxHeartbeats 1000000 in
theorem fits_any (n : Int) (x : Nat → Int) (hx : Words x) (ax : Array Value) (hax : ∀ i, i < 4 → ax[i]? = some (.int .u64 (x i))) (hs : ax.size = 4) (w : World) (hT : Tab w) :
    Calls Tryd.prog 20 #[.int .i64 n, .agg ax] w fun e w' => e = .returned (.bool (decide (fitsP n x))) ∧ Below w.heap.size w w' := by
  have c1 := fun w hT => ofv_any n w hT
  have f1 := fields_bounds n
  by_cases hn : okN n
  · have hE : infoE n = 0 := if_pos hn
    rw [hE] at c1
    have hd : decide (fitsP n x) = decide (lenL (lowW x 4) 4 ≤ widthN n) := by unfold fitsP; simp [hn]
    go_enter Tryd.func20, Tryd.ntmps20
    go_wp2_with (go_at_call 32; refine (c1 _ (hT.alloc _)).mono ?_; rintro e w1 ⟨rfl, hb⟩)
    have hN := ((box_num hx hax hb).next (below1' w1 (.cells #[.int .i64 (numN n), .string (nameN n), .int .i64 (baseN n), .int .i64 (widthN n), .int .i64 (precN n), .int .i64 (expN n), .int .i64 (leastN n), .int .i64 (mostN n), .int .i64 (payN n), .bool (denseN n)] 55)))
    have cl := fun m => (nlen_any _ _ _ _ _ (by decide) (num_drewN hN m)).mono (fun e w' h => (⟨h.1, h.2.symm⟩ : e = .returned (.int .i64 (lenL (lowW x 4) 4)) ∧ w' = _))
    clear hN
    go_quiet ((go_at_call 33; exact Calls.quiet_of_same (cl _)))
    all_goals
      go_wp2
      go_ret
      refine ⟨?_, below_drewF (((below1' w _).trans (hb.mono (below1' w _).size)).alloc (Nat.le_trans (below1' w _).size hb.size) _)⟩
      rw [hd]
      rfl
  · have hE : infoE n = 1 := if_neg hn
    rw [hE] at c1
    have hd : decide (fitsP n x) = false := decide_eq_false fun h => hn h.1
    rw [hd]
    go_enter Tryd.func20, Tryd.ntmps20
    go_wp2_with (go_at_call 32; refine (c1 _ (hT.alloc _)).mono ?_; rintro e w1 ⟨rfl, hb⟩)
    go_quiet (fail)
    all_goals
      go_wp2
      go_ret
      exact ⟨rfl, below_drewF (((below1' w _).trans (hb.mono (below1' w _).size)).alloc (Nat.le_trans (below1' w _).size hb.size) _)⟩
end
end Go.Proofs.YtpemdcnneabbfaaDoor
