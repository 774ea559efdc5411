/-
  What Fits and the document's Fits do; the law DescFits: it returns true.
-/
import Derived.Test.YtcjbdmgaooojlaaDoorHld
import Derived.Test.YtcjbdmgaooojlaaDoorNln
import Derived.Deep.QuietTactic
import Derived.BigQuiet
set_option linter.unusedVariables false
set_option linter.unusedSimpArgs false
namespace Go.Proofs.YtcjbdmgaooojlaaDoor
open Go.RowKit

def fitsP (n : Int) (x : Nat → Int) : Prop := okN n ∧ lenL (lowW x 4) 4 ≤ widthN n
instance (n : Int) (x : Nat → Int) : Decidable (fitsP n x) := inferInstanceAs (Decidable (_ ∧ _))
theorem box_num {w0 w : World} {ax : Array Value} {t : TypeId} {x : Nat → Int} (hx : Words x) (hax : ∀ i, i < 4 → ax[i]? = some (.int .u64 (x i))) (hb : Below (w0.alloc (.cells ax t)).heap.size (w0.alloc (.cells ax t)) w) :
    Num w (some ⟨w0.heap.size, 0, none⟩) 4 4 (lowW x 4) :=
  ((HasN.of_alloc w0 ax t 4 x hax).next hb).num hx (Nat.le_refl _) (Nat.le_refl _) (by unfold maxLen; omega)
theorem below_drewN {B : Nat} {a w : World} {m : Nat} (h : Below B a w) : Below B a (w.drewN m) := ⟨h.os, h.tape, h.output, h.size, h.block⟩
theorem num_drewN {w : World} {a : Option Addr} {n c : Nat} {x : Nat → Int} (h : Num w a n c x) (m : Nat) : Num (w.drewN m) a n c x := h
theorem num_drew {w : World} {a : Option Addr} {n c : Nat} {x : Nat → Int} (h : Num w a n c x) : Num w.drew a n c x := h

set_option maxHeartbeats 1000000 in
theorem fits_any (n : Int) (x : Nat → Int) (hx : Words x) (ax : Array Value) (hax : ∀ i, i < 4 → ax[i]? = some (.int .u64 (x i))) (hs : ax.size = 4) (w : World) (hT : Tab w) :
    Calls Tryd.prog 16 #[.int .i64 n, .agg ax] w fun e w' => e = .returned (.bool (decide (fitsP n x))) ∧ Below w.heap.size w w' := by
  have c1 := fun w hT => ofv_any n w hT
  have f1 := fields_bounds n
  by_cases hn : okN n
  · have hE : infoE n = 0 := if_pos hn
    rw [hE] at c1
    have hd : decide (fitsP n x) = decide (lenL (lowW x 4) 4 ≤ widthN n) := by unfold fitsP; simp [hn]
    go_enter Tryd.func16, Tryd.ntmps16
    go_wp2_with (go_at_call 10; refine (c1 _ (hT.alloc _)).mono ?_; rintro e w1 ⟨rfl, hb⟩)
    have hN := ((box_num hx hax hb).next (below1' w1 (.cells #[.int .i64 (numN n), .string (nameN n), .int .i64 (baseN n), .int .i64 (widthN n), .int .i64 (precN n), .int .i64 (expN n), .int .i64 (leastN n), .int .i64 (mostN n), .int .i64 (payN n), .bool (denseN n)] 24)))
    have cl := fun m => (nlen_any _ _ _ _ _ (by decide) (num_drewN hN m)).mono (fun e w' h => (⟨h.1, h.2.symm⟩ : e = .returned (.int .i64 (lenL (lowW x 4) 4)) ∧ w' = _))
    clear hN
    go_quiet ((go_at_call 29; exact Calls.quiet_of_same (cl _)))
    all_goals
      go_wp2
      go_ret
      refine ⟨?_, below_drewN (((below1' w _).trans (hb.mono (below1' w _).size)).alloc (Nat.le_trans (below1' w _).size hb.size) _)⟩
      rw [hd]
      rfl
  · have hE : infoE n = 1 := if_neg hn
    rw [hE] at c1
    have hd : decide (fitsP n x) = false := decide_eq_false fun h => hn h.1
    rw [hd]
    go_enter Tryd.func16, Tryd.ntmps16
    go_wp2_with (go_at_call 10; refine (c1 _ (hT.alloc _)).mono ?_; rintro e w1 ⟨rfl, hb⟩)
    go_quiet (fail)
    all_goals
      go_wp2
      go_ret
      exact ⟨rfl, below_drewN (((below1' w _).trans (hb.mono (below1' w _).size)).alloc (Nat.le_trans (below1' w _).size hb.size) _)⟩

set_option maxHeartbeats 1000000 in
theorem rfits_any (n : Int) (x : Nat → Int) (hx : Words x) (ax : Array Value) (hax : ∀ i, i < 4 → ax[i]? = some (.int .u64 (x i))) (hs : ax.size = 4) (w : World) :
    Calls Tryd.prog 17 #[.int .i64 n, .agg ax] w fun e w' => e = .returned (.bool (decide (fitsP n x))) ∧ Below w.heap.size w w' := by
  have c1 := fun w => rofv_any n w
  have f1 := fields_bounds n
  by_cases hn : okN n
  · have hE : infoE n = 0 := if_pos hn
    rw [hE] at c1
    have hd : decide (fitsP n x) = decide (lenL (lowW x 4) 4 ≤ widthN n) := by unfold fitsP; simp [hn]
    go_enter Tryd.func17, Tryd.ntmps17
    go_wp2_with (go_at_call 11; refine (c1 _).mono ?_; rintro e w1 ⟨rfl, hb⟩)
    have hN := ((box_num hx hax hb).next (below1' w1 (.cells #[.int .i64 (numN n), .string (nameN n), .int .i64 (baseN n), .int .i64 (widthN n), .int .i64 (precN n), .int .i64 (expN n), .int .i64 (leastN n), .int .i64 (mostN n), .int .i64 (payN n), .bool (denseN n)] 28)))
    have cl := fun m => (rlen_num _ _ _ _ _ (by decide) (num_drewN hN m)).mono (fun e w' h => (⟨h.1, h.2.symm⟩ : e = .returned (.int .i64 (lenL (lowW x 4) 4)) ∧ w' = _))
    clear hN
    go_quiet ((go_at_call 30; exact Calls.quiet_of_same (cl _)))
    all_goals
      go_wp2
      go_ret
      refine ⟨?_, below_drewN (((below1' w _).trans (hb.mono (below1' w _).size)).alloc (Nat.le_trans (below1' w _).size hb.size) _)⟩
      rw [hd]
      rfl
  · have hE : infoE n = 1 := if_neg hn
    rw [hE] at c1
    have hd : decide (fitsP n x) = false := decide_eq_false fun h => hn h.1
    rw [hd]
    go_enter Tryd.func17, Tryd.ntmps17
    go_wp2_with (go_at_call 11; refine (c1 _).mono ?_; rintro e w1 ⟨rfl, hb⟩)
    go_quiet (fail)
    all_goals
      go_wp2
      go_ret
      exact ⟨rfl, below_drewN (((below1' w _).trans (hb.mono (below1' w _).size)).alloc (Nat.le_trans (below1' w _).size hb.size) _)⟩

/-- the boxed pattern stands, nothing elder than the call has turned -/
def FP (w0 : World) (x : Nat → Int) (w : World) : Prop := HasN w0.heap.size 4 x w ∧ Below w0.heap.size w0 w
set_option maxHeartbeats 1000000 in
theorem descFits_any (n : Int) (x : Nat → Int) (hx : Words x) (w : World) (hT : Tab w) :
    Calls Tryd.prog 5 #[.int .i64 n, .agg (arrOf x 4)] w fun e w' => e = .returned (.bool true) ∧ Below w.heap.size w w' := by
  have hF : FP w x (w.alloc (.cells (arrOf x 4) 39)) := ⟨HasN.of_alloc w _ _ 4 x fun i hi => arrOf_get? x 4 i hi, below1' w _⟩
  generalize arrOf x 4 = ax at *
  have hP : ∀ v v' : World, FP w x v → Below v.heap.size v v' → FP w x v' := fun v v' h hb => ⟨h.1.next hb, h.2.trans (hb.mono h.2.size)⟩
  go_enter Tryd.func5, Tryd.ntmps5
  go_wp2_with (go_at_call 9; refine (awake_any _ (hT.alloc _)).mono ?_; rintro e w1 ⟨rfl, hb1⟩; replace hF := hP _ _ hF hb1)
  refine wp_region_wd (FP w x) (by kernel_rfl) (by kernel_rfl) ⟨hF.1, hF.2.drew⟩ ?_
  have hne : Nonempty (Wd (FP w x)) := ⟨⟨w1, hF⟩⟩
  have hcell : ∀ (t : Wd (FP w x)) (i : Nat), i < 4 → t.w.cell? ⟨w.heap.size, i, none⟩ = some (.int .u64 (x i)) := fun t i hi => t.h.1.2 i hi
  have h4 : ∀ i, i < 4 → (#[Value.int .u64 (x 0), .int .u64 (x 1), .int .u64 (x 2), .int .u64 (x 3)] : Array Value)[i]? = some (.int .u64 (x i)) := fun i hi => by
    have : i = 0 ∨ i = 1 ∨ i = 2 ∨ i = 3 := by omega
    rcases this with rfl | rfl | rfl | rfl <;> rfl
  have c16 : ∀ t : Wd (FP w x), Calls Tryd.prog 16 #[.int .i64 n, .agg #[.int .u64 (x 0), .int .u64 (x 1), .int .u64 (x 2), .int .u64 (x 3)]] t.w fun e w' => e = .returned (.bool (decide (fitsP n x))) ∧ Below t.w.heap.size t.w w' := fun t => fits_any n x hx _ h4 rfl t.w (hT.go t.h.2)
  have c17 : ∀ t : Wd (FP w x), Calls Tryd.prog 17 #[.int .i64 n, .agg #[.int .u64 (x 0), .int .u64 (x 1), .int .u64 (x 2), .int .u64 (x 3)]] t.w fun e w' => e = .returned (.bool (decide (fitsP n x))) ∧ Below t.w.heap.size t.w w' := fun t => rfits_any n x hx _ h4 rfl t.w
  clear hF hb1
  repeat go_big_quiet_step (fail)
  go_big_quiet_step ((go_at_call 16; exact calls_wd _ hP (c16 _)))
  repeat go_big_quiet_step (fail)
  go_big_quiet_step ((go_at_call 17; exact calls_wd _ hP (c17 _)))
  repeat go_big_quiet_step (fail)
  refine wpQuiet_nil ?_
  intro _ hw'
  obtain ⟨t, rfl⟩ := hw'
  go_wp2
  go_ret
  exact ⟨rfl, t.h.2⟩
end Go.Proofs.YtcjbdmgaooojlaaDoor
