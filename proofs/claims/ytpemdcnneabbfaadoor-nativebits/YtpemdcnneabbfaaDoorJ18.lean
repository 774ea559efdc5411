/-
  Texts that the proof leans on.
-/
import Derived.Test.YtpemdcnneabbfaaDoorJ15
import Derived.Lib.RabinKarpLaws
set_option linter.unusedVariables false
set_option linter.unusedSimpArgs false
set_option linter.unusedSectionVars false
set_option maxRecDepth 20000
namespace Go.Proofs.YtpemdcnneabbfaaDoor
open Go.RowKit
section
set_option maxHeartbeats 1000000 in
theorem npow_two (n : Nat) (w : World) (hn : n ≤ 12000) :
    Calls Tryd.prog 36 #[.int .i64 2, .int .i64 n] w fun e w' => ∃ g k cap z, e = .returned (.tuple #[.slice (some ⟨g, 0, none⟩) k cap, .int .i64 0]) ∧ k ≤ 2001 ∧ Num w' (some ⟨g, 0, none⟩) k cap z ∧ val z k = 2 ^ n ∧ sizeL z k = k ∧ Below w.heap.size w w' := by
  have hN1 := num_one w 1 (by decide)
  have hs : sizeL (oneW 1) 1 = 1 := by simp [sizeL, oneW]
  have hsh := nshl_any _ 1 1 (oneW 1) n _ (by omega) hN1 (by omega) (by rw [hs]; omega)
  rw [val_one1, Int.one_mul, Int.toNat_natCast] at hsh
  have HB := below1 w (.cells #[.int .u64 1] 22)
  have hn' : (n : Int) ≤ 12000 := by omega
  clear hN1 hs
  go_enter Tryd.func36, Tryd.ntmps36
  go_wp2_with (go_at_call 61; refine hsh.mono ?_; rintro e w' ⟨g, k, cap, z, rfl, hk, hN, hv, hs, hB⟩)
  go_ret2
  exact ⟨g, k, cap, z, rfl, hk, hN, hv, hs, HB.trans (hB.mono HB.size)⟩
end
end Go.Proofs.YtpemdcnneabbfaaDoor
