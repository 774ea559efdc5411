/-
  What the law NatAdds does: it returns true.
-/
import Derived.Test.YtcjbdmgaooojlaaDoorNln
set_option linter.unusedVariables false
set_option linter.unusedSimpArgs false
set_option maxRecDepth 20000
namespace Go.Proofs.YtcjbdmgaooojlaaDoor
open Go.RowKit

theorem ncmp_b (a a' : Option Addr) (n c n' c' : Nat) (x y : Nat → Int) (w : World) (hn : n < 4294967296) (hn' : n' < 4294967296) (h : Num w a n c x) (h' : Num w a' n' c' y) :
    Calls Tryd.prog 75 #[.slice a n c, .slice a' n' c'] w fun e w' => e = .returned (.int .i64 (sgn (val x n) (val y n'))) ∧ Below w.heap.size w w' :=
  (ncmp_any a a' n c n' c' x y w hn hn' h h').mono fun e w' ⟨h1, m, hm⟩ => ⟨h1, hm ▸ below_drewN (Below.refl _ _) m⟩
def subE (V W : Int) : Int := if V < W then 3 else 0
def subV (V W : Int) : Int := if V < W then 0 else V - W
theorem num_none (w : World) : Num w none 0 0 (fun _ => 0) := ⟨Nat.le_refl _, by unfold maxLen; omega, fun _ => (by decide : (0 : Int) ≤ 0 ∧ (0 : Int) ≤ 18446744073709551615), fun _ _ => rfl, Or.inl ⟨rfl, rfl⟩⟩
theorem nsub_all (a a' : Option Addr) (n c n' c' : Nat) (x y : Nat → Int) (w : World) (hn : n < 4000000000) (hn' : n' < 4000000000) (h : Num w a n c x) (h' : Num w a' n' c' y) :
    Calls Tryd.prog 50 #[.slice a n c, .slice a' n' c'] w fun e w' => ∃ o k cap z, e = .returned (.tuple #[.slice o k cap, .int .i64 (subE (val x n) (val y n'))]) ∧ k ≤ n ∧ Num w' o k cap z ∧ val z k = subV (val x n) (val y n') ∧ sizeL z k = k ∧ Below w.heap.size w w' := by
  by_cases hv : val x n < val y n'
  · refine (nsub_less a a' n c n' c' x y w hn hn' h h' hv).mono fun e w' hw => ⟨none, 0, 0, _, ?_, Nat.zero_le _, num_none w', ?_, rfl, hw.2⟩
    · rw [hw.1]; unfold subE; rw [if_pos hv]
    · unfold subV; rw [if_pos hv]; rfl
  · refine (nsub_any a a' n c n' c' x y w hn hn' h h' (by omega)).mono fun e w' ⟨g, k, cap, z, e1, hk, hN, hv1, hs, hB⟩ => ⟨_, k, cap, z, ?_, Nat.le_trans hk (sizeL_le x n), hN, ?_, hs, hB⟩
    · rw [e1]; unfold subE; rw [if_neg hv]
    · rw [hv1]; unfold subV; rw [if_neg hv]
end Go.Proofs.YtcjbdmgaooojlaaDoor
