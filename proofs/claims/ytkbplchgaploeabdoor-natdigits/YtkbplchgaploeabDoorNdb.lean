/-
  What nat's divideBy does: a contract.
-/
import Derived.Test.YtkbplchgaploeabDoorUp
import Derived.Test.YtkbplchgaploeabDoorDvs
set_option linter.unusedVariables false
set_option linter.unusedSimpArgs false
namespace Go.Proofs.YtkbplchgaploeabDoor
open Go.RowKit

/-- the quotient's words from word k on, the number's own below it -/
def divZ (x : Nat → Int) (d : Int) (m k i : Nat) : Int := if k ≤ i ∧ i < m then quoW x d m i else x i

set_option maxHeartbeats 1000000 in
theorem divideBy_any (g N m c : Nat) (x : Nat → Int) (d : Int) (w : World) (hm : m ≤ N) (hm2 : m < 4294967296) (hx : Words x) (hd : 0 < d ∧ d ≤ 18446744073709551615) (h : Own g N x w) :
    Calls Tryd.prog 15 #[.slice (some ⟨g, 0, none⟩) m c, .int .u64 d] w fun e w' => e = .returned (.int .u64 (remJ x d m m)) ∧ Own g N (divZ x d m 0) w' ∧ Upd g w w' := by
  have H := fun j hj w => limDiv_ok x d m hx hd j hj w
  have hd0 : (d == 0) = false := by simp; omega
  go_enter Tryd.func15, Tryd.ntmps15
  go_wp2
  go_loopw [5, 6, 14] (fun c i u14 wr => ∃ (k : Nat), k ≤ m ∧ i = .int .i64 ((k : Int) - 1) ∧ c = .int .u64 (remJ x d m (m - k)) ∧ Own g N (divZ x d m k) wr ∧ Upd g w wr) (fun _ i _ _ => (intOf i + 1).toNat)
  case atStart => exact ⟨m, Nat.le_refl _, rfl, by rw [Nat.sub_self]; rfl, h.congr fun i _ => by unfold divZ; rw [if_neg (by omega)], Upd.refl _ _⟩
  case round =>
    obtain ⟨k, hk, rfl, rfl, hO, hU⟩ := hrel
    by_cases h0 : k = 0
    · subst h0
      have HO : Hid (Own g N (divZ x d m 0) wr) := hO
      have HU : Hid (Upd g w wr) := hU
      clear hO hU H
      go_wp2
      go_ret
      exact ⟨rfl, HO.out, HU.out⟩
    · obtain ⟨j, rfl⟩ : ∃ j, k = j + 1 := ⟨k - 1, by omega⟩
      have hjm : (j : Int) < m := by omega
      have ej : ((j + 1 : Nat) : Int) - 1 = j := by omega
      have ej2 : m - (j + 1) = m - 1 - j := by omega
      rw [ej, ej2]
      have hcj := hO.cell j (by omega)
      have hzj : divZ x d m (j + 1) j = x j := by unfold divZ; rw [if_neg (by omega)]
      rw [hzj] at hcj
      have hfj := hO.frozen j
      have HJ := H j (by omega)
      have HO : Hid (Own g N (divZ x d m j) (wr.setCell ⟨g, j, none⟩ (.int .u64 (quoW x d m j)))) := (hO.set j (quoW x d m j)).congr fun i hi => by
        unfold divZ
        by_cases e : i = j
        · subst e; rw [if_pos rfl, if_pos (by omega)]
        · rw [if_neg e]
          by_cases e2 : j + 1 ≤ i ∧ i < m
          · rw [if_pos e2, if_pos (by omega)]
          · rw [if_neg e2, if_neg (by omega)]
      have HU : Hid (Upd g w (wr.setCell ⟨g, j, none⟩ (.int .u64 (quoW x d m j)))) := hU.set j _
      clear hO hU H ej ej2 hzj
      go_wp2_with (go_at_call 29; refine (HJ _).mono ?_; rintro e w' ⟨rfl, m', rfl⟩)
      go_roundw
      case rel => exact ⟨j, by omega, by go_num, rfl, HO.out, HU.out.drewN m'⟩
      case measure => simp [intOf]
end Go.Proofs.YtkbplchgaploeabDoor
