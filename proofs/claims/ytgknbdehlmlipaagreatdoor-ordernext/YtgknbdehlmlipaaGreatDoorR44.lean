/-
  Texts that the proof leans on.
-/
import Derived.Test.YtgknbdehlmlipaaGreatDoorR38
import Derived.Test.YtgknbdehlmlipaaGreatDoorR6
import Derived.Test.YtgknbdehlmlipaaGreatDoorR34
import Derived.Test.YtgknbdehlmlipaaGreatDoorR35
import Derived.Test.YtgknbdehlmlipaaGreatDoorR26
import Derived.Test.YtgknbdehlmlipaaGreatDoorR31
import Derived.Deep.RegionWith
import Derived.Test.YtgknbdehlmlipaaGreatDoorR21
import Derived.Test.YtgknbdehlmlipaaGreatDoorR22
import Derived.Test.YtgknbdehlmlipaaGreatDoorR20
import Derived.Test.YtgknbdehlmlipaaGreatDoorR1
import Derived.Test.YtgknbdehlmlipaaGreatDoorR8
import Derived.Test.YtgknbdehlmlipaaGreatDoorR27
set_option linter.unusedVariables false
set_option linter.unusedSectionVars false
set_option linter.unusedSimpArgs false
set_option maxRecDepth 20000
namespace Go.Proofs.YtgknbdehlmlipaaGreatDoor
open Go.RowKit
section
theorem rless_wide {K K' A B : Nat} {v v' : Value} {w : World} (hK : K < 1000000) (hK' : K' < 1000000) (h : NV K A v w) (h' : NV K' B v' w) (hv : B ≤ A) :
    Calls Tryz.prog 50 #[v, v'] w fun e w' => ∃ r, e = .returned r ∧ NT (K + K') (A - B) r w' ∧ Below w.heap.size w w' := by
  obtain ⟨g, k, c, z, rfl, hk, hN, hz⟩ := h
  obtain ⟨g2, k2, c2, z2, rfl, hk2, hN2, hz2⟩ := h'
  refine (rless_tr _ _ k c k2 c2 z z2 w (by omega) (by omega) hN hN2).mono fun e w' ⟨g3, k3, cap3, e1, hk3, hN3, ht, hB⟩ => ⟨_, e1, ⟨g3, k3, cap3, _, rfl, by omega, hN3, ?_, ht⟩, hB⟩
  have ex := val_more hN.2.2.2.1 (max k k2) (by omega)
  have ey := val_more hN2.2.2.2.1 (max k k2) (by omega)
  have e := dif_val hN.2.2.1 hN2.2.2.1 (max k k2)
  rw [borW_end hN.2.2.1 hN2.2.2.1 (by omega), ex, ey] at e
  rw [← val_more hN3.2.2.2.1 _ hk3, val_congr (y := difW z z2) (max k k2) fun i hi => by unfold difZ; rw [if_pos hi]]
  omega
attribute [local irreducible] W4 NT NV

set_option maxHeartbeats 1000000 in
theorem rlargest_bad (n : Int) (s : Bool) (w : World) (h : ¬ binN n) :
    Calls Tryz.prog 47 #[.int .i64 n, .bool s] w fun x w' => x = .returned (.tuple #[Z4, .int .i64 1]) ∧ Below w.heap.size w w' := by
  have c35 := fun w => rbinary_any n w
  rw [decide_eq_false h] at c35
  have hsm := cell_set_map
  clear h
  go_enter Tryz.func47, Tryz.ntmps47
  go_wp2_with (go_at_call 38; refine (c35 _).mono ?_; rintro r w0 ⟨rfl, rfl⟩)
  exact bodyPost_ret (v := .tuple #[Z4, .int .i64 1]) (by simp only [results, Tryz.results47]; go_simp) rfl ⟨rfl, bgo⟩
theorem rlargest_any (n : Int) (s : Bool) (w : World) :
    Calls Tryz.prog 47 #[.int .i64 n, .bool s] w fun x w' => x = .returned (.tuple #[A4 (lgV n s), .int .i64 (lgE n)]) ∧ Below w.heap.size w w' := by
  by_cases hb : binN n
  · have hF := bin_fm hb
    have c25 := fun w => rof_bin hb w
    have c35 : ∀ w, Calls Tryz.prog 38 #[.int .i64 n] w fun x w' => x = .returned (.bool true) ∧ w = w' := fun w => by
      have := rbinary_any n w
      rw [decide_eq_true hb] at this
      exact this.mono fun _ _ ⟨h1, h2⟩ => ⟨h1, h2.symm⟩
    have hf := hF.f240
    have hp1 : 1 ≤ 2 ^ (fN n + 1) := Nat.one_le_two_pow
    have h256 : 2 ^ (fN n + 1) < 2 ^ 256 := Nat.pow_lt_pow_right (by decide) (by omega)
    have c30 := fun w => rpow_nv (fN n + 1) w (by omega)
    have c13 := fun w => rpack_any n ⟨1, s, false, mostN n, 2 ^ (fN n + 1) - 1⟩ w (by show 2 ^ (fN n + 1) - 1 < _; omega)
    have hpf : 2 ^ (fN n + 1) = 2 ^ fN n + 2 ^ fN n := by rw [Nat.pow_succ]; omega
    have hpp : 1 ≤ 2 ^ fN n := Nat.one_le_two_pow
    have hpc : ((2 : Int) ^ eN n) = ((2 ^ eN n : Nat) : Int) := by simp
    have hp := pow_e hF.e2 hF.e15
    have hm := hF.m
    rw [hpc] at hp hm
    have hi : isD (fN n) (leastN n) (mostN n) ⟨1, s, false, mostN n, 2 ^ (fN n + 1) - 1⟩ := Or.inl ⟨rfl, rfl, by show 2 ^ (fN n + 1) - 1 < _; omega, by show leastN n ≤ mostN n; omega, Int.le_refl _, Or.inl (by show 2 ^ fN n ≤ 2 ^ (fN n + 1) - 1; omega)⟩
    have e1 : pkE n ⟨1, s, false, mostN n, 2 ^ (fN n + 1) - 1⟩ = lgE n := by unfold pkE lgE; rw [if_pos hb, if_pos hi, if_pos hb]
    have e2 : pkV n ⟨1, s, false, mostN n, 2 ^ (fN n + 1) - 1⟩ = lgV n s := by
      unfold pkV lgV pk
      rw [if_pos ⟨hb, hi⟩, if_pos hb]
      dsimp only
      rw [if_pos rfl, show (mostN n - leastN n).toNat = 2 ^ eN n - 3 by omega]
      obtain ⟨q, hq⟩ : ∃ q, 2 ^ eN n = q + 3 := ⟨2 ^ eN n - 3, by omega⟩
      rw [hq, show q + 3 - 3 = q by omega, show q + 3 - 2 = q + 1 by omega, Nat.add_mul]
      omega
    rw [e1, e2] at c13
    refine rlargest_ok n _ _ _ _ _ _ _ _ _ _ s w hp1 c35 c25 c30 (fun W v v' h h' => ?_) c13
    exact (rless_wide (by decide) (by decide) h h' hp1).mono fun _ _ ⟨r, a1, a2, a3⟩ => ⟨r, a1, a2.nv, a3⟩
  · unfold lgV lgE
    rw [if_neg hb, if_neg hb, Z4_eq]
    exact rlargest_bad n s w hb
end
/-- the parts with this sign -/
def Prt.at (p : Prt) (s : Bool) : Prt := ⟨p.cls, s, p.sn, p.dig, p.ex⟩
/-! Make by value -/
/-! Read by value -/
end Go.Proofs.YtgknbdehlmlipaaGreatDoor
