/-
  Texts that the proof leans on.
-/
import Derived.Test.YtgknbdehlmlipaaGreatDoorR26
import Derived.Test.YtgknbdehlmlipaaGreatDoorR21
import Derived.Test.YtgknbdehlmlipaaGreatDoorR22
import Derived.Test.YtgknbdehlmlipaaGreatDoorR20
import Derived.Deep.Cut
import Derived.Deep.CutRange
import Derived.Test.YtgknbdehlmlipaaGreatDoorR19
import Derived.Test.YtgknbdehlmlipaaGreatDoorR18
import Derived.Test.YtgknbdehlmlipaaGreatDoorR14
import Derived.Test.YtgknbdehlmlipaaGreatDoorR15
import Derived.Deep.RegionWith
import Derived.Test.YtgknbdehlmlipaaGreatDoorR11
set_option linter.unusedVariables false
set_option linter.unusedSectionVars false
set_option linter.unusedSimpArgs false
set_option maxRecDepth 20000
namespace Go.Proofs.YtgknbdehlmlipaaGreatDoor
open Go.RowKit
section
theorem five_bl (k : Nat) : bl (5 ^ k) ≤ 3 * k + 1 := by
  refine bl_le.2 ?_
  have h1 : 5 ^ k ≤ 8 ^ k := Nat.pow_le_pow_left (by decide) k
  have h2 : (8 : Nat) ^ k = 2 ^ (3 * k) := by rw [Nat.pow_mul]
  have h3 : (2 : Nat) ^ (3 * k) < 2 ^ (3 * k + 1) := Nat.pow_lt_pow_right (by decide) (by omega)
  omega
theorem bl_mul (a b : Nat) : bl (a * b) ≤ bl a + bl b := by
  refine bl_le.2 ?_
  rw [Nat.pow_add]
  have h1 := bl_le.1 (Nat.le_refl (bl a))
  have h2 := bl_le.1 (Nat.le_refl (bl b))
  exact Nat.mul_lt_mul'' h1 h2
attribute [local irreducible] W4 Nz Nt
end
section
theorem NT.nz {K V : Nat} {v : Value} {w : World} (h : NT K V v w) : Nz K V v w := by
  obtain ⟨g, k, cap, z, h1, h2, h3, h4, h5⟩ := h
  exact ⟨_, k, cap, z, h1, h2, h3, h4, h5⟩
theorem NT.nt {K V : Nat} {v : Value} {w : World} (h : NT K V v w) : Nt K V v w := h.nz.nt
theorem nmul_w {K K' A P : Nat} {v v' : Value} {w : World} (hK : K < 100000000) (hK' : K' < 100000000) (h : Nt K A v w) (h' : Nt K' P v' w) (hb : bl A + bl P ≤ 127000) :
    Calls Tryz.prog 97 #[v, v'] w fun r w' => ∃ q, r = .returned (.tuple #[q, .int .i64 0]) ∧ NT 2001 (A * P) q w' ∧ Below w.heap.size w w' := by
  obtain ⟨a, k, cap, z, rfl, hk, hN, hv⟩ := h
  obtain ⟨a', k', cap', z', rfl, hk', hN', hv'⟩ := h'
  have s1 := (size_bl (m := (bl A + 63) / 64) hN.2.2.1 hv).2 (by omega)
  have s2 := (size_bl (m := (bl P + 63) / 64) hN'.2.2.1 hv').2 (by omega)
  refine (nmul_any a a' k cap k' cap' z z' w (by omega) (by omega) hN hN' (by omega)).mono fun r w' ⟨g, q, cp, y, e1, hq, hNq, hvq, hsq, hB⟩ => ⟨_, e1, ⟨g, q, cp, y, rfl, by omega, hNq, ?_, hsq⟩, hB⟩
  rw [hvq, hv, hv']; simp
theorem nshl_w {K V : Nat} {v : Value} {w : World} (d : Nat) (hK : K < 100000000) (h : Nt K V v w) (hd : bl V + d ≤ 127000) :
    Calls Tryz.prog 131 #[v, .int .i64 (d : Int)] w fun e w' => ∃ r, e = .returned (.tuple #[r, .int .i64 0]) ∧ NT 2001 (V * 2 ^ d) r w' ∧ Below w.heap.size w w' := by
  obtain ⟨a, k, cap, z, rfl, hk, hN, hv⟩ := h
  have hs := (size_bl (m := (bl V + 63) / 64) hN.2.2.1 hv).2 (by omega)
  refine (nshl_any a k cap z d w (by omega) hN (by omega) (by omega)).mono fun e w' ⟨g, k', cap', z', h1, h2, h3, h4, h5, h6⟩ => ⟨_, h1, ⟨g, k', cap', z', rfl, h2, h3, ?_, h5⟩, h6⟩
  rw [h4, hv]; simp
theorem npow5z (m : Nat) (w : World) (hm : m ≤ 12000) : Calls Tryz.prog 96 #[.int .i64 5, .int .i64 (m : Int)] w fun r w' => ∃ v, r = .returned (.tuple #[v, .int .i64 0]) ∧ NT 2001 (5 ^ m) v w' ∧ Below w.heap.size w w' := by
  refine (npow_any 5 m w (Or.inl rfl) hm).mono fun r w' ⟨g, k, cap, z, e1, hk, hN, hv, hs, hB⟩ => ⟨_, e1, ⟨g, k, cap, z, rfl, hk, hN, ?_, hs⟩, hB⟩
  rw [hv]; simp
theorem nt_un1 {W : World} {g V : Nat} {vi : Int} (hg : g = W.heap.size) (hv : vi = (V : Int)) (hb : V < 18446744073709551616) (h0 : V ≠ 0) : NT 1 V (.slice (some ⟨g, 0, none⟩) 1 1) (W.alloc (.cells #[.int .u64 vi] 22)) := by
  subst hg hv
  refine ⟨_, 1, 1, oneW V, rfl, Nat.le_refl _, num_one W V (by omega), val_one1 V, ?_⟩
  have : oneW (V : Int) 0 ≠ 0 := by simp [oneW]; omega
  simp [sizeL, this]
attribute [local irreducible] W4 Nz Nt NT
/-- the guessed place of the first digit -/
def gsP (k : Nat) (x : Int) : Int := (((bl k : Int) - 1 + x) * 30103).tdiv 100000 - 1
end
end Go.Proofs.YtgknbdehlmlipaaGreatDoor
