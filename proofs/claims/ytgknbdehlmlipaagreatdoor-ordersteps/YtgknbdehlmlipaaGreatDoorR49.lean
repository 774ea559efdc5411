/-
  Texts that the proof leans on.
-/
import Derived.Test.YtgknbdehlmlipaaGreatDoorR21
import Derived.Test.YtgknbdehlmlipaaGreatDoorR47
set_option linter.unusedVariables false
set_option linter.unusedSectionVars false
set_option linter.unusedSimpArgs false
set_option maxRecDepth 20000
namespace Go.Proofs.YtgknbdehlmlipaaGreatDoor
open Go.RowKit
/-- signed, of what the sizes are -/
def sgV (s s' : Bool) (r q : Int) : Int := if s && s' then q else if s then -1 else if s' then 1 else r
def szD (a : Dat) (X : Nat) (b : Dat) (Y : Nat) : Int := szV a.c a.k X a.x b.c b.k Y b.x
theorem szD_N {a b : Dat} {X Y : Nat} (h1 : ¬ (a.c = 2 ∨ b.c = 2)) (h2 : ¬ (a.k = 0 ∨ b.k = 0)) : szD a X b Y = sgn ((oN a X * oD b Y : Nat) : Int) ((oN b Y * oD a X : Nat) : Int) := by
  unfold szD szV
  rw [if_neg h1, if_neg h2]
  rfl
theorem szD_swap (a b : Dat) (X Y : Nat) : szD b Y a X = - szD a X b Y := by
  unfold szD szV
  by_cases h : a.c = 2 ∨ b.c = 2
  · rw [if_pos h, if_pos h.symm, sgn_neg a.c]
  · rw [if_neg h, if_neg (fun q => h q.symm)]
    by_cases h2 : a.k = 0 ∨ b.k = 0
    · rw [if_pos h2, if_pos h2.symm, sgn_neg (a.k : Int)]
    · rw [if_neg h2, if_neg (fun q => h2 q.symm), sgn_neg ((a.k * X ^ a.x.toNat * (1 * Y ^ (-b.x).toNat) : Nat) : Int)]
theorem sgV_ff (r q : Int) : sgV false false r q = r := rfl
theorem sgV_tt (r q : Int) : sgV true true r q = q := rfl
def nghtD (d : Dat) : Prop := d.c = 1 ∧ d.k = 0
instance (d : Dat) : Decidable (nghtD d) := inferInstanceAs (Decidable (_ ∧ _))
theorem oS_n {d : Dat} (h : nghtD d) : oS d = 0 := if_pos h
theorem oS_y {d : Dat} (h : ¬ nghtD d) : oS d = if d.s then -1 else 1 := if_neg h
theorem szD_n1 {a b : Dat} {X Y : Nat} (ha : nghtD a) (hb : ¬ nghtD b) (hbc : b.c = 1 ∨ b.c = 2) : szD a X b Y = -1 := by
  obtain ⟨a1, a2⟩ := ha
  unfold szD szV
  rcases hbc with h | h
  · have hk : b.k ≠ 0 := fun q => hb ⟨h, q⟩
    rw [if_neg (by omega), if_pos (Or.inl a2), a2]
    unfold sgn
    rw [if_pos (by omega)]
  · rw [if_pos (Or.inr h), a1, h]
    decide
/-- by value: signed sizes, but of two noughts -/
theorem oV_sg {a b : Dat} {X Y : Nat} (ha : a.c = 1 ∨ a.c = 2) (hb : b.c = 1 ∨ b.c = 2) (h0 : ¬ (nghtD a ∧ nghtD b)) : sgV a.s b.s (szD a X b Y) (szD b Y a X) = oV a X b Y := by
  by_cases hna : nghtD a
  · have hnb : ¬ nghtD b := fun h => h0 ⟨hna, h⟩
    have e1 := szD_n1 (X := X) (Y := Y) hna hnb hb
    rw [szD_swap a b X Y, e1, oV_a (Or.inr (oS_n hna)), oS_n hna, oS_y hnb]
    cases a.s <;> cases b.s <;> decide
  · by_cases hnb : nghtD b
    · have e1 := szD_n1 (X := Y) (Y := X) hnb hna ha
      rw [szD_swap b a Y X, e1, oV_swap b Y a X, oV_a (Or.inr (oS_n hnb)), oS_n hnb, oS_y hna]
      cases a.s <;> cases b.s <;> decide
    · have ea := oS_y hna
      have eb := oS_y hnb
      by_cases hs : a.s = b.s
      · have hS : oS a = oS b := by rw [ea, eb, hs]
        have hS0 : oS a ≠ 0 := by rw [ea]; cases a.s <;> decide
        have key : oV a X b Y = oS a * szD a X b Y := by
          by_cases h2 : a.c = 2 ∨ b.c = 2
          · rw [oV_b hS hS0 h2]
            unfold szD szV
            rw [if_pos h2]
          · have ka : ¬ (a.k = 0 ∨ b.k = 0) := by
              rintro (h | h)
              · exact hna ⟨by omega, h⟩
              · exact hnb ⟨by omega, h⟩
            rw [oV_c hS hS0 h2, szD_N h2 ka]
        rw [key, ea, szD_swap a b X Y, ← hs]
        cases a.s
        · rw [sgV_ff]; simp
        · rw [sgV_tt]; simp
      · rw [oV_a (Or.inl (by rw [ea, eb]; revert hs; cases a.s <;> cases b.s <;> decide)), ea, eb]
        revert hs
        cases a.s <;> cases b.s <;> intro hs <;> first | (exact absurd rfl hs) | simp [sgV, sgn]
theorem oV_nn {a b : Dat} {X Y : Nat} (ha : nghtD a) (hb : nghtD b) : oV a X b Y = 0 := by
  rw [oV_a (Or.inr (oS_n ha)), oS_n ha, oS_n hb]; decide
end Go.Proofs.YtgknbdehlmlipaaGreatDoor
