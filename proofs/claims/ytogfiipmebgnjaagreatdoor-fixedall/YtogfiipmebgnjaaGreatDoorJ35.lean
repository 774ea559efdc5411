/-
  Texts that the proof leans on, joined: Fc, Oq.
-/
import Derived.Test.YtogfiipmebgnjaaGreatDoorJ34
import Derived.Test.YtogfiipmebgnjaaGreatDoorJ31
import Derived.Test.YtogfiipmebgnjaaGreatDoorJ28
import Derived.Test.YtogfiipmebgnjaaGreatDoorJ16
set_option linter.unusedVariables false
set_option linter.unusedSectionVars false
set_option linter.unusedSimpArgs false
namespace Go.Proofs.YtogfiipmebgnjaaGreatDoor
open Go.RowKit

theorem gdD_zeros {D : List UInt8} (hg : gdD D) (hne : D ≠ []) (z : Nat) : gdD (D ++ List.replicate z 48) := by
  rcases hg with h | ⟨h, h0⟩
  · exact absurd h hne
  · refine Or.inr ⟨?_, ?_⟩
    · unfold isd
      rw [List.all_append, isd_all h, rep_all z]
      cases D with
      | nil => exact absurd rfl hne
      | cons y ys => rfl
    · cases D with
      | nil => exact absurd rfl hne
      | cons y ys =>
        rw [List.cons_append, by_zero]
        rw [by_zero] at h0
        exact h0
theorem dcW_zeros {Y : Nat} (h : Y ≠ 0) (z : Nat) : dcW (Y * 10 ^ z) = dcW Y ++ List.replicate z 48 := by
  obtain ⟨d1, d2⟩ := dcW_facts Y
  have hg := gdD_zeros d1 (dcW_ne h) z
  have := dcW_is hg
  rw [dV_rep (gdD_all d1), d2] at this
  exact this.symm
theorem strip_ex : ∀ {X : Nat}, X ≠ 0 → ∃ Y z, X = Y * 10 ^ z ∧ Y % 10 ≠ 0 := by
  intro X
  induction X using Nat.strongRecOn with
  | _ X ih =>
    intro h
    by_cases h10 : X % 10 = 0
    · obtain ⟨Y, z, e, hy⟩ := ih (X / 10) (by omega) (by omega)
      refine ⟨Y, z + 1, ?_, hy⟩
      rw [Nat.pow_succ, ← Nat.mul_assoc, ← e]
      omega
    · exact ⟨X, 0, by simp, h10⟩
/-- the last digit -/
theorem dcW_last {Y : Nat} (h : Y % 10 ≠ 0) : ∃ T c, dcW Y = T ++ [c] ∧ (c.toNat : Int) ≠ 48 ∧ dg c = true := by
  obtain ⟨d1, d2⟩ := dcW_facts Y
  have hne : dcW Y ≠ [] := dcW_ne (by omega)
  have e : dcW Y = (dcW Y).dropLast ++ [(dcW Y).getLast hne] := (List.dropLast_concat_getLast hne).symm
  have ha := gdD_all d1
  rw [e, List.all_append, Bool.and_eq_true] at ha
  have hc : dg ((dcW Y).getLast hne) = true := by simpa using ha.2
  refine ⟨_, _, e, fun h48 => h ?_, hc⟩
  have hv := dV_snoc ha.1 hc
  rw [← e, d2] at hv
  omega
/-- a value that is a whole number of units -/
theorem fx_more {k : Nat} {x e : Int} {Y : Nat} (h : fxA k x e = Y * fxB x e) (m : Nat) : fxA k x (e - m) = Y * 10 ^ m * fxB x (e - m) := by
  have s := fx_shift k x e m
  rw [h] at s
  refine Nat.eq_of_mul_eq_mul_right (fxB_pos x e) ?_
  rw [s]
  grind
theorem fx_less {k : Nat} {x e : Int} {Y z : Nat} (h : fxA k x (e - z) = Y * 10 ^ z * fxB x (e - z)) : fxA k x e = Y * fxB x e := by
  have s := fx_shift k x e z
  rw [h] at s
  have hp : 0 < 10 ^ z * fxB x (e - z) := Nat.mul_pos (Nat.pow_pos (by decide)) (fxB_pos _ _)
  refine Nat.eq_of_mul_eq_mul_left hp ?_
  have : Y * 10 ^ z * fxB x (e - z) * fxB x e = 10 ^ z * fxB x (e - z) * (Y * fxB x e) := by grind
  have : 10 ^ z * fxA k x e * fxB x (e - z) = 10 ^ z * fxB x (e - z) * fxA k x e := by grind
  omega
/-- the highest digit's exponent -/
theorem fx_top {k : Nat} {x e : Int} {Y L : Nat} (h : fxA k x e = Y * fxB x e) (hL : 1 ≤ L) (h1 : 10 ^ (L - 1) ≤ Y) (h2 : Y < 10 ^ L) : tnP k x (e + L - 1) ∧ ¬ tnP k x (e + L - 1 + 1) := by
  have s1 := fx_shift k x (e + L - 1) (L - 1)
  have s2 := fx_shift k x (e + L - 1 + 1) L
  rw [show e + (L : Int) - 1 - ((L - 1 : Nat) : Int) = e by omega, h] at s1
  rw [show e + (L : Int) - 1 + 1 - (L : Int) = e by omega, h] at s2
  have be := fxB_pos x e
  have b1 := fxB_pos x (e + L - 1)
  have b2 := fxB_pos x (e + L - 1 + 1)
  rw [fx_tn, fx_tn]
  generalize fxA k x (e + L - 1) = A1 at *
  generalize fxB x (e + L - 1) = B1 at *
  generalize fxA k x (e + L - 1 + 1) = A2 at *
  generalize fxB x (e + L - 1 + 1) = B2 at *
  generalize fxB x e = Be at *
  have t1 : Y * B1 = 10 ^ (L - 1) * A1 := by
    refine Nat.eq_of_mul_eq_mul_right be ?_
    have : Y * B1 * Be = Y * Be * B1 := by grind
    omega
  have t2 : Y * B2 = 10 ^ L * A2 := by
    refine Nat.eq_of_mul_eq_mul_right be ?_
    have : Y * B2 * Be = Y * Be * B2 := by grind
    omega
  constructor
  · refine Nat.le_of_mul_le_mul_left (c := 10 ^ (L - 1)) ?_ (Nat.pow_pos (by decide))
    rw [← t1]
    exact Nat.mul_le_mul_right _ h1
  · intro h3
    have a1 : 10 ^ L * B2 ≤ Y * B2 := by rw [t2]; exact Nat.mul_le_mul_left _ h3
    have a2 : Y * B2 < 10 ^ L * B2 := Nat.mul_lt_mul_of_pos_right h2 b2
    omega
/-- written with all digits, and with more, it is exact -/
theorem wh_exact (d : Int) (s : Bool) {A B c : Nat} (hB : 0 < B) (h : A = c * B) : whC d s A B = c ∧ A % B = 0 := by
  have e1 : A % B = 0 := by rw [h]; exact Nat.mul_mod_left _ _
  have e2 : A / B = c := by rw [h]; exact Nat.mul_div_cancel _ hB
  refine ⟨?_, e1⟩
  unfold whC
  rw [e1, fa_none, e2]
  rfl
/-- and with one less it isn't -/
theorem fx_cut {k : Nat} {x e : Int} {Y : Nat} (h : fxA k x e = Y * fxB x e) (h10 : Y % 10 ≠ 0) : fxA k x (e + 1) % fxB x (e + 1) ≠ 0 := by
  intro h0
  have s := fx_shift k x (e + 1) 1
  rw [show e + 1 - ((1 : Nat) : Int) = e by omega, h] at s
  have be := fxB_pos x e
  obtain ⟨q, hq⟩ := Nat.dvd_of_mod_eq_zero h0
  rw [hq] at s
  have b1 := fxB_pos x (e + 1)
  have : Y = 10 * q := by
    refine Nat.eq_of_mul_eq_mul_right (Nat.mul_pos be b1) ?_
    have e1 : Y * (fxB x e * fxB x (e + 1)) = Y * fxB x e * fxB x (e + 1) := by grind
    have e2 : 10 * q * (fxB x e * fxB x (e + 1)) = 10 ^ 1 * (fxB x (e + 1) * q) * fxB x e := by grind
    omega
  omega
/-- the value of a number, by all its digits -/
theorem fx_whole (k : Nat) {x : Int} (hx : 0 ≤ x) : fxA k x 0 = k * 2 ^ x.toNat * fxB x 0 := by
  unfold fxA fxB
  rw [show (-x).toNat = 0 by omega]
  simp
theorem fx_part (k : Nat) {x : Int} (hx : ¬ 0 ≤ x) : fxA k x x = k * 5 ^ (-x).toNat * fxB x x := by
  unfold fxA fxB
  rw [show x.toNat = 0 by omega, p10_split]
  grind
end Go.Proofs.YtogfiipmebgnjaaGreatDoor

set_option maxRecDepth 20000
namespace Go.Proofs.YtogfiipmebgnjaaGreatDoor
open Go.RowKit

/-- a region's operations, by its number -/
def findR (n : Nat) : Code → Option (List Oper)
  | .region i o _ => if i = n then some o.toList else none
  | .seq a b => match findR n a with | some l => some l | none => findR n b
  | .cond _ a b => match findR n a with | some l => some l | none => findR n b
  | .block _ c => findR n c
  | .loop c => findR n c
  | _ => none
abbrev iW (v : Value) : Value → World → Prop := fun x _ => x = v
section
variable {P : Program} {a : Act} {w : World} {K : Act → World → Prop} {Q : Exit → Act → World → Prop} {d p q : Nat} {ty : TypeId} {pos : String} {after : Array Edge} {gd : Option (Nat × Bool)}
theorem og_mv {v : Value} (h1 : slot a p = v) (hK : K (a.put (some d) v) w) : Oper.wp P { dst := some d, op := Op.move (Operand.tmp p), type := ty, pos := pos, after := after, guard := gd } a w K Q := by
  unfold slot at h1
  simp [go_sem, h1]
  exact hK
theorem og_as {v : Value} (h1 : slot a p = v) (hK : K (a.put (some d) v) w) : Oper.wp P { dst := some d, op := Op.assign (Operand.tmp p), type := ty, pos := pos, after := after, guard := gd } a w K Q := by
  unfold slot at h1
  simp [go_sem, h1]
  exact hK
theorem og_ld3 {g i : Nat} {v : Value} (h1 : slot a p = .pointer (some ⟨g, i, none⟩)) (h2 : w.cell? ⟨g, i, none⟩ = some v) (hK : K (a.put (some d) v) w) : Oper.wp Tryz.prog { dst := some d, op := Op.load 3 (Operand.tmp p), type := ty, pos := pos, after := after, guard := gd } a w K Q := by
  unfold slot at h1
  simp [go_sem, h1, h2]
  exact hK
theorem og_fad3 {g : Nat} (h1 : slot a p = .pointer (some ⟨g, 0, none⟩)) (hK : K (a.put (some d) (.pointer (some ⟨g, 3, none⟩))) w) : Oper.wp Tryz.prog { dst := some d, op := Op.fieldAddr 34 (Operand.tmp p) 3, type := ty, pos := pos, after := after, guard := gd } a w K Q := by
  unfold slot at h1
  simp [go_sem, h1]
  exact hK
theorem og_neg {x : Int} (hx : -1000000 ≤ x ∧ x ≤ 1000000) (h1 : slot a p = .int .i64 x) (hK : K (a.put (some d) (.int .i64 (-x))) w) : Oper.wp Tryz.prog { dst := some d, op := Op.unOp UnOp.neg 3 (Operand.tmp p), type := ty, pos := pos, after := after, guard := gd } a w K Q := by
  unfold slot at h1
  have e : IntKind.i64.wrap (-x) = -x := by rw [IntKind.wrap_i64]; omega
  simp [go_sem, h1, e]
  exact hK
theorem og_times {p0 p1 : Nat} {u0 u1 : Value} {ts : Array TypeId} (h0 : slot a p0 = u0) (h1 : slot a p1 = u1) (hc : Calls Tryz.prog 17 #[u0, u1] w fun e w' => ∃ v, e = .returned v ∧ K (a.put (some d) v) w') : Oper.wp Tryz.prog { dst := some d, op := Op.call { callee := Callee.value (Operand.func 17), args := #[Operand.tmp p0, Operand.tmp p1], argTypes := ts }, type := ty, pos := pos, after := after, guard := gd } a w K Q := by
  unfold slot at h0 h1
  simp [go_sem, h0, h1]
  refine hc.mono ?_
  rintro e w' ⟨v, rfl, hK⟩
  exact hK
theorem og_pow {p1 : Nat} {u0 u1 : Value} {ts : Array TypeId} (h1 : slot a p1 = u1) (hc : Calls Tryz.prog 38 #[u0, u1] w fun e w' => ∃ v, e = .returned v ∧ K (a.put (some d) v) w') : Oper.wp Tryz.prog { dst := some d, op := Op.call { callee := Callee.value (Operand.func 38), args := #[Operand.const u0, Operand.tmp p1], argTypes := ts }, type := ty, pos := pos, after := after, guard := gd } a w K Q := by
  unfold slot at h1
  simp [go_sem, h1]
  refine hc.mono ?_
  rintro e w' ⟨v, rfl, hK⟩
  exact hK
theorem og_fad4 {g : Nat} (h1 : slot a p = .pointer (some ⟨g, 0, none⟩)) (hK : K (a.put (some d) (.pointer (some ⟨g, 4, none⟩))) w) : Oper.wp Tryz.prog { dst := some d, op := Op.fieldAddr 34 (Operand.tmp p) 4, type := ty, pos := pos, after := after, guard := gd } a w K Q := by
  unfold slot at h1
  simp [go_sem, h1]
  exact hK
end
end Go.Proofs.YtogfiipmebgnjaaGreatDoor
