/-
  Texts that the proof leans on, joined: Sf9.
-/
import Derived.Test.YtoobncgmcnmgjaaGreatDoorJ26
import Derived.Test.YtoobncgmcnmgjaaGreatDoorJ27
set_option linter.unusedVariables false
set_option linter.unusedSectionVars false
set_option linter.unusedSimpArgs false
set_option maxRecDepth 20000
namespace Go.Proofs.YtoobncgmcnmgjaaGreatDoor
open Go.RowKit

abbrev isW (v : Value) : Value → World → Prop := fun x _ => x = v
attribute [local irreducible] W4 Nz Nt NT
section
variable {a : Act} {w : World} {K : Act → World → Prop} {Q : Exit → Act → World → Prop} {d p q : Nat} {ty : TypeId} {pos : String} {after : Array Edge} {gd : Option (Nat × Bool)}
theorem oq_N3_0 {v : Value} (h1 : slot a p = v) (hK : K (a.put (some d) v) w) : Oper.wp Tryz.prog { dst := some d, op := Op.move (Operand.tmp p), type := ty, pos := pos, after := after, guard := gd } a w K Q := by
  unfold slot at h1
  simp [go_sem, h1]
  exact hK
theorem oq_N3_1 {g i : Nat} (h1 : slot a p = .pointer (some ⟨g, i, none⟩)) (hK : K (a.put (some d) (.pointer (some ⟨g, i, none⟩))) w) : Oper.wp Tryz.prog { dst := some d, op := Op.nilCheck (Operand.tmp p), type := ty, pos := pos, after := after, guard := gd } a w K Q := by
  unfold slot at h1
  simp [go_sem, h1]
  exact hK
theorem oq_N3_2 {g : Nat} (h1 : slot a p = .pointer (some ⟨g, 0, none⟩)) (hK : K (a.put (some d) (.pointer (some ⟨g, 3, none⟩))) w) : Oper.wp Tryz.prog { dst := some d, op := Op.fieldAddr 131 (Operand.tmp p) 3, type := ty, pos := pos, after := after, guard := gd } a w K Q := by
  unfold slot at h1
  simp [go_sem, h1]
  exact hK
theorem oq_N3_3 {g i : Nat} {v : Value} (h1 : slot a p = .pointer (some ⟨g, i, none⟩)) (h2 : w.cell? ⟨g, i, none⟩ = some v) (hK : K (a.put (some d) v) w) : Oper.wp Tryz.prog { dst := some d, op := Op.load 39 (Operand.tmp p), type := ty, pos := pos, after := after, guard := gd } a w K Q := by
  unfold slot at h1
  simp [go_sem, h1, h2]
  exact hK
theorem oq_N3_4 {g : Nat} (h1 : slot a p = .pointer (some ⟨g, 0, none⟩)) (hK : K (a.put (some d) (.pointer (some ⟨g, 2, none⟩))) w) : Oper.wp Tryz.prog { dst := some d, op := Op.fieldAddr 131 (Operand.tmp p) 2, type := ty, pos := pos, after := after, guard := gd } a w K Q := by
  unfold slot at h1
  simp [go_sem, h1]
  exact hK
theorem oq_N3_5 {p0 : Nat} {u0 : Value} {p1 : Nat} {u1 : Value} {ts : Array TypeId} (h0 : slot a p0 = u0) (h1 : slot a p1 = u1) (hc : Calls Tryz.prog 102 #[u0, u1] w fun e w' => ∃ v, e = .returned v ∧ K (a.put (some d) v) w') : Oper.wp Tryz.prog { dst := some d, op := Op.call { callee := Callee.value (Operand.func 102), args := #[Operand.tmp p0, Operand.tmp p1], argTypes := ts }, type := ty, pos := pos, after := after, guard := gd } a w K Q := by
  unfold slot at h0 h1
  simp [go_sem, h0, h1]
  refine hc.mono ?_
  rintro e w' ⟨v, rfl, hK⟩
  exact hK
theorem oq_N3_6 {p0 : Nat} {u0 : Value} {p1 : Nat} {u1 : Value} {p2 : Nat} {u2 : Value} {ts : Array TypeId} (h0 : slot a p0 = u0) (h1 : slot a p1 = u1) (h2 : slot a p2 = u2) (hc : Calls Tryz.prog 101 #[u0, u1, u2] w fun e w' => ∃ v, e = .returned v ∧ K (a.put (some d) v) w') : Oper.wp Tryz.prog { dst := some d, op := Op.call { callee := Callee.value (Operand.func 101), args := #[Operand.tmp p0, Operand.tmp p1, Operand.tmp p2], argTypes := ts }, type := ty, pos := pos, after := after, guard := gd } a w K Q := by
  unfold slot at h0 h1 h2
  simp [go_sem, h0, h1, h2]
  refine hc.mono ?_
  rintro e w' ⟨v, rfl, hK⟩
  exact hK
end
noncomputable def opsN3 : List Oper := match Tryz.f64.body with
  | some (.seq _ (.seq _ (.seq _ (.seq (.region _ o _) _)))) => o.toList
  | _ => []
def slotsN3 : List Nat := [20, 21, 22, 23, 24, 25, 26, 27, 28, 29, 30, 31]
def slotsAN3 : List Nat := [20, 21, 22, 23, 24, 25, 26, 27, 28, 29, 30, 31, 6]
section
variable {a : Act} {w : World} {K : Act → World → Prop} {Q : Exit → Act → World → Prop} {d p q : Nat} {ty : TypeId} {pos : String} {after : Array Edge} {gd : Option (Nat × Bool)}
theorem oq_a_as {v : Value} (h1 : slot a p = v) (hK : K (a.put (some d) v) w) : Oper.wp Tryz.prog { dst := some d, op := Op.assign (Operand.tmp p), type := ty, pos := pos, after := after, guard := gd } a w K Q := by
  unfold slot at h1
  simp [go_sem, h1]
  exact hK
end
set_option maxHeartbeats 8000000 in
theorem regN3 {g A : Nat} {vn vb va vw vr : Value} {c high : Bool} {a0 : Act} {ws : World} {Q : Exit → Act → World → Prop} (hs : a0.tmps.size = 75) (g0 : slot a0 0 = .pointer (some ⟨g, 0, none⟩)) (g4 : slot a0 4 = vr) (hR : Rch g vn vb va vw c ws)
    (c101 : ∀ W, Below ws.heap.size ws W → Calls Tryz.prog 102 #[vr, va] W fun e w' => ∃ v, e = .returned v ∧ Nz 4003 A v w' ∧ Below W.heap.size W w')
    (c100 : ∀ W v, Below ws.heap.size ws W → Nz 4003 A v W → Calls Tryz.prog 101 #[.pointer (some ⟨g, 0, none⟩), vw, v] W fun e w' => ∃ u, e = .returned u ∧ u = .bool high ∧ Below W.heap.size W w')
    (hQ : ∀ (a : Act) (w : World), slot a 6 = .bool high → a.tmps.size = 75 → a.defers = a0.defers → (∀ t, (∀ i, i < 13 → slotsAN3.getD i 0 ≠ t) → slot a t = slot a0 t) → Below ws.heap.size ws w → Q .normal a w) :
    (Code.region 3 opsN3.toArray true).wp Tryz.prog Q a0 ws := by
  refine wp_region_mem 12 75 slotsN3 [isW (.pointer (some ⟨g, 0, none⟩)), isW (.pointer (some ⟨g, 0, none⟩)), isW (.pointer (some ⟨g, 0, none⟩)), isW (.pointer (some ⟨g, 3, none⟩)), isW (vw), isW (vr), isW (.pointer (some ⟨g, 0, none⟩)), isW (.pointer (some ⟨g, 0, none⟩)), isW (.pointer (some ⟨g, 2, none⟩)), isW (va), Nz 4003 A, isW (.bool high)] (fun w w' => Below w.heap.size w w') (fun _ _ w => Below ws.heap.size ws w) (by kernel_rfl) (by kernel_rfl) (by kernel_rfl) hs ?_ (Below.refl _ _).drew ?_ ?_
  · intro p hp
    simp only [List.mem_cons, List.not_mem_nil, or_false] at hp
    rcases hp with rfl | rfl | rfl | rfl | rfl | rfl | rfl | rfl | rfl | rfl | rfl | rfl
    all_goals first | exact fun _ _ _ h _ => h | exact fun _ _ _ h hb => h.next hb
  · intro L i o a w hi ho hL hcl he hM hF hv
    have f0 : slot a 0 = .pointer (some ⟨g, 0, none⟩) := (hF 0 (by decide)).trans g0
    have f4 : slot a 4 = vr := (hF 4 (by decide)).trans g4
    have hor : i = 0 ∨ i = 1 ∨ i = 2 ∨ i = 3 ∨ i = 4 ∨ i = 5 ∨ i = 6 ∨ i = 7 ∨ i = 8 ∨ i = 9 ∨ i = 10 ∨ i = 11 := by omega
    rcases hor with rfl | rfl | rfl | rfl | rfl | rfl | rfl | rfl | rfl | rfl | rfl | rfl
    · obtain rfl := Option.some.inj (show opsN3[0]? = some o from ho)
      exact oq_N3_0 (f0 : slot a 0 = .pointer (some ⟨g, 0, none⟩)) ⟨_, rfl, rfl, Below.refl _ _, hM⟩
    · obtain rfl := Option.some.inj (show opsN3[1]? = some o from ho)
      exact oq_N3_0 (f0 : slot a 0 = .pointer (some ⟨g, 0, none⟩)) ⟨_, rfl, rfl, Below.refl _ _, hM⟩
    · obtain rfl := Option.some.inj (show opsN3[2]? = some o from ho)
      exact oq_N3_1 (hv 1 (by decide) rfl (he ⟨1, .data⟩ (by simp) rfl) : slot a 21 = .pointer (some ⟨g, 0, none⟩)) ⟨_, rfl, rfl, Below.refl _ _, hM⟩
    · obtain rfl := Option.some.inj (show opsN3[3]? = some o from ho)
      exact oq_N3_2 (hv 2 (by decide) rfl (he ⟨2, .data⟩ (by simp) rfl) : slot a 22 = .pointer (some ⟨g, 0, none⟩)) ⟨_, rfl, rfl, Below.refl _ _, hM⟩
    · obtain rfl := Option.some.inj (show opsN3[4]? = some o from ho)
      exact oq_N3_3 (hv 3 (by decide) rfl (he ⟨3, .data⟩ (by simp) rfl) : slot a 23 = .pointer (some ⟨g, 3, none⟩)) (((hR.next hM).cells).2.2.2.1) ⟨_, rfl, rfl, Below.refl _ _, hM⟩
    · obtain rfl := Option.some.inj (show opsN3[5]? = some o from ho)
      exact oq_N3_0 (f4 : slot a 4 = vr) ⟨_, rfl, rfl, Below.refl _ _, hM⟩
    · obtain rfl := Option.some.inj (show opsN3[6]? = some o from ho)
      exact oq_N3_0 (f0 : slot a 0 = .pointer (some ⟨g, 0, none⟩)) ⟨_, rfl, rfl, Below.refl _ _, hM⟩
    · obtain rfl := Option.some.inj (show opsN3[7]? = some o from ho)
      exact oq_N3_1 (hv 6 (by decide) rfl (he ⟨6, .data⟩ (by simp) rfl) : slot a 26 = .pointer (some ⟨g, 0, none⟩)) ⟨_, rfl, rfl, Below.refl _ _, hM⟩
    · obtain rfl := Option.some.inj (show opsN3[8]? = some o from ho)
      exact oq_N3_4 (hv 7 (by decide) rfl (he ⟨7, .data⟩ (by simp) rfl) : slot a 27 = .pointer (some ⟨g, 0, none⟩)) ⟨_, rfl, rfl, Below.refl _ _, hM⟩
    · obtain rfl := Option.some.inj (show opsN3[9]? = some o from ho)
      exact oq_N3_3 (hv 8 (by decide) rfl (he ⟨8, .data⟩ (by simp) rfl) : slot a 28 = .pointer (some ⟨g, 2, none⟩)) (((hR.next hM).cells).2.2.1) ⟨_, rfl, rfl, Below.refl _ _, hM⟩
    · obtain rfl := Option.some.inj (show opsN3[10]? = some o from ho)
      refine oq_N3_5 (hv 5 (by decide) rfl (he ⟨5, .data⟩ (by simp) rfl) : slot a 25 = vr) (hv 9 (by decide) rfl (he ⟨9, .data⟩ (by simp) rfl) : slot a 29 = va) ((c101 w hM).mono ?_)
      rintro e w' ⟨v, rfl, hSv, hb⟩
      exact ⟨v, rfl, _, rfl, hSv, hb, bnx hM hb⟩
    · obtain rfl := Option.some.inj (show opsN3[11]? = some o from ho)
      refine oq_N3_6 (hv 0 (by decide) rfl (he ⟨0, .data⟩ (by simp) rfl) : slot a 20 = .pointer (some ⟨g, 0, none⟩)) (hv 4 (by decide) rfl (he ⟨4, .data⟩ (by simp) rfl) : slot a 24 = vw) rfl ((c100 w _ hM (hv 10 (by decide) rfl (he ⟨10, .data⟩ (by simp) rfl))).mono ?_)
      rintro e w' ⟨v, rfl, hSv, hb⟩
      exact ⟨v, rfl, _, rfl, hSv, hb, bnx hM hb⟩
  · intro L a w hL hM hsz hdf hF hv
    have v31 : slot a 31 = .bool high := hv 11 (by decide) rfl
    refine BigFrame.wpList_want rfl fun K hK => oq_a_as v31 (hK _ _ ?_)
    clear K hK
    refine hQ _ _ (slot_put (by omega)) (by simp [Act.put, hsz]) hdf (fun t ht => ?_) hM
    rw [slot_put_ne (by have := ht 12 (by decide); exact this)]
    refine hF t fun i hi => ?_
    have := ht i (by omega)
    have hor : i = 0 ∨ i = 1 ∨ i = 2 ∨ i = 3 ∨ i = 4 ∨ i = 5 ∨ i = 6 ∨ i = 7 ∨ i = 8 ∨ i = 9 ∨ i = 10 ∨ i = 11 := by omega
    rcases hor with rfl | rfl | rfl | rfl | rfl | rfl | rfl | rfl | rfl | rfl | rfl | rfl <;> exact this
section
variable {a : Act} {w : World} {K : Act → World → Prop} {Q : Exit → Act → World → Prop} {d p q : Nat} {ty : TypeId} {pos : String} {after : Array Edge} {gd : Option (Nat × Bool)}
theorem oq_N9_0 {v : Value} (h1 : slot a p = v) (hK : K (a.put (some d) v) w) : Oper.wp Tryz.prog { dst := some d, op := Op.move (Operand.tmp p), type := ty, pos := pos, after := after, guard := gd } a w K Q := by
  unfold slot at h1
  simp [go_sem, h1]
  exact hK
theorem oq_N9_1 {p0 : Nat} {u0 : Value} {ts : Array TypeId} (h0 : slot a p0 = u0) (hc : Calls Tryz.prog 98 #[u0, (Value.int IntKind.u64 10)] w fun e w' => ∃ v, e = .returned v ∧ K (a.put (some d) v) w') : Oper.wp Tryz.prog { dst := some d, op := Op.call { callee := Callee.value (Operand.func 98), args := #[Operand.tmp p0, Operand.const (Value.int IntKind.u64 10)], argTypes := ts }, type := ty, pos := pos, after := after, guard := gd } a w K Q := by
  unfold slot at h0
  simp [go_sem, h0]
  refine hc.mono ?_
  rintro e w' ⟨v, rfl, hK⟩
  exact hK
theorem oq_N9_2 {g i : Nat} (h1 : slot a p = .pointer (some ⟨g, i, none⟩)) (hK : K (a.put (some d) (.pointer (some ⟨g, i, none⟩))) w) : Oper.wp Tryz.prog { dst := some d, op := Op.nilCheck (Operand.tmp p), type := ty, pos := pos, after := after, guard := gd } a w K Q := by
  unfold slot at h1
  simp [go_sem, h1]
  exact hK
theorem oq_N9_3 {g : Nat} (h1 : slot a p = .pointer (some ⟨g, 0, none⟩)) (hK : K (a.put (some d) (.pointer (some ⟨g, 1, none⟩))) w) : Oper.wp Tryz.prog { dst := some d, op := Op.fieldAddr 131 (Operand.tmp p) 1, type := ty, pos := pos, after := after, guard := gd } a w K Q := by
  unfold slot at h1
  simp [go_sem, h1]
  exact hK
theorem oq_N9_4 {g i : Nat} {v : Value} (h1 : slot a p = .pointer (some ⟨g, i, none⟩)) (h2 : w.cell? ⟨g, i, none⟩ = some v) (hK : K (a.put (some d) v) w) : Oper.wp Tryz.prog { dst := some d, op := Op.load 39 (Operand.tmp p), type := ty, pos := pos, after := after, guard := gd } a w K Q := by
  unfold slot at h1
  simp [go_sem, h1, h2]
  exact hK
theorem oq_N9_5 {g : Nat} (h1 : slot a p = .pointer (some ⟨g, 0, none⟩)) (hK : K (a.put (some d) (.pointer (some ⟨g, 2, none⟩))) w) : Oper.wp Tryz.prog { dst := some d, op := Op.fieldAddr 131 (Operand.tmp p) 2, type := ty, pos := pos, after := after, guard := gd } a w K Q := by
  unfold slot at h1
  simp [go_sem, h1]
  exact hK
theorem oq_N9_6 {g : Nat} (h1 : slot a p = .pointer (some ⟨g, 0, none⟩)) (hK : K (a.put (some d) (.pointer (some ⟨g, 0, none⟩))) w) : Oper.wp Tryz.prog { dst := some d, op := Op.fieldAddr 131 (Operand.tmp p) 0, type := ty, pos := pos, after := after, guard := gd } a w K Q := by
  unfold slot at h1
  simp [go_sem, h1]
  exact hK
end
noncomputable def opsN9 : List Oper := match Tryz.f64.body with
  | some (.seq _ (.seq _ (.seq _ (.seq _ (.seq _ (.seq _ (.seq _ (.seq (.region _ o _) _)))))))) => o.toList
  | _ => []
def slotsN9 : List Nat := [49, 50, 51, 52, 53, 54, 55, 56, 57, 58, 59, 60, 61, 62, 63, 64, 65, 9017, 66, 67, 9020]
def slotsAN9 : List Nat := [49, 50, 51, 52, 53, 54, 55, 56, 57, 58, 59, 60, 61, 62, 63, 64, 65, 66, 67, 68, 69]
section
variable {a : Act} {w : World} {K : Act → World → Prop} {Q : Exit → Act → World → Prop} {d p q : Nat} {ty : TypeId} {pos : String} {after : Array Edge} {gd : Option (Nat × Bool)}
theorem oq_st39 {g i : Nat} {u v : Value} (h1 : slot a p = .pointer (some ⟨g, i, none⟩)) (h2 : slot a q = v) (hv : isSl v) (c0 : w.cell? ⟨g, i, none⟩ = some u) (f : w.frozen? ⟨g, i, none⟩ = false) (hK : K a (w.setCell ⟨g, i, none⟩ v)) :
    Oper.wp Tryz.prog { dst := none, op := Op.store 39 (Operand.tmp p) (Operand.tmp q), type := ty, pos := pos, after := after, guard := gd } a w K Q := by
  obtain ⟨a1, k1, c1, rfl⟩ := hv
  unfold slot at h1 h2
  simp [go_sem, h1, h2, c0, f]
  exact hK
end
/-- what the reach holds, where just the operations of L are done -/
def M9 (g : Nat) (vn vb va vw : Value) (c : Bool) (ws : World) (L : Nat → Prop) (s : Nat → Value) (w : World) : Prop :=
  Mut g ws w ∧ ∃ x0 x1, Rch g x0 x1 va vw c w ∧ (L 17 → x0 = s 53) ∧ (¬ L 17 → x0 = vn) ∧ (L 20 → x1 = s 58) ∧ (¬ L 20 → x1 = vb)
section
variable {g : Nat} {vn vb va vw : Value} {c : Bool} {ws : World} {L : Nat → Prop} {s : Nat → Value} {w w' : World}
theorem m9_c1 (h : M9 g vn vb va vw c ws L s w) (h20 : ¬ L 20) : w.cell? ⟨g, 1, none⟩ = some vb := by
  obtain ⟨_, x0, x1, hR, q1, q2, q3, q4⟩ := h
  obtain rfl := q4 h20
  exact hR.cells.2.1
theorem m9_c2 (h : M9 g vn vb va vw c ws L s w) : w.cell? ⟨g, 2, none⟩ = some va := by
  obtain ⟨_, x0, x1, hR, _⟩ := h
  exact hR.cells.2.2.1
theorem m9_put {i d : Nat} {v : Value} (h : M9 g vn vb va vw c ws L s w) (hi : i ≠ 17 ∧ i ≠ 20) (h17 : d = 53 → ¬ L 17) (h20 : d = 58 → ¬ L 20) (hm : Mut g w w') (hk : ∀ x0 x1, Rch g x0 x1 va vw c w → Rch g x0 x1 va vw c w') :
    M9 g vn vb va vw c ws (fun j => L j ∨ j = i) (fun t => if some d = some t then v else s t) w' := by
  obtain ⟨h1, x0, x1, hR, q1, q2, q3, q4⟩ := h
  refine ⟨h1.trans hm, x0, x1, hk _ _ hR, fun h => ?_, fun h => q2 fun h' => h (Or.inl h'), fun h => ?_, fun h => q4 fun h' => h (Or.inl h')⟩
  · have hl := h.resolve_right fun e => hi.1 e.symm
    rw [q1 hl]
    by_cases e : d = 53
    · exact absurd hl (h17 e)
    · exact (if_neg (fun h => e (Option.some.inj h))).symm
  · have hl := h.resolve_right fun e => hi.2 e.symm
    rw [q3 hl]
    by_cases e : d = 58
    · exact absurd hl (h20 e)
    · exact (if_neg (fun h => e (Option.some.inj h))).symm
theorem m9_st0 {A : Nat} {v : Value} (h : M9 g vn vb va vw c ws L s w) (hz : NT 2001 A (s 53) w) : M9 g vn vb va vw c ws (fun j => L j ∨ j = 17) (fun t => if (none : Option Nat) = some t then v else s t) (w.setCell ⟨g, 0, none⟩ (s 53)) := by
  obtain ⟨h1, x0, x1, hR, q1, q2, q3, q4⟩ := h
  refine ⟨h1.set _ _, s 53, x1, (hR.set _ hz.nt.sl).1, fun _ => by simp, fun h => absurd (Or.inr rfl) h, fun h => ?_, fun h => q4 fun h' => h (Or.inl h')⟩
  rw [q3 (h.resolve_right (by decide))]; simp
theorem m9_st1 {A : Nat} {v : Value} (h : M9 g vn vb va vw c ws L s w) (hz : NT 2001 A (s 58) w) : M9 g vn vb va vw c ws (fun j => L j ∨ j = 20) (fun t => if (none : Option Nat) = some t then v else s t) (w.setCell ⟨g, 1, none⟩ (s 58)) := by
  obtain ⟨h1, x0, x1, hR, q1, q2, q3, q4⟩ := h
  refine ⟨h1.set _ _, x0, s 58, (hR.set _ hz.nt.sl).2.1, fun h => ?_, fun h => q2 fun h' => h (Or.inl h'), fun _ => by simp, fun h => absurd (Or.inr rfl) h⟩
  rw [q1 (h.resolve_right (by decide))]; simp
end
set_option maxHeartbeats 8000000 in
theorem regN9 {g A B C : Nat} {vn vb va vw vr : Value} {c : Bool} {a0 : Act} {ws : World} {Q : Exit → Act → World → Prop} (hs : a0.tmps.size = 75) (g0 : slot a0 0 = .pointer (some ⟨g, 0, none⟩)) (g4 : slot a0 4 = vr) (hR : Rch g vn vb va vw c ws)
    (c97r : ∀ W, Mut g ws W → Calls Tryz.prog 98 #[vr, .int .u64 10] W fun e w' => ∃ v, e = .returned v ∧ NT 2001 A v w' ∧ Below W.heap.size W w')
    (c97b : ∀ W, Mut g ws W → Calls Tryz.prog 98 #[vb, .int .u64 10] W fun e w' => ∃ v, e = .returned v ∧ NT 2001 B v w' ∧ Below W.heap.size W w')
    (c97a : ∀ W, Mut g ws W → Calls Tryz.prog 98 #[va, .int .u64 10] W fun e w' => ∃ v, e = .returned v ∧ NT 2001 C v w' ∧ Below W.heap.size W w')
    (hQ : ∀ (a : Act) (w : World), Rch g (slot a 53) (slot a 58) (slot a 63) vw c w → NT 2001 A (slot a 53) w → NT 2001 B (slot a 58) w → NT 2001 C (slot a 63) w → a.tmps.size = 75 → a.defers = a0.defers → (∀ t, (∀ i, i < 21 → slotsAN9.getD i 0 ≠ t) → slot a t = slot a0 t) → Mut g ws w → Q .normal a w) :
    (Code.region 9 opsN9.toArray true).wp Tryz.prog Q a0 ws := by
  refine wp_region_mem 21 75 slotsN9 [isW (.pointer (some ⟨g, 0, none⟩)), isW (.pointer (some ⟨g, 0, none⟩)), isW (.pointer (some ⟨g, 0, none⟩)), isW (vr), NT 2001 A, isW (.pointer (some ⟨g, 0, none⟩)), isW (.pointer (some ⟨g, 0, none⟩)), isW (.pointer (some ⟨g, 1, none⟩)), isW (vb), NT 2001 B, isW (.pointer (some ⟨g, 0, none⟩)), isW (.pointer (some ⟨g, 0, none⟩)), isW (.pointer (some ⟨g, 2, none⟩)), isW (va), NT 2001 C, isW (.pointer (some ⟨g, 0, none⟩)), isW (.pointer (some ⟨g, 0, none⟩)), fun _ _ => True, isW (.pointer (some ⟨g, 0, none⟩)), isW (.pointer (some ⟨g, 1, none⟩)), fun _ _ => True] (fun w w' => ∀ K V v, NT K V v w → NT K V v w') (M9 g vn vb va vw c ws) (by kernel_rfl) (by kernel_rfl) (by kernel_rfl) hs ?_ ⟨⟨rfl, rfl, rfl, Nat.le_refl _, fun _ _ _ => rfl⟩, vn, vb, ⟨hR.blk, hR.s0, hR.s1, hR.s2, hR.s3⟩, fun h => h.elim, fun _ => rfl, fun h => h.elim, fun _ => rfl⟩ ?_ ?_
  · intro p hp
    simp only [List.mem_cons, List.not_mem_nil, or_false] at hp
    rcases hp with rfl | rfl | rfl | rfl | rfl | rfl | rfl | rfl | rfl | rfl | rfl | rfl | rfl | rfl | rfl | rfl | rfl | rfl | rfl | rfl | rfl
    all_goals first | exact fun _ _ _ h _ => h | exact fun _ _ _ h hb => hb _ _ _ h
  · intro L i o a w hi ho hL hcl he hM hF hv
    have f0 : slot a 0 = .pointer (some ⟨g, 0, none⟩) := (hF 0 (by decide)).trans g0
    have f4 : slot a 4 = vr := (hF 4 (by decide)).trans g4
    have hor : i = 0 ∨ i = 1 ∨ i = 2 ∨ i = 3 ∨ i = 4 ∨ i = 5 ∨ i = 6 ∨ i = 7 ∨ i = 8 ∨ i = 9 ∨ i = 10 ∨ i = 11 ∨ i = 12 ∨ i = 13 ∨ i = 14 ∨ i = 15 ∨ i = 16 ∨ i = 17 ∨ i = 18 ∨ i = 19 ∨ i = 20 := by omega
    rcases hor with rfl | rfl | rfl | rfl | rfl | rfl | rfl | rfl | rfl | rfl | rfl | rfl | rfl | rfl | rfl | rfl | rfl | rfl | rfl | rfl | rfl
    · obtain rfl := Option.some.inj (show opsN9[0]? = some o from ho)
      exact oq_N9_0 (f0 : slot a 0 = .pointer (some ⟨g, 0, none⟩)) ⟨_, rfl, rfl, fun _ _ _ h => h, m9_put hM ⟨by decide, by decide⟩ (fun e => absurd e (by decide)) (fun e => absurd e (by decide)) (Mut.refl _ _) fun _ _ h => h⟩
    · obtain rfl := Option.some.inj (show opsN9[1]? = some o from ho)
      exact oq_N9_0 (f0 : slot a 0 = .pointer (some ⟨g, 0, none⟩)) ⟨_, rfl, rfl, fun _ _ _ h => h, m9_put hM ⟨by decide, by decide⟩ (fun e => absurd e (by decide)) (fun e => absurd e (by decide)) (Mut.refl _ _) fun _ _ h => h⟩
    · obtain rfl := Option.some.inj (show opsN9[2]? = some o from ho)
      exact oq_N9_0 (f0 : slot a 0 = .pointer (some ⟨g, 0, none⟩)) ⟨_, rfl, rfl, fun _ _ _ h => h, m9_put hM ⟨by decide, by decide⟩ (fun e => absurd e (by decide)) (fun e => absurd e (by decide)) (Mut.refl _ _) fun _ _ h => h⟩
    · obtain rfl := Option.some.inj (show opsN9[3]? = some o from ho)
      exact oq_N9_0 (f4 : slot a 4 = vr) ⟨_, rfl, rfl, fun _ _ _ h => h, m9_put hM ⟨by decide, by decide⟩ (fun e => absurd e (by decide)) (fun e => absurd e (by decide)) (Mut.refl _ _) fun _ _ h => h⟩
    · obtain rfl := Option.some.inj (show opsN9[4]? = some o from ho)
      refine oq_N9_1 (hv 3 (by decide) rfl (he ⟨3, .data⟩ (by simp) rfl) : slot a 52 = vr) ((c97r w hM.1).mono ?_)
      rintro e w' ⟨v, rfl, hSv, hb⟩
      exact ⟨v, rfl, _, rfl, hSv, fun _ _ _ h => h.next hb, m9_put hM ⟨by decide, by decide⟩ (fun _ h17 => hL (hcl 17 _ rfl h17 ⟨4, .data⟩ (by simp) rfl)) (fun e => absurd e (by decide)) (Mut.below hb) fun _ _ h => h.next hb⟩
    · obtain rfl := Option.some.inj (show opsN9[5]? = some o from ho)
      exact oq_N9_0 (f0 : slot a 0 = .pointer (some ⟨g, 0, none⟩)) ⟨_, rfl, rfl, fun _ _ _ h => h, m9_put hM ⟨by decide, by decide⟩ (fun e => absurd e (by decide)) (fun e => absurd e (by decide)) (Mut.refl _ _) fun _ _ h => h⟩
    · obtain rfl := Option.some.inj (show opsN9[6]? = some o from ho)
      exact oq_N9_2 (hv 5 (by decide) rfl (he ⟨5, .data⟩ (by simp) rfl) : slot a 54 = .pointer (some ⟨g, 0, none⟩)) ⟨_, rfl, rfl, fun _ _ _ h => h, m9_put hM ⟨by decide, by decide⟩ (fun e => absurd e (by decide)) (fun e => absurd e (by decide)) (Mut.refl _ _) fun _ _ h => h⟩
    · obtain rfl := Option.some.inj (show opsN9[7]? = some o from ho)
      exact oq_N9_3 (hv 6 (by decide) rfl (he ⟨6, .data⟩ (by simp) rfl) : slot a 55 = .pointer (some ⟨g, 0, none⟩)) ⟨_, rfl, rfl, fun _ _ _ h => h, m9_put hM ⟨by decide, by decide⟩ (fun e => absurd e (by decide)) (fun e => absurd e (by decide)) (Mut.refl _ _) fun _ _ h => h⟩
    · obtain rfl := Option.some.inj (show opsN9[8]? = some o from ho)
      exact oq_N9_4 (hv 7 (by decide) rfl (he ⟨7, .data⟩ (by simp) rfl) : slot a 56 = .pointer (some ⟨g, 1, none⟩)) (m9_c1 hM (fun h20 => hL (hcl 9 _ rfl (hcl 20 _ rfl h20 ⟨9, .data⟩ (by simp) rfl) ⟨8, .data⟩ (by simp) rfl))) ⟨_, rfl, rfl, fun _ _ _ h => h, m9_put hM ⟨by decide, by decide⟩ (fun e => absurd e (by decide)) (fun e => absurd e (by decide)) (Mut.refl _ _) fun _ _ h => h⟩
    · obtain rfl := Option.some.inj (show opsN9[9]? = some o from ho)
      refine oq_N9_1 (hv 8 (by decide) rfl (he ⟨8, .data⟩ (by simp) rfl) : slot a 57 = vb) ((c97b w hM.1).mono ?_)
      rintro e w' ⟨v, rfl, hSv, hb⟩
      exact ⟨v, rfl, _, rfl, hSv, fun _ _ _ h => h.next hb, m9_put hM ⟨by decide, by decide⟩ (fun e => absurd e (by decide)) (fun _ h20 => hL (hcl 20 _ rfl h20 ⟨9, .data⟩ (by simp) rfl)) (Mut.below hb) fun _ _ h => h.next hb⟩
    · obtain rfl := Option.some.inj (show opsN9[10]? = some o from ho)
      exact oq_N9_0 (f0 : slot a 0 = .pointer (some ⟨g, 0, none⟩)) ⟨_, rfl, rfl, fun _ _ _ h => h, m9_put hM ⟨by decide, by decide⟩ (fun e => absurd e (by decide)) (fun e => absurd e (by decide)) (Mut.refl _ _) fun _ _ h => h⟩
    · obtain rfl := Option.some.inj (show opsN9[11]? = some o from ho)
      exact oq_N9_2 (hv 10 (by decide) rfl (he ⟨10, .data⟩ (by simp) rfl) : slot a 59 = .pointer (some ⟨g, 0, none⟩)) ⟨_, rfl, rfl, fun _ _ _ h => h, m9_put hM ⟨by decide, by decide⟩ (fun e => absurd e (by decide)) (fun e => absurd e (by decide)) (Mut.refl _ _) fun _ _ h => h⟩
    · obtain rfl := Option.some.inj (show opsN9[12]? = some o from ho)
      exact oq_N9_5 (hv 11 (by decide) rfl (he ⟨11, .data⟩ (by simp) rfl) : slot a 60 = .pointer (some ⟨g, 0, none⟩)) ⟨_, rfl, rfl, fun _ _ _ h => h, m9_put hM ⟨by decide, by decide⟩ (fun e => absurd e (by decide)) (fun e => absurd e (by decide)) (Mut.refl _ _) fun _ _ h => h⟩
    · obtain rfl := Option.some.inj (show opsN9[13]? = some o from ho)
      exact oq_N9_4 (hv 12 (by decide) rfl (he ⟨12, .data⟩ (by simp) rfl) : slot a 61 = .pointer (some ⟨g, 2, none⟩)) (m9_c2 hM) ⟨_, rfl, rfl, fun _ _ _ h => h, m9_put hM ⟨by decide, by decide⟩ (fun e => absurd e (by decide)) (fun e => absurd e (by decide)) (Mut.refl _ _) fun _ _ h => h⟩
    · obtain rfl := Option.some.inj (show opsN9[14]? = some o from ho)
      refine oq_N9_1 (hv 13 (by decide) rfl (he ⟨13, .data⟩ (by simp) rfl) : slot a 62 = va) ((c97a w hM.1).mono ?_)
      rintro e w' ⟨v, rfl, hSv, hb⟩
      exact ⟨v, rfl, _, rfl, hSv, fun _ _ _ h => h.next hb, m9_put hM ⟨by decide, by decide⟩ (fun e => absurd e (by decide)) (fun e => absurd e (by decide)) (Mut.below hb) fun _ _ h => h.next hb⟩
    · obtain rfl := Option.some.inj (show opsN9[15]? = some o from ho)
      exact oq_N9_2 (hv 0 (by decide) rfl (he ⟨0, .data⟩ (by simp) rfl) : slot a 49 = .pointer (some ⟨g, 0, none⟩)) ⟨_, rfl, rfl, fun _ _ _ h => h, m9_put hM ⟨by decide, by decide⟩ (fun e => absurd e (by decide)) (fun e => absurd e (by decide)) (Mut.refl _ _) fun _ _ h => h⟩
    · obtain rfl := Option.some.inj (show opsN9[16]? = some o from ho)
      exact oq_N9_6 (hv 15 (by decide) rfl (he ⟨15, .data⟩ (by simp) rfl) : slot a 64 = .pointer (some ⟨g, 0, none⟩)) ⟨_, rfl, rfl, fun _ _ _ h => h, m9_put hM ⟨by decide, by decide⟩ (fun e => absurd e (by decide)) (fun e => absurd e (by decide)) (Mut.refl _ _) fun _ _ h => h⟩
    · obtain rfl := Option.some.inj (show opsN9[17]? = some o from ho)
      have z53 : NT 2001 A (slot a 53) w := hv 4 (by decide) rfl (he ⟨4, .data⟩ (by simp) rfl)
      have z65 : slot a 65 = .pointer (some ⟨g, 0, none⟩) := hv 16 (by decide) rfl (he ⟨16, .data⟩ (by simp) rfl)
      obtain ⟨x0, x1, hRw, q1, q2, q3, q4⟩ := hM.2
      exact oq_st39 z65 rfl z53.nt.sl hRw.cells.1 (hRw.froz 0) ⟨undef, rfl, trivial, fun _ _ _ h => h.mut hRw ((Mut.refl _ _).set _ _), m9_st0 hM z53⟩
    · obtain rfl := Option.some.inj (show opsN9[18]? = some o from ho)
      exact oq_N9_2 (hv 1 (by decide) rfl (he ⟨1, .data⟩ (by simp) rfl) : slot a 50 = .pointer (some ⟨g, 0, none⟩)) ⟨_, rfl, rfl, fun _ _ _ h => h, m9_put hM ⟨by decide, by decide⟩ (fun e => absurd e (by decide)) (fun e => absurd e (by decide)) (Mut.refl _ _) fun _ _ h => h⟩
    · obtain rfl := Option.some.inj (show opsN9[19]? = some o from ho)
      exact oq_N9_3 (hv 18 (by decide) rfl (he ⟨18, .data⟩ (by simp) rfl) : slot a 66 = .pointer (some ⟨g, 0, none⟩)) ⟨_, rfl, rfl, fun _ _ _ h => h, m9_put hM ⟨by decide, by decide⟩ (fun e => absurd e (by decide)) (fun e => absurd e (by decide)) (Mut.refl _ _) fun _ _ h => h⟩
    · obtain rfl := Option.some.inj (show opsN9[20]? = some o from ho)
      have z58 : NT 2001 B (slot a 58) w := hv 9 (by decide) rfl (he ⟨9, .data⟩ (by simp) rfl)
      have z67 : slot a 67 = .pointer (some ⟨g, 1, none⟩) := hv 19 (by decide) rfl (he ⟨19, .data⟩ (by simp) rfl)
      obtain ⟨x0, x1, hRw, q1, q2, q3, q4⟩ := hM.2
      exact oq_st39 z67 rfl z58.nt.sl hRw.cells.2.1 (hRw.froz 1) ⟨undef, rfl, trivial, fun _ _ _ h => h.mut hRw ((Mut.refl _ _).set _ _), m9_st1 hM z58⟩
  · intro L a w hL hM hsz hdf hF hv
    have v51 : slot a 51 = .pointer (some ⟨g, 0, none⟩) := hv 2 (by decide) rfl
    have z53 : NT 2001 A (slot a 53) w := hv 4 (by decide) rfl
    have z58 : NT 2001 B (slot a 58) w := hv 9 (by decide) rfl
    have z63 : NT 2001 C (slot a 63) w := hv 14 (by decide) rfl
    obtain ⟨hmu, x0, x1, hRw, q1, q2, q3, q4⟩ := hM
    obtain rfl := q1 (hL 17 (by decide))
    obtain rfl := q3 (hL 20 (by decide))
    refine BigFrame.wpList_want rfl fun K hK => oq_N9_2 v51 (hK _ _ ?_)
    clear K hK
    have v68 : slot (a.put (some 68) (.pointer (some ⟨g, 0, none⟩))) 68 = .pointer (some ⟨g, 0, none⟩) := slot_put (by omega)
    refine BigFrame.wpList_want rfl fun K hK => oq_N9_5 v68 (hK _ _ ?_)
    clear K hK
    have v69 : slot ((a.put (some 68) (.pointer (some ⟨g, 0, none⟩))).put (some 69) (.pointer (some ⟨g, 2, none⟩))) 69 = .pointer (some ⟨g, 2, none⟩) := slot_put (by simp [Act.put]; omega)
    have e63 : slot ((a.put (some 68) (.pointer (some ⟨g, 0, none⟩))).put (some 69) (.pointer (some ⟨g, 2, none⟩))) 63 = slot a 63 := by rw [slot_put_ne (by decide), slot_put_ne (by decide)]
    have e53 : slot ((a.put (some 68) (.pointer (some ⟨g, 0, none⟩))).put (some 69) (.pointer (some ⟨g, 2, none⟩))) 53 = slot a 53 := by rw [slot_put_ne (by decide), slot_put_ne (by decide)]
    have e58 : slot ((a.put (some 68) (.pointer (some ⟨g, 0, none⟩))).put (some 69) (.pointer (some ⟨g, 2, none⟩))) 58 = slot a 58 := by rw [slot_put_ne (by decide), slot_put_ne (by decide)]
    refine BigFrame.wpList_want rfl fun K hK => oq_st39 v69 e63 z63.nt.sl hRw.cells.2.2.1 (hRw.froz 2) (hK _ _ ?_)
    clear K hK
    have hR2 := (hRw.set (slot a 63) z63.nt.sl).2.2.1
    have hm2 : Mut g w (w.setCell ⟨g, 2, none⟩ (slot a 63)) := (Mut.refl _ _).set _ _
    refine hQ _ _ ?_ ?_ ?_ ?_ (by simp [Act.put, hsz]) hdf (fun t ht => ?_) (hmu.trans hm2)
    · rw [e53, e58, e63]; exact hR2
    · rw [e53]; exact z53.mut hRw hm2
    · rw [e58]; exact z58.mut hRw hm2
    · rw [e63]; exact z63.mut hRw hm2
    · rw [slot_put_ne (by have := ht 20 (by decide); exact this), slot_put_ne (by have := ht 19 (by decide); exact this)]
      by_cases h75 : t < 75
      · refine hF t fun i hi => ?_
        have hor : i = 17 ∨ i = 20 ∨ i = 18 ∨ i = 19 ∨ i < 17 := by omega
        rcases hor with rfl | rfl | rfl | rfl | h
        · exact fun h => by have : 9017 = t := h; omega
        · exact fun h => by have : 9020 = t := h; omega
        · exact ht 17 (by decide)
        · exact ht 18 (by decide)
        · have e := ht i (by omega)
          have : slotsAN9.getD i 0 = slotsN9.getD i 0 := by
            have hor : i = 0 ∨ i = 1 ∨ i = 2 ∨ i = 3 ∨ i = 4 ∨ i = 5 ∨ i = 6 ∨ i = 7 ∨ i = 8 ∨ i = 9 ∨ i = 10 ∨ i = 11 ∨ i = 12 ∨ i = 13 ∨ i = 14 ∨ i = 15 ∨ i = 16 := by omega
            rcases hor with rfl | rfl | rfl | rfl | rfl | rfl | rfl | rfl | rfl | rfl | rfl | rfl | rfl | rfl | rfl | rfl | rfl <;> rfl
          rw [← this]; exact e
      · unfold slot
        rw [Array.getElem?_eq_none (by omega), Array.getElem?_eq_none (by omega)]
end Go.Proofs.YtoobncgmcnmgjaaGreatDoor
