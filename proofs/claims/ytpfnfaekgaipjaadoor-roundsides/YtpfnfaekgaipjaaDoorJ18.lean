/-
  Texts that the proof leans on, joined: Yk.
-/
import Derived.Test.YtpfnfaekgaipjaaDoorJ12
import Derived.Test.YtpfnfaekgaipjaaDoorJ17
import Derived.Test.YtpfnfaekgaipjaaDoorJ5
import Derived.Test.YtpfnfaekgaipjaaDoorJ1
set_option linter.unusedVariables false
set_option linter.unusedSectionVars false
set_option linter.unusedSimpArgs false
set_option maxRecDepth 20000
namespace Go.Proofs.YtpfnfaekgaipjaaDoor
open Go.RowKit

/-- a region's operations, by its number -/
def findR (n : Nat) : Code → Option (List Oper)
  | .region i o _ => if i = n then some o.toList else none
  | .seq a b => match findR n a with | some l => some l | none => findR n b
  | .cond _ a b => match findR n a with | some l => some l | none => findR n b
  | .block _ c => findR n c
  | .loop c => findR n c
  | _ => none
attribute [local irreducible] W4 NT
/-- a pattern lies in a block of its own -/
structure B4 (g X : Nat) (w : World) : Prop where
  lt : g < w.heap.size
  c0 : w.cell? ⟨g, 0, none⟩ = some (.int .u64 (W4 X 0))
  c1 : w.cell? ⟨g, 1, none⟩ = some (.int .u64 (W4 X 1))
  c2 : w.cell? ⟨g, 2, none⟩ = some (.int .u64 (W4 X 2))
  c3 : w.cell? ⟨g, 3, none⟩ = some (.int .u64 (W4 X 3))
  f0 : w.frozen? ⟨g, 0, none⟩ = false
  f1 : w.frozen? ⟨g, 1, none⟩ = false
  f2 : w.frozen? ⟨g, 2, none⟩ = false
  f3 : w.frozen? ⟨g, 3, none⟩ = false
theorem B4.next {g X : Nat} {w w' : World} (h : B4 g X w) (hb : Below w.heap.size w w') : B4 g X w' :=
  ⟨Nat.lt_of_lt_of_le h.lt hb.size, (hb.cell (p := ⟨g, 0, none⟩) h.lt).trans h.c0, (hb.cell (p := ⟨g, 1, none⟩) h.lt).trans h.c1, (hb.cell (p := ⟨g, 2, none⟩) h.lt).trans h.c2, (hb.cell (p := ⟨g, 3, none⟩) h.lt).trans h.c3,
    (hb.frozen (p := ⟨g, 0, none⟩) h.lt).trans h.f0, (hb.frozen (p := ⟨g, 1, none⟩) h.lt).trans h.f1, (hb.frozen (p := ⟨g, 2, none⟩) h.lt).trans h.f2, (hb.frozen (p := ⟨g, 3, none⟩) h.lt).trans h.f3⟩
theorem B4.new (w : World) (t : TypeId) : B4 w.heap.size 0 (w.alloc (.cells #[.int .u64 0, .int .u64 0, .int .u64 0, .int .u64 0] t)) := by
  refine ⟨by simp, ?_, ?_, ?_, ?_, ?_, ?_, ?_, ?_⟩ <;> first | (rw [W4_zero]; go_simp) | go_simp
/-- a pattern written over another one -/
abbrev put4B (w : World) (g X : Nat) : World := (((w.setCell ⟨g, 0, none⟩ (.int .u64 (W4 X 0))).setCell ⟨g, 1, none⟩ (.int .u64 (W4 X 1))).setCell ⟨g, 2, none⟩ (.int .u64 (W4 X 2))).setCell ⟨g, 3, none⟩ (.int .u64 (W4 X 3))
theorem B4.put {g X Y : Nat} {w : World} (h : B4 g X w) : B4 g Y (put4B w g Y) := by
  have hsm := cell_set_map
  obtain ⟨h0, h1, h2, h3, h4, h5, h6, h7, h8⟩ := h
  refine ⟨by simp; exact h0, ?_, ?_, ?_, ?_, ?_, ?_, ?_, ?_⟩ <;> go_simp
theorem B4.other {g h X Y : Nat} {w : World} (hB : B4 g X w) (hne : g ≠ h) : B4 g X (put4B w h Y) := by
  obtain ⟨h0, h1, h2, h3, h4, h5, h6, h7, h8⟩ := hB
  refine ⟨by simp; exact h0, ?_, ?_, ?_, ?_, ?_, ?_, ?_, ?_⟩ <;> go_simp
theorem put4B_cell {w : World} {g X b i : Nat} (h : b ≠ g) : (put4B w g X).cell? ⟨b, i, none⟩ = w.cell? ⟨b, i, none⟩ := by
  go_simp
theorem put4B_size (w : World) (g X : Nat) : (put4B w g X).heap.size = w.heap.size := by simp
theorem put4B_below {B0 g X : Nat} {w0 w : World} (hb : Below B0 w0 w) (hg : B0 ≤ g) : Below B0 w0 (put4B w g X) := bgo
section
variable {P : Program} {a : Act} {w : World} {K : Act → World → Prop} {Q : Exit → Act → World → Prop} {d p q : Nat} {ty : TypeId} {pos : String} {after : Array Edge} {gd : Option (Nat × Bool)}
theorem og_ia0 {g : Nat} (h1 : slot a p = .pointer (some ⟨g, 0, none⟩)) (hK : K (a.put (some d) (.pointer (some ⟨g, 0, none⟩))) w) : Oper.wp Tryd.prog { dst := some d, op := Op.indexAddr 29 (Operand.tmp p) (Operand.const (.int .i64 0)), type := ty, pos := pos, after := after, guard := gd } a w K Q := by
  unfold slot at h1
  simp [go_sem, h1]
  exact hK
theorem og_ia1 {g : Nat} (h1 : slot a p = .pointer (some ⟨g, 0, none⟩)) (hK : K (a.put (some d) (.pointer (some ⟨g, 4, none⟩))) w) : Oper.wp Tryd.prog { dst := some d, op := Op.indexAddr 29 (Operand.tmp p) (Operand.const (.int .i64 1)), type := ty, pos := pos, after := after, guard := gd } a w K Q := by
  unfold slot at h1
  simp [go_sem, h1]
  exact hK
theorem og_ia2 {g : Nat} (h1 : slot a p = .pointer (some ⟨g, 0, none⟩)) (hK : K (a.put (some d) (.pointer (some ⟨g, 8, none⟩))) w) : Oper.wp Tryd.prog { dst := some d, op := Op.indexAddr 29 (Operand.tmp p) (Operand.const (.int .i64 2)), type := ty, pos := pos, after := after, guard := gd } a w K Q := by
  unfold slot at h1
  simp [go_sem, h1]
  exact hK
theorem og_ia3 {g : Nat} (h1 : slot a p = .pointer (some ⟨g, 0, none⟩)) (hK : K (a.put (some d) (.pointer (some ⟨g, 12, none⟩))) w) : Oper.wp Tryd.prog { dst := some d, op := Op.indexAddr 29 (Operand.tmp p) (Operand.const (.int .i64 3)), type := ty, pos := pos, after := after, guard := gd } a w K Q := by
  unfold slot at h1
  simp [go_sem, h1]
  exact hK
theorem og_ia4 {g : Nat} (h1 : slot a p = .pointer (some ⟨g, 0, none⟩)) (hK : K (a.put (some d) (.pointer (some ⟨g, 16, none⟩))) w) : Oper.wp Tryd.prog { dst := some d, op := Op.indexAddr 29 (Operand.tmp p) (Operand.const (.int .i64 4)), type := ty, pos := pos, after := after, guard := gd } a w K Q := by
  unfold slot at h1
  simp [go_sem, h1]
  exact hK
theorem og_alB (hK : K (a.put (some d) (.pointer (some ⟨w.heap.size, 0, none⟩))) (w.alloc (.cells #[.int .u64 0, .int .u64 0, .int .u64 0, .int .u64 0] 28))) : Oper.wp Tryd.prog { dst := some d, op := Op.alloc 28, type := ty, pos := pos, after := after, guard := gd } a w K Q := by
  simp [go_sem]
  exact hK
theorem og_stB {g X Y : Nat} (h1 : slot a p = .pointer (some ⟨g, 0, none⟩)) (h2 : slot a q = A4 Y) (hB : B4 g X w) (hK : K a (put4B w g Y)) : Oper.wp Tryd.prog { dst := none, op := Op.store 28 (Operand.tmp p) (Operand.tmp q), type := ty, pos := pos, after := after, guard := gd } a w K Q := by
  obtain ⟨h3, c0, c1, c2, c3, f0, f1, f2, f3⟩ := hB
  unfold slot at h1 h2
  unfold A4 at h2
  have hsm := cell_set_map
  simp [go_sem, h1, h2, c0, c1, c2, c3, f0, f1, f2, f3]
  exact hK
theorem og_bs1 (hK : K (a.put (some d) (.slice (some ⟨w.heap.size, 0, none⟩) 1 1)) (w.alloc (.cells #[.int .u64 1] 26))) : Oper.wp Tryd.prog { dst := some d, op := Op.buildSlice 22 1 #[(0, Operand.const (.int .u64 1))], type := ty, pos := pos, after := after, guard := gd } a w K Q := by
  simp [go_sem]
  exact hK
theorem og_less {p0 p1 : Nat} {u0 u1 : Value} {ts : Array TypeId} (h0 : slot a p0 = u0) (h1 : slot a p1 = u1) (hc : Calls Tryd.prog 8 #[u0, u1] w fun e w' => ∃ v, e = .returned v ∧ K (a.put (some d) v) w') : Oper.wp Tryd.prog { dst := some d, op := Op.call { callee := Callee.value (Operand.func 8), args := #[Operand.tmp p0, Operand.tmp p1], argTypes := ts }, type := ty, pos := pos, after := after, guard := gd } a w K Q := by
  unfold slot at h0 h1
  simp [go_sem, h0, h1]
  refine hc.mono ?_
  rintro e w' ⟨v, rfl, hK⟩
  exact hK
theorem og_cmp {p0 p1 : Nat} {u0 u1 : Value} {ts : Array TypeId} (h0 : slot a p0 = u0) (h1 : slot a p1 = u1) (hc : Calls Tryd.prog 9 #[u0, u1] w fun e w' => ∃ v, e = .returned v ∧ K (a.put (some d) v) w') : Oper.wp Tryd.prog { dst := some d, op := Op.call { callee := Callee.value (Operand.func 9), args := #[Operand.tmp p0, Operand.tmp p1], argTypes := ts }, type := ty, pos := pos, after := after, guard := gd } a w K Q := by
  unfold slot at h0 h1
  simp [go_sem, h0, h1]
  refine hc.mono ?_
  rintro e w' ⟨v, rfl, hK⟩
  exact hK
theorem og_same {p0 p1 : Nat} {u0 u1 : Value} {ts : Array TypeId} (h0 : slot a p0 = u0) (h1 : slot a p1 = u1) (hc : Calls Tryd.prog 10 #[u0, u1] w fun e w' => ∃ v, e = .returned v ∧ K (a.put (some d) v) w') : Oper.wp Tryd.prog { dst := some d, op := Op.call { callee := Callee.value (Operand.func 10), args := #[Operand.tmp p0, Operand.tmp p1], argTypes := ts }, type := ty, pos := pos, after := after, guard := gd } a w K Q := by
  unfold slot at h0 h1
  simp [go_sem, h0, h1]
  refine hc.mono ?_
  rintro e w' ⟨v, rfl, hK⟩
  exact hK
end
noncomputable def ops18 : List Oper := (Tryd.f3.body.bind (findR 18)).getD []
noncomputable def ops21 : List Oper := (Tryd.f3.body.bind (findR 21)).getD []
noncomputable def ops24 : List Oper := (Tryd.f3.body.bind (findR 24)).getD []
def slots18 : List Nat := [71, 72, 73, 74, 17, 18, 100]
/-- what stands while the region is under way -/
def M18 (ws : World) (X4 : Nat) (L : Nat → Prop) (f : Nat → Value) (w : World) : Prop :=
  Below ws.heap.size ws w ∧ (L 4 → ∃ g X, f 17 = .pointer (some ⟨g, 0, none⟩) ∧ ws.heap.size ≤ g ∧ B4 g X w ∧ (L 6 → X = X4)) ∧ (L 5 → ∃ h, f 18 = .pointer (some ⟨h, 0, none⟩) ∧ ws.heap.size ≤ h ∧ B4 h 0 w) ∧ (L 4 → L 5 → f 17 ≠ f 18)
theorem M18.step {ws w : World} {X4 k t : Nat} {L : Nat → Prop} {f : Nat → Value} {v : Value} (h : M18 ws X4 L f w) (h1 : t ≠ 17) (h2 : t ≠ 18) (h3 : k ≠ 4) (h4 : k ≠ 5) (h5 : k ≠ 6) : M18 ws X4 (fun j => L j ∨ j = k) (fun u => if some t = some u then v else f u) w := by
  obtain ⟨a1, a2, a3, a4⟩ := h
  have e17 : (if some t = some 17 then v else f 17) = f 17 := if_neg (fun e => h1 (Option.some.inj e))
  have e18 : (if some t = some 18 then v else f 18) = f 18 := if_neg (fun e => h2 (Option.some.inj e))
  have l4 : ∀ {p : Prop}, (p ∨ 4 = k) → p := fun h => h.resolve_right (fun e => h3 e.symm)
  have l5 : ∀ {p : Prop}, (p ∨ 5 = k) → p := fun h => h.resolve_right (fun e => h4 e.symm)
  have l6 : ∀ {p : Prop}, (p ∨ 6 = k) → p := fun h => h.resolve_right (fun e => h5 e.symm)
  refine ⟨a1, fun h => ?_, fun h => ?_, fun h h' => ?_⟩
  · obtain ⟨g, X, b1, b2, b3, b4⟩ := a2 (l4 h)
    exact ⟨g, X, e17.trans b1, b2, b3, fun h => b4 (l6 h)⟩
  · obtain ⟨g, b1, b2, b3⟩ := a3 (l5 h)
    exact ⟨g, e18.trans b1, b2, b3⟩
  · show (if some t = some 17 then v else f 17) ≠ (if some t = some 18 then v else f 18)
    rw [e17, e18]
    exact a4 (l4 h) (l5 h')
theorem ptr_ne {g h : Nat} (hne : g ≠ h) : Value.pointer (some ⟨g, 0, none⟩) ≠ Value.pointer (some ⟨h, 0, none⟩) := by
  intro e
  injection e with e
  injection e with e
  injection e with e
  exact hne e
theorem reg18 {h11 X3 X4 : Nat} {a0 : Act} {ws : World} {Q : Exit → Act → World → Prop} (hs : a0.tmps.size = 143) (g11 : slot a0 11 = .pointer (some ⟨h11, 0, none⟩)) (hlt : h11 < ws.heap.size)
    (k12 : ws.cell? ⟨h11, 12, none⟩ = some (.int .u64 (W4 X3 0)))
    (k13 : ws.cell? ⟨h11, 13, none⟩ = some (.int .u64 (W4 X3 1)))
    (k14 : ws.cell? ⟨h11, 14, none⟩ = some (.int .u64 (W4 X3 2)))
    (k15 : ws.cell? ⟨h11, 15, none⟩ = some (.int .u64 (W4 X3 3)))
    (k16 : ws.cell? ⟨h11, 16, none⟩ = some (.int .u64 (W4 X4 0)))
    (k17 : ws.cell? ⟨h11, 17, none⟩ = some (.int .u64 (W4 X4 1)))
    (k18 : ws.cell? ⟨h11, 18, none⟩ = some (.int .u64 (W4 X4 2)))
    (k19 : ws.cell? ⟨h11, 19, none⟩ = some (.int .u64 (W4 X4 3)))
    (hQ : ∀ (a : Act) (w : World) (g h : Nat), slot a 17 = .pointer (some ⟨g, 0, none⟩) → slot a 18 = .pointer (some ⟨h, 0, none⟩) → g ≠ h → ws.heap.size ≤ g → ws.heap.size ≤ h → B4 g X4 w → B4 h X3 w → a.tmps.size = 143 → a.defers = a0.defers → (∀ t, (∀ i, i < 7 → slots18.getD i 0 ≠ t) → slot a t = slot a0 t) → Below ws.heap.size ws w → Q .normal a w) :
    (Code.region 18 ops18.toArray true).wp Tryd.prog Q a0 ws := by
  refine wp_region_memg 7 143 slots18 [iW (.pointer (some ⟨h11, 16, none⟩)), iW (A4 X4), iW (.pointer (some ⟨h11, 12, none⟩)), iW (A4 X3), (fun _ _ => True), (fun _ _ => True), (fun _ _ => True)] (fun _ _ => True) (M18 ws X4) [] [] (by kernel_rfl) (by kernel_rfl) (by kernel_rfl) (by kernel_rfl) hs ?_ (fun _ => trivial) ?_ ?_ ⟨(Below.refl _ _).drew, fun h => h.elim, fun h => h.elim, fun h _ => h.elim⟩ ?_ ?_ ?_
  · intro j c hj hc
    cases hc
  · intro p hp
    simp only [List.mem_cons, List.not_mem_nil, or_false] at hp
    rcases hp with rfl | rfl | rfl | rfl | rfl | rfl | rfl
    all_goals exact fun _ _ _ h _ => h
  · intro i hi hG
    cases hG
  · intro L i o a w hi ho hG
    cases hG
  · intro L i o a w hi ho hG hL hcl he hM hF hv
    have f11 : slot a 11 = .pointer (some ⟨h11, 0, none⟩) := (hF 11 (by decide)).trans g11
    have hB := hM.1
    have hor : i = 0 ∨ i = 1 ∨ i = 2 ∨ i = 3 ∨ i = 4 ∨ i = 5 ∨ i = 6 := by omega
    rcases hor with rfl | rfl | rfl | rfl | rfl | rfl | rfl
    · obtain rfl := Option.some.inj (show ops18[0]? = some o from ho)
      exact og_ia4 f11 ⟨_, rfl, rfl, trivial, hM.step (by decide) (by decide) (by decide) (by decide) (by decide)⟩
    · obtain rfl := Option.some.inj (show ops18[1]? = some o from ho)
      exact og_ldB (hv 0 (by decide) rfl (he ⟨0, .data⟩ (by simp) rfl) : slot a 71 = .pointer (some ⟨h11, 16, none⟩)) ((hB.cell (p := ⟨h11, 16, none⟩) hlt).trans k16) ((hB.cell (p := ⟨h11, 17, none⟩) hlt).trans k17) ((hB.cell (p := ⟨h11, 18, none⟩) hlt).trans k18) ((hB.cell (p := ⟨h11, 19, none⟩) hlt).trans k19) ⟨_, rfl, rfl, trivial, hM.step (by decide) (by decide) (by decide) (by decide) (by decide)⟩
    · obtain rfl := Option.some.inj (show ops18[2]? = some o from ho)
      exact og_ia3 f11 ⟨_, rfl, rfl, trivial, hM.step (by decide) (by decide) (by decide) (by decide) (by decide)⟩
    · obtain rfl := Option.some.inj (show ops18[3]? = some o from ho)
      exact og_ldB (hv 2 (by decide) rfl (he ⟨2, .data⟩ (by simp) rfl) : slot a 73 = .pointer (some ⟨h11, 12, none⟩)) ((hB.cell (p := ⟨h11, 12, none⟩) hlt).trans k12) ((hB.cell (p := ⟨h11, 13, none⟩) hlt).trans k13) ((hB.cell (p := ⟨h11, 14, none⟩) hlt).trans k14) ((hB.cell (p := ⟨h11, 15, none⟩) hlt).trans k15) ⟨_, rfl, rfl, trivial, hM.step (by decide) (by decide) (by decide) (by decide) (by decide)⟩
    · have hL6 : ¬ L 6 := fun h => hL (hcl 6 _ (show ops18[6]? = some _ from rfl) h ⟨4, .data⟩ (by simp) rfl)
      obtain rfl := Option.some.inj (show ops18[4]? = some o from ho)
      have hb := below1 w (.cells #[.int .u64 0, .int .u64 0, .int .u64 0, .int .u64 0] 28)
      obtain ⟨a1, a2, a3, a4⟩ := hM
      refine og_alB ⟨_, rfl, trivial, trivial, bnx hB hb, fun _ => ⟨_, 0, rfl, hB.size, B4.new w _, fun h => absurd (h.resolve_right (by decide)) hL6⟩, fun h5 => ?_, fun _ h5 => ?_⟩
      · obtain ⟨h, b1, b2, b3⟩ := a3 (h5.resolve_right (by decide))
        exact ⟨h, b1, b2, b3.next hb⟩
      · obtain ⟨h, b1, b2, b3⟩ := a3 (h5.resolve_right (by decide))
        show Value.pointer (some ⟨w.heap.size, 0, none⟩) ≠ slot a 18
        rw [b1]
        have := b3.lt
        exact ptr_ne (by omega)
    · obtain rfl := Option.some.inj (show ops18[5]? = some o from ho)
      have hb := below1 w (.cells #[.int .u64 0, .int .u64 0, .int .u64 0, .int .u64 0] 28)
      obtain ⟨a1, a2, a3, a4⟩ := hM
      refine og_alB ⟨_, rfl, trivial, trivial, bnx hB hb, fun h4 => ?_, fun _ => ⟨_, rfl, hB.size, B4.new w _⟩, fun h4 _ => ?_⟩
      · obtain ⟨g, X, b1, b2, b3, b4⟩ := a2 (h4.resolve_right (by decide))
        exact ⟨g, X, b1, b2, b3.next hb, fun h => b4 (h.resolve_right (by decide))⟩
      · obtain ⟨g, X, b1, b2, b3, b4⟩ := a2 (h4.resolve_right (by decide))
        show slot a 17 ≠ Value.pointer (some ⟨w.heap.size, 0, none⟩)
        rw [b1]
        have := b3.lt
        exact ptr_ne (by omega)
    · obtain rfl := Option.some.inj (show ops18[6]? = some o from ho)
      obtain ⟨a1, a2, a3, a4⟩ := hM
      have l4 := he ⟨4, .data⟩ (by simp) rfl
      obtain ⟨g, X, b1, b2, b3, b4⟩ := a2 l4
      refine og_stB b1 (hv 1 (by decide) rfl (he ⟨1, .data⟩ (by simp) rfl) : slot a 72 = A4 X4) b3 ⟨.bool false, rfl, trivial, trivial, put4B_below hB b2, fun _ => ⟨g, X4, b1, b2, b3.put, fun _ => rfl⟩, fun h5 => ?_, fun _ h5 => ?_⟩
      · obtain ⟨h, d1, d2, d3⟩ := a3 (h5.resolve_right (by decide))
        refine ⟨h, d1, d2, d3.other fun e => ?_⟩
        have := a4 l4 (h5.resolve_right (by decide))
        rw [b1, d1, e] at this
        exact this rfl
      · exact a4 l4 (h5.resolve_right (by decide))
  · intro L a w hL hM hsz hdf hF hv
    obtain ⟨hB, a2, a3, a4⟩ := hM
    obtain ⟨g, X, e17, hg, hB1, hX⟩ := a2 (hL 4 (by decide))
    obtain ⟨h, e18, hh, hB2⟩ := a3 (hL 5 (by decide))
    obtain rfl := hX (hL 6 (by decide))
    have hne : g ≠ h := fun e => a4 (hL 4 (by decide)) (hL 5 (by decide)) (by rw [e17, e18, e])
    refine BigFrame.wpList_want rfl fun K hK => og_stB e18 (hv 3 (by decide) rfl : slot a 74 = A4 X3) hB2 (hK _ _ ?_)
    clear K hK
    exact hQ a _ g h e17 e18 hne hg hh (hB1.other hne) hB2.put hsz hdf hF (put4B_below hB hh)
def slots21 : List Nat := [78, 79, 80]
def slotsA21 : List Nat := [78, 79, 80, 19]
theorem reg21 {g h K X : Nat} {a0 : Act} {ws : World} {Q : Exit → Act → World → Prop} (hs : a0.tmps.size = 143) (g17 : slot a0 17 = .pointer (some ⟨g, 0, none⟩)) (g18 : slot a0 18 = .pointer (some ⟨h, 0, none⟩))
    (c8 : ∀ W, Below ws.heap.size ws W → Calls Tryd.prog 8 #[.slice (some ⟨h, 0, none⟩) 4 4, .slice (some ⟨g, 0, none⟩) 4 4] W fun e w' => ∃ v, e = .returned v ∧ NT K X v w' ∧ Below W.heap.size W w')
    (hQ : ∀ (a : Act) (w : World) (u : Value), slot a 19 = u → NT K X u w → a.tmps.size = 143 → a.defers = a0.defers → (∀ t, (∀ i, i < 4 → slotsA21.getD i 0 ≠ t) → slot a t = slot a0 t) → Below ws.heap.size ws w → Q .normal a w) :
    (Code.region 21 ops21.toArray true).wp Tryd.prog Q a0 ws := by
  refine wp_region_memg 3 143 slots21 [iW (.slice (some ⟨h, 0, none⟩) 4 4), iW (.slice (some ⟨g, 0, none⟩) 4 4), NT K X] (fun w w' => Below w.heap.size w w') (fun _ _ w => Below ws.heap.size ws w) [] [] (by kernel_rfl) (by kernel_rfl) (by kernel_rfl) (by kernel_rfl) hs ?_ (fun _ => Below.refl _ _) ?_ ?_ (Below.refl _ _).drew ?_ ?_ ?_
  · intro j c hj hc
    cases hc
  · intro p hp
    simp only [List.mem_cons, List.not_mem_nil, or_false] at hp
    rcases hp with rfl | rfl | rfl
    all_goals first | exact fun _ _ _ h _ => h | exact fun _ _ _ h hb => h.next hb
  · intro i hi hG
    cases hG
  · intro L i o a w hi ho hG
    cases hG
  · intro L i o a w hi ho hG hL hcl he hM hF hv
    have f17 : slot a 17 = .pointer (some ⟨g, 0, none⟩) := (hF 17 (by decide)).trans g17
    have f18 : slot a 18 = .pointer (some ⟨h, 0, none⟩) := (hF 18 (by decide)).trans g18
    have hor : i = 0 ∨ i = 1 ∨ i = 2 := by omega
    rcases hor with rfl | rfl | rfl
    · obtain rfl := Option.some.inj (show ops21[0]? = some o from ho)
      exact og_slB f18 ⟨_, rfl, rfl, Below.refl _ _, hM⟩
    · obtain rfl := Option.some.inj (show ops21[1]? = some o from ho)
      exact og_slB f17 ⟨_, rfl, rfl, Below.refl _ _, hM⟩
    · obtain rfl := Option.some.inj (show ops21[2]? = some o from ho)
      refine og_less (hv 0 (by decide) rfl (he ⟨0, .data⟩ (by simp) rfl) : slot a 78 = .slice (some ⟨h, 0, none⟩) 4 4) (hv 1 (by decide) rfl (he ⟨1, .data⟩ (by simp) rfl) : slot a 79 = .slice (some ⟨g, 0, none⟩) 4 4) ((c8 w hM).mono ?_)
      rintro e w' ⟨v, rfl, hSv, hb⟩
      exact ⟨v, rfl, _, rfl, hSv, hb, bnx hM hb⟩
  · intro L a w hL hM hsz hdf hF hv
    have z0 : NT K X (slot a 80) w := hv 2 (by decide) rfl
    refine BigFrame.wpList_want rfl fun K hK => og_as rfl (hK _ _ ?_)
    clear K hK
    refine hQ _ _ (slot a 80) (slot_put (by omega)) z0 (by simp [Act.put, hsz]) hdf (fun t ht => ?_) hM
    rw [slot_put_ne (show 19 ≠ t from ht 3 (by decide))]
    exact hF t fun i hi => by
      have := ht i (by omega)
      have hor : i = 0 ∨ i = 1 ∨ i = 2 := by omega
      rcases hor with rfl | rfl | rfl <;> exact this
def slots24 : List Nat := [104, 105, 106, 107, 108, 109, 110, 111, 112, 113, 114, 115, 116, 117, 118, 119, 120, 121, 122, 123, 124, 125, 126, 127, 128, 129, 130, 131, 132, 133, 134, 135, 136, 137, 138, 139, 140, 141, 142]
theorem one_nt (w : World) : NT 1 1 (.slice (some ⟨w.heap.size, 0, none⟩) 1 1) (w.alloc (.cells #[.int .u64 1] 26)) := by
  unfold NT
  refine ⟨w.heap.size, 1, 1, oneW 1, rfl, Nat.le_refl _, num_one w 1 (by decide), val_one1 _, ?_⟩
  rfl
set_option maxHeartbeats 2000000 in
theorem reg24tt {h11 g h X0 X1 X2 XL XH K1 : Nat} {v19 : Value} {a0 : Act} {ws : World} {Q : Exit → Act → World → Prop} (hs : a0.tmps.size = 143) (g11 : slot a0 11 = .pointer (some ⟨h11, 0, none⟩)) (g17 : slot a0 17 = .pointer (some ⟨g, 0, none⟩)) (g18 : slot a0 18 = .pointer (some ⟨h, 0, none⟩)) (g19 : slot a0 19 = v19) (hu : NT K1 1 v19 ws) (hlt : h11 < ws.heap.size)
    (k0 : ws.cell? ⟨h11, 0, none⟩ = some (.int .u64 (W4 X0 0)))
    (k1 : ws.cell? ⟨h11, 1, none⟩ = some (.int .u64 (W4 X0 1)))
    (k2 : ws.cell? ⟨h11, 2, none⟩ = some (.int .u64 (W4 X0 2)))
    (k3 : ws.cell? ⟨h11, 3, none⟩ = some (.int .u64 (W4 X0 3)))
    (k4 : ws.cell? ⟨h11, 4, none⟩ = some (.int .u64 (W4 X1 0)))
    (k5 : ws.cell? ⟨h11, 5, none⟩ = some (.int .u64 (W4 X1 1)))
    (k6 : ws.cell? ⟨h11, 6, none⟩ = some (.int .u64 (W4 X1 2)))
    (k7 : ws.cell? ⟨h11, 7, none⟩ = some (.int .u64 (W4 X1 3)))
    (k8 : ws.cell? ⟨h11, 8, none⟩ = some (.int .u64 (W4 X2 0)))
    (k9 : ws.cell? ⟨h11, 9, none⟩ = some (.int .u64 (W4 X2 1)))
    (k10 : ws.cell? ⟨h11, 10, none⟩ = some (.int .u64 (W4 X2 2)))
    (k11 : ws.cell? ⟨h11, 11, none⟩ = some (.int .u64 (W4 X2 3)))
    (hBg : B4 g XL ws) (hBh : B4 h XH ws) (bX0 : X0 < 2 ^ 256) (bX1 : X1 < 2 ^ 256) (bX2 : X2 < 2 ^ 256) (bXL : XL < 2 ^ 256) (bXH : XH < 2 ^ 256) (e2 : decide (X2 = XL) = true) (e0 : decide (X0 = XL) = true) (e1 : decide (X1 = XL) = true)
    (c9 : ∀ W, Below ws.heap.size ws W → Calls Tryd.prog 9 #[.slice (some ⟨h, 0, none⟩) 4 4, .slice (some ⟨g, 0, none⟩) 4 4] W fun e w' => e = .returned (.int .i64 1) ∧ Below W.heap.size W w')
    (c10 : ∀ W v v', Below ws.heap.size ws W → NT K1 1 v W → NT 1 1 v' W → Calls Tryd.prog 10 #[v, v'] W fun e w' => e = .returned (.bool true) ∧ Below W.heap.size W w')
    (hQ : ∀ (a : Act) (w : World), slot a 10 = .bool true → a.tmps.size = 143 → a.defers = a0.defers → Below ws.heap.size ws w → Q .normal a w) :
    (Code.region 24 ops24.toArray true).wp Tryd.prog Q a0 ws := by
  refine wp_region_memg 39 143 slots24 [iW (.slice (some ⟨h, 0, none⟩) 4 4), iW (.slice (some ⟨g, 0, none⟩) 4 4), iW (.int .i64 1), iW (.bool true), iW (.bool true), NT K1 1, NT 1 1, iW (.bool true), iW (.bool true), iW (.bool true), iW (.pointer (some ⟨h11, 8, none⟩)), iW (A4 X2), iW (A4 XL), iW (.bool true), iW (.bool true), iW (.bool true), iW (.pointer (some ⟨h11, 0, none⟩)), iW (A4 X0), iW (A4 XL), iW (.bool true), iW (.bool true), (fun _ _ => True), (fun _ _ => True), (fun _ _ => True), (fun _ _ => True), iW (.bool true), iW (.bool true), iW (.bool true), iW (.pointer (some ⟨h11, 4, none⟩)), iW (A4 X1), iW (A4 XL), iW (.bool true), iW (.bool true), (fun _ _ => True), (fun _ _ => True), (fun _ _ => True), (fun _ _ => True), iW (.bool true), iW (.bool true)] (fun w w' => Below w.heap.size w w') (fun _ _ w => Below ws.heap.size ws w) [true, true, true, true, true, true, true, true, true, true, true, true, true, true, true, true, true, true, true, true, true, false, false, false, false, true, true, true, true, true, true, true, true, false, false, false, false, true, true] [none, none, none, none, some true, none, none, none, none, some true, none, none, none, none, none, some true, none, none, none, none, some true, none, none, none, none, none, none, some true, none, none, none, none, some true, none, none, none, none, none, none] (by kernel_rfl) (by kernel_rfl) (by kernel_rfl) (by kernel_rfl) hs ?_ (fun _ => Below.refl _ _) ?_ ?_ (Below.refl _ _).drew ?_ ?_ ?_
  · intro j c hj hc v w hw
    have hor : j = 0 ∨ j = 1 ∨ j = 2 ∨ j = 3 ∨ j = 4 ∨ j = 5 ∨ j = 6 ∨ j = 7 ∨ j = 8 ∨ j = 9 ∨ j = 10 ∨ j = 11 ∨ j = 12 ∨ j = 13 ∨ j = 14 ∨ j = 15 ∨ j = 16 ∨ j = 17 ∨ j = 18 ∨ j = 19 ∨ j = 20 ∨ j = 21 ∨ j = 22 ∨ j = 23 ∨ j = 24 ∨ j = 25 ∨ j = 26 ∨ j = 27 ∨ j = 28 ∨ j = 29 ∨ j = 30 ∨ j = 31 ∨ j = 32 ∨ j = 33 ∨ j = 34 ∨ j = 35 ∨ j = 36 ∨ j = 37 ∨ j = 38 := by omega
    rcases hor with rfl | rfl | rfl | rfl | rfl | rfl | rfl | rfl | rfl | rfl | rfl | rfl | rfl | rfl | rfl | rfl | rfl | rfl | rfl | rfl | rfl | rfl | rfl | rfl | rfl | rfl | rfl | rfl | rfl | rfl | rfl | rfl | rfl | rfl | rfl | rfl | rfl | rfl | rfl
    all_goals first | (cases hc; done) | (cases hc; exact hw)
  · intro p hp
    simp only [List.mem_cons, List.not_mem_nil, or_false] at hp
    rcases hp with rfl | rfl | rfl | rfl | rfl | rfl | rfl | rfl | rfl | rfl | rfl | rfl | rfl | rfl | rfl | rfl | rfl | rfl | rfl | rfl | rfl | rfl | rfl | rfl | rfl | rfl | rfl | rfl | rfl | rfl | rfl | rfl | rfl | rfl | rfl | rfl | rfl | rfl | rfl
    all_goals first | exact fun _ _ _ h _ => h | exact fun _ _ _ h hb => h.next hb
  · intro i hi hG
    have hor : i = 0 ∨ i = 1 ∨ i = 2 ∨ i = 3 ∨ i = 4 ∨ i = 5 ∨ i = 6 ∨ i = 7 ∨ i = 8 ∨ i = 9 ∨ i = 10 ∨ i = 11 ∨ i = 12 ∨ i = 13 ∨ i = 14 ∨ i = 15 ∨ i = 16 ∨ i = 17 ∨ i = 18 ∨ i = 19 ∨ i = 20 ∨ i = 21 ∨ i = 22 ∨ i = 23 ∨ i = 24 ∨ i = 25 ∨ i = 26 ∨ i = 27 ∨ i = 28 ∨ i = 29 ∨ i = 30 ∨ i = 31 ∨ i = 32 ∨ i = 33 ∨ i = 34 ∨ i = 35 ∨ i = 36 ∨ i = 37 ∨ i = 38 := by omega
    rcases hor with rfl | rfl | rfl | rfl | rfl | rfl | rfl | rfl | rfl | rfl | rfl | rfl | rfl | rfl | rfl | rfl | rfl | rfl | rfl | rfl | rfl | rfl | rfl | rfl | rfl | rfl | rfl | rfl | rfl | rfl | rfl | rfl | rfl | rfl | rfl | rfl | rfl | rfl | rfl
    all_goals first | exact absurd hG (by decide) | exact fun _ _ => trivial
  · intro L i o a w hi ho hG hL hM
    exact hM
  · intro L i o a w hi ho hG hL hcl he hM hF hv
    have f11 : slot a 11 = .pointer (some ⟨h11, 0, none⟩) := (hF 11 (by decide)).trans g11
    have f17 : slot a 17 = .pointer (some ⟨g, 0, none⟩) := (hF 17 (by decide)).trans g17
    have f18 : slot a 18 = .pointer (some ⟨h, 0, none⟩) := (hF 18 (by decide)).trans g18
    have f19 : slot a 19 = v19 := (hF 19 (by decide)).trans g19
    have hor : i = 0 ∨ i = 1 ∨ i = 2 ∨ i = 3 ∨ i = 4 ∨ i = 5 ∨ i = 6 ∨ i = 7 ∨ i = 8 ∨ i = 9 ∨ i = 10 ∨ i = 11 ∨ i = 12 ∨ i = 13 ∨ i = 14 ∨ i = 15 ∨ i = 16 ∨ i = 17 ∨ i = 18 ∨ i = 19 ∨ i = 20 ∨ i = 21 ∨ i = 22 ∨ i = 23 ∨ i = 24 ∨ i = 25 ∨ i = 26 ∨ i = 27 ∨ i = 28 ∨ i = 29 ∨ i = 30 ∨ i = 31 ∨ i = 32 ∨ i = 33 ∨ i = 34 ∨ i = 35 ∨ i = 36 ∨ i = 37 ∨ i = 38 := by omega
    rcases hor with rfl | rfl | rfl | rfl | rfl | rfl | rfl | rfl | rfl | rfl | rfl | rfl | rfl | rfl | rfl | rfl | rfl | rfl | rfl | rfl | rfl | rfl | rfl | rfl | rfl | rfl | rfl | rfl | rfl | rfl | rfl | rfl | rfl | rfl | rfl | rfl | rfl | rfl | rfl
    · obtain rfl := Option.some.inj (show ops24[0]? = some o from ho)
      exact og_slB f18 ⟨_, rfl, rfl, Below.refl _ _, hM⟩
    · obtain rfl := Option.some.inj (show ops24[1]? = some o from ho)
      exact og_slB f17 ⟨_, rfl, rfl, Below.refl _ _, hM⟩
    · obtain rfl := Option.some.inj (show ops24[2]? = some o from ho)
      refine og_cmp (hv 0 (by decide) rfl (he ⟨0, .data⟩ (by simp) rfl) : slot a 104 = .slice (some ⟨h, 0, none⟩) 4 4) (hv 1 (by decide) rfl (he ⟨1, .data⟩ (by simp) rfl) : slot a 105 = .slice (some ⟨g, 0, none⟩) 4 4) ((c9 w hM).mono ?_)
      rintro e w' ⟨rfl, hb⟩
      exact ⟨_, rfl, _, rfl, rfl, hb, bnx hM hb⟩
    · obtain rfl := Option.some.inj (show ops24[3]? = some o from ho)
      exact og_gt3 (hv 2 (by decide) rfl (he ⟨2, .data⟩ (by simp) rfl) : slot a 106 = .int .i64 1) (by decide) ⟨_, rfl, rfl, Below.refl _ _, hM⟩
    · obtain rfl := Option.some.inj (show ops24[4]? = some o from ho)
      exact og_mv (hv 3 (by decide) rfl (he ⟨3, .data⟩ (by simp) rfl) : slot a 107 = .bool true) ⟨_, rfl, rfl, Below.refl _ _, hM⟩
    · obtain rfl := Option.some.inj (show ops24[5]? = some o from ho)
      exact og_mv f19 ⟨_, rfl, hu.next hM, Below.refl _ _, hM⟩
    · obtain rfl := Option.some.inj (show ops24[6]? = some o from ho)
      have hb := below1 w (.cells #[.int .u64 1] 26)
      exact og_bs1 ⟨_, rfl, one_nt w, hb, bnx hM hb⟩
    · obtain rfl := Option.some.inj (show ops24[7]? = some o from ho)
      refine og_same rfl rfl ((c10 w _ _ hM (hv 5 (by decide) rfl (he ⟨5, .data⟩ (by simp) rfl)) (hv 6 (by decide) rfl (he ⟨6, .data⟩ (by simp) rfl))).mono ?_)
      rintro e w' ⟨rfl, hb⟩
      exact ⟨_, rfl, _, rfl, rfl, hb, bnx hM hb⟩
    · obtain rfl := Option.some.inj (show ops24[8]? = some o from ho)
      exact og_pkT (hv 4 (by decide) rfl (he ⟨4, .data⟩ (by simp) rfl) : slot a 108 = .bool true) (hv 7 (by decide) rfl (he ⟨7, .data⟩ (by simp) rfl) : slot a 111 = .bool true) ⟨_, rfl, rfl, Below.refl _ _, hM⟩
    · obtain rfl := Option.some.inj (show ops24[9]? = some o from ho)
      exact og_mv (hv 8 (by decide) rfl (he ⟨8, .data⟩ (by simp) rfl) : slot a 112 = .bool true) ⟨_, rfl, rfl, Below.refl _ _, hM⟩
    · obtain rfl := Option.some.inj (show ops24[10]? = some o from ho)
      exact og_ia2 f11 ⟨_, rfl, rfl, Below.refl _ _, hM⟩
    · obtain rfl := Option.some.inj (show ops24[11]? = some o from ho)
      exact og_ldB (hv 10 (by decide) rfl (he ⟨10, .data⟩ (by simp) rfl) : slot a 114 = .pointer (some ⟨h11, 8, none⟩)) ((hM.cell (p := ⟨h11, 8, none⟩) hlt).trans k8) ((hM.cell (p := ⟨h11, 9, none⟩) hlt).trans k9) ((hM.cell (p := ⟨h11, 10, none⟩) hlt).trans k10) ((hM.cell (p := ⟨h11, 11, none⟩) hlt).trans k11) ⟨_, rfl, rfl, Below.refl _ _, hM⟩
    · obtain rfl := Option.some.inj (show ops24[12]? = some o from ho)
      exact og_ldB f17 (hBg.next hM).c0 (hBg.next hM).c1 (hBg.next hM).c2 (hBg.next hM).c3 ⟨_, rfl, rfl, Below.refl _ _, hM⟩
    · obtain rfl := Option.some.inj (show ops24[13]? = some o from ho)
      exact og_eqB bX2 bXL e2 (hv 11 (by decide) rfl (he ⟨11, .data⟩ (by simp) rfl) : slot a 115 = A4 X2) (hv 12 (by decide) rfl (he ⟨12, .data⟩ (by simp) rfl) : slot a 116 = A4 XL) ⟨_, rfl, rfl, Below.refl _ _, hM⟩
    · obtain rfl := Option.some.inj (show ops24[14]? = some o from ho)
      exact og_pkT (hv 9 (by decide) rfl (he ⟨9, .data⟩ (by simp) rfl) : slot a 113 = .bool true) (hv 13 (by decide) rfl (he ⟨13, .data⟩ (by simp) rfl) : slot a 117 = .bool true) ⟨_, rfl, rfl, Below.refl _ _, hM⟩
    · obtain rfl := Option.some.inj (show ops24[15]? = some o from ho)
      exact og_mv (hv 14 (by decide) rfl (he ⟨14, .data⟩ (by simp) rfl) : slot a 118 = .bool true) ⟨_, rfl, rfl, Below.refl _ _, hM⟩
    · obtain rfl := Option.some.inj (show ops24[16]? = some o from ho)
      exact og_ia0 f11 ⟨_, rfl, rfl, Below.refl _ _, hM⟩
    · obtain rfl := Option.some.inj (show ops24[17]? = some o from ho)
      exact og_ldB (hv 16 (by decide) rfl (he ⟨16, .data⟩ (by simp) rfl) : slot a 120 = .pointer (some ⟨h11, 0, none⟩)) ((hM.cell (p := ⟨h11, 0, none⟩) hlt).trans k0) ((hM.cell (p := ⟨h11, 1, none⟩) hlt).trans k1) ((hM.cell (p := ⟨h11, 2, none⟩) hlt).trans k2) ((hM.cell (p := ⟨h11, 3, none⟩) hlt).trans k3) ⟨_, rfl, rfl, Below.refl _ _, hM⟩
    · obtain rfl := Option.some.inj (show ops24[18]? = some o from ho)
      exact og_ldB f17 (hBg.next hM).c0 (hBg.next hM).c1 (hBg.next hM).c2 (hBg.next hM).c3 ⟨_, rfl, rfl, Below.refl _ _, hM⟩
    · obtain rfl := Option.some.inj (show ops24[19]? = some o from ho)
      exact og_eqB bX0 bXL e0 (hv 17 (by decide) rfl (he ⟨17, .data⟩ (by simp) rfl) : slot a 121 = A4 X0) (hv 18 (by decide) rfl (he ⟨18, .data⟩ (by simp) rfl) : slot a 122 = A4 XL) ⟨_, rfl, rfl, Below.refl _ _, hM⟩
    · obtain rfl := Option.some.inj (show ops24[20]? = some o from ho)
      exact og_mv (hv 19 (by decide) rfl (he ⟨19, .data⟩ (by simp) rfl) : slot a 123 = .bool true) ⟨_, rfl, rfl, Below.refl _ _, hM⟩
    · exact absurd hG (by decide)
    · exact absurd hG (by decide)
    · exact absurd hG (by decide)
    · exact absurd hG (by decide)
    · obtain rfl := Option.some.inj (show ops24[25]? = some o from ho)
      exact og_pkTc (hv 20 (by decide) rfl (he ⟨20, .data⟩ (by simp) rfl) : slot a 124 = .bool true) ⟨_, rfl, rfl, Below.refl _ _, hM⟩
    · obtain rfl := Option.some.inj (show ops24[26]? = some o from ho)
      exact og_pkT (hv 15 (by decide) rfl (he ⟨15, .data⟩ (by simp) rfl) : slot a 119 = .bool true) (hv 25 (by decide) rfl (he ⟨25, .data⟩ (by simp) rfl) : slot a 129 = .bool true) ⟨_, rfl, rfl, Below.refl _ _, hM⟩
    · obtain rfl := Option.some.inj (show ops24[27]? = some o from ho)
      exact og_mv (hv 26 (by decide) rfl (he ⟨26, .data⟩ (by simp) rfl) : slot a 130 = .bool true) ⟨_, rfl, rfl, Below.refl _ _, hM⟩
    · obtain rfl := Option.some.inj (show ops24[28]? = some o from ho)
      exact og_ia1 f11 ⟨_, rfl, rfl, Below.refl _ _, hM⟩
    · obtain rfl := Option.some.inj (show ops24[29]? = some o from ho)
      exact og_ldB (hv 28 (by decide) rfl (he ⟨28, .data⟩ (by simp) rfl) : slot a 132 = .pointer (some ⟨h11, 4, none⟩)) ((hM.cell (p := ⟨h11, 4, none⟩) hlt).trans k4) ((hM.cell (p := ⟨h11, 5, none⟩) hlt).trans k5) ((hM.cell (p := ⟨h11, 6, none⟩) hlt).trans k6) ((hM.cell (p := ⟨h11, 7, none⟩) hlt).trans k7) ⟨_, rfl, rfl, Below.refl _ _, hM⟩
    · obtain rfl := Option.some.inj (show ops24[30]? = some o from ho)
      exact og_ldB f17 (hBg.next hM).c0 (hBg.next hM).c1 (hBg.next hM).c2 (hBg.next hM).c3 ⟨_, rfl, rfl, Below.refl _ _, hM⟩
    · obtain rfl := Option.some.inj (show ops24[31]? = some o from ho)
      exact og_eqB bX1 bXL e1 (hv 29 (by decide) rfl (he ⟨29, .data⟩ (by simp) rfl) : slot a 133 = A4 X1) (hv 30 (by decide) rfl (he ⟨30, .data⟩ (by simp) rfl) : slot a 134 = A4 XL) ⟨_, rfl, rfl, Below.refl _ _, hM⟩
    · obtain rfl := Option.some.inj (show ops24[32]? = some o from ho)
      exact og_mv (hv 31 (by decide) rfl (he ⟨31, .data⟩ (by simp) rfl) : slot a 135 = .bool true) ⟨_, rfl, rfl, Below.refl _ _, hM⟩
    · exact absurd hG (by decide)
    · exact absurd hG (by decide)
    · exact absurd hG (by decide)
    · exact absurd hG (by decide)
    · obtain rfl := Option.some.inj (show ops24[37]? = some o from ho)
      exact og_pkTc (hv 32 (by decide) rfl (he ⟨32, .data⟩ (by simp) rfl) : slot a 136 = .bool true) ⟨_, rfl, rfl, Below.refl _ _, hM⟩
    · obtain rfl := Option.some.inj (show ops24[38]? = some o from ho)
      exact og_pkT (hv 27 (by decide) rfl (he ⟨27, .data⟩ (by simp) rfl) : slot a 131 = .bool true) (hv 37 (by decide) rfl (he ⟨37, .data⟩ (by simp) rfl) : slot a 141 = .bool true) ⟨_, rfl, rfl, Below.refl _ _, hM⟩
  · intro L a w hL hM hsz hdf hF hv
    have z0 : slot a 142 = .bool true := hv 38 (by decide) rfl
    refine BigFrame.wpList_want rfl fun K hK => og_as z0 (hK _ _ ?_)
    clear K hK
    exact hQ _ _ (slot_put (by omega)) (by simp [Act.put, hsz]) hdf hM
set_option maxHeartbeats 2000000 in
theorem reg24tf {h11 g h X0 X1 X2 XL XH K1 : Nat} {v19 : Value} {a0 : Act} {ws : World} {Q : Exit → Act → World → Prop} (hs : a0.tmps.size = 143) (g11 : slot a0 11 = .pointer (some ⟨h11, 0, none⟩)) (g17 : slot a0 17 = .pointer (some ⟨g, 0, none⟩)) (g18 : slot a0 18 = .pointer (some ⟨h, 0, none⟩)) (g19 : slot a0 19 = v19) (hu : NT K1 1 v19 ws) (hlt : h11 < ws.heap.size)
    (k0 : ws.cell? ⟨h11, 0, none⟩ = some (.int .u64 (W4 X0 0)))
    (k1 : ws.cell? ⟨h11, 1, none⟩ = some (.int .u64 (W4 X0 1)))
    (k2 : ws.cell? ⟨h11, 2, none⟩ = some (.int .u64 (W4 X0 2)))
    (k3 : ws.cell? ⟨h11, 3, none⟩ = some (.int .u64 (W4 X0 3)))
    (k4 : ws.cell? ⟨h11, 4, none⟩ = some (.int .u64 (W4 X1 0)))
    (k5 : ws.cell? ⟨h11, 5, none⟩ = some (.int .u64 (W4 X1 1)))
    (k6 : ws.cell? ⟨h11, 6, none⟩ = some (.int .u64 (W4 X1 2)))
    (k7 : ws.cell? ⟨h11, 7, none⟩ = some (.int .u64 (W4 X1 3)))
    (k8 : ws.cell? ⟨h11, 8, none⟩ = some (.int .u64 (W4 X2 0)))
    (k9 : ws.cell? ⟨h11, 9, none⟩ = some (.int .u64 (W4 X2 1)))
    (k10 : ws.cell? ⟨h11, 10, none⟩ = some (.int .u64 (W4 X2 2)))
    (k11 : ws.cell? ⟨h11, 11, none⟩ = some (.int .u64 (W4 X2 3)))
    (hBg : B4 g XL ws) (hBh : B4 h XH ws) (bX0 : X0 < 2 ^ 256) (bX1 : X1 < 2 ^ 256) (bX2 : X2 < 2 ^ 256) (bXL : XL < 2 ^ 256) (bXH : XH < 2 ^ 256) (e2 : decide (X2 = XL) = true) (e0 : decide (X0 = XL) = true) (e1 : decide (X1 = XL) = false) (e1h : decide (X1 = XH) = true)
    (c9 : ∀ W, Below ws.heap.size ws W → Calls Tryd.prog 9 #[.slice (some ⟨h, 0, none⟩) 4 4, .slice (some ⟨g, 0, none⟩) 4 4] W fun e w' => e = .returned (.int .i64 1) ∧ Below W.heap.size W w')
    (c10 : ∀ W v v', Below ws.heap.size ws W → NT K1 1 v W → NT 1 1 v' W → Calls Tryd.prog 10 #[v, v'] W fun e w' => e = .returned (.bool true) ∧ Below W.heap.size W w')
    (hQ : ∀ (a : Act) (w : World), slot a 10 = .bool true → a.tmps.size = 143 → a.defers = a0.defers → Below ws.heap.size ws w → Q .normal a w) :
    (Code.region 24 ops24.toArray true).wp Tryd.prog Q a0 ws := by
  refine wp_region_memg 39 143 slots24 [iW (.slice (some ⟨h, 0, none⟩) 4 4), iW (.slice (some ⟨g, 0, none⟩) 4 4), iW (.int .i64 1), iW (.bool true), iW (.bool true), NT K1 1, NT 1 1, iW (.bool true), iW (.bool true), iW (.bool true), iW (.pointer (some ⟨h11, 8, none⟩)), iW (A4 X2), iW (A4 XL), iW (.bool true), iW (.bool true), iW (.bool true), iW (.pointer (some ⟨h11, 0, none⟩)), iW (A4 X0), iW (A4 XL), iW (.bool true), iW (.bool true), (fun _ _ => True), (fun _ _ => True), (fun _ _ => True), (fun _ _ => True), iW (.bool true), iW (.bool true), iW (.bool true), iW (.pointer (some ⟨h11, 4, none⟩)), iW (A4 X1), iW (A4 XL), iW (.bool false), iW (.bool false), iW (.pointer (some ⟨h11, 4, none⟩)), iW (A4 X1), iW (A4 XH), iW (.bool true), iW (.bool true), iW (.bool true)] (fun w w' => Below w.heap.size w w') (fun _ _ w => Below ws.heap.size ws w) [true, true, true, true, true, true, true, true, true, true, true, true, true, true, true, true, true, true, true, true, true, false, false, false, false, true, true, true, true, true, true, true, true, true, true, true, true, true, true] [none, none, none, none, some true, none, none, none, none, some true, none, none, none, none, none, some true, none, none, none, none, some true, none, none, none, none, none, none, some true, none, none, none, none, some false, none, none, none, none, none, none] (by kernel_rfl) (by kernel_rfl) (by kernel_rfl) (by kernel_rfl) hs ?_ (fun _ => Below.refl _ _) ?_ ?_ (Below.refl _ _).drew ?_ ?_ ?_
  · intro j c hj hc v w hw
    have hor : j = 0 ∨ j = 1 ∨ j = 2 ∨ j = 3 ∨ j = 4 ∨ j = 5 ∨ j = 6 ∨ j = 7 ∨ j = 8 ∨ j = 9 ∨ j = 10 ∨ j = 11 ∨ j = 12 ∨ j = 13 ∨ j = 14 ∨ j = 15 ∨ j = 16 ∨ j = 17 ∨ j = 18 ∨ j = 19 ∨ j = 20 ∨ j = 21 ∨ j = 22 ∨ j = 23 ∨ j = 24 ∨ j = 25 ∨ j = 26 ∨ j = 27 ∨ j = 28 ∨ j = 29 ∨ j = 30 ∨ j = 31 ∨ j = 32 ∨ j = 33 ∨ j = 34 ∨ j = 35 ∨ j = 36 ∨ j = 37 ∨ j = 38 := by omega
    rcases hor with rfl | rfl | rfl | rfl | rfl | rfl | rfl | rfl | rfl | rfl | rfl | rfl | rfl | rfl | rfl | rfl | rfl | rfl | rfl | rfl | rfl | rfl | rfl | rfl | rfl | rfl | rfl | rfl | rfl | rfl | rfl | rfl | rfl | rfl | rfl | rfl | rfl | rfl | rfl
    all_goals first | (cases hc; done) | (cases hc; exact hw)
  · intro p hp
    simp only [List.mem_cons, List.not_mem_nil, or_false] at hp
    rcases hp with rfl | rfl | rfl | rfl | rfl | rfl | rfl | rfl | rfl | rfl | rfl | rfl | rfl | rfl | rfl | rfl | rfl | rfl | rfl | rfl | rfl | rfl | rfl | rfl | rfl | rfl | rfl | rfl | rfl | rfl | rfl | rfl | rfl | rfl | rfl | rfl | rfl | rfl | rfl
    all_goals first | exact fun _ _ _ h _ => h | exact fun _ _ _ h hb => h.next hb
  · intro i hi hG
    have hor : i = 0 ∨ i = 1 ∨ i = 2 ∨ i = 3 ∨ i = 4 ∨ i = 5 ∨ i = 6 ∨ i = 7 ∨ i = 8 ∨ i = 9 ∨ i = 10 ∨ i = 11 ∨ i = 12 ∨ i = 13 ∨ i = 14 ∨ i = 15 ∨ i = 16 ∨ i = 17 ∨ i = 18 ∨ i = 19 ∨ i = 20 ∨ i = 21 ∨ i = 22 ∨ i = 23 ∨ i = 24 ∨ i = 25 ∨ i = 26 ∨ i = 27 ∨ i = 28 ∨ i = 29 ∨ i = 30 ∨ i = 31 ∨ i = 32 ∨ i = 33 ∨ i = 34 ∨ i = 35 ∨ i = 36 ∨ i = 37 ∨ i = 38 := by omega
    rcases hor with rfl | rfl | rfl | rfl | rfl | rfl | rfl | rfl | rfl | rfl | rfl | rfl | rfl | rfl | rfl | rfl | rfl | rfl | rfl | rfl | rfl | rfl | rfl | rfl | rfl | rfl | rfl | rfl | rfl | rfl | rfl | rfl | rfl | rfl | rfl | rfl | rfl | rfl | rfl
    all_goals first | exact absurd hG (by decide) | exact fun _ _ => trivial
  · intro L i o a w hi ho hG hL hM
    exact hM
  · intro L i o a w hi ho hG hL hcl he hM hF hv
    have f11 : slot a 11 = .pointer (some ⟨h11, 0, none⟩) := (hF 11 (by decide)).trans g11
    have f17 : slot a 17 = .pointer (some ⟨g, 0, none⟩) := (hF 17 (by decide)).trans g17
    have f18 : slot a 18 = .pointer (some ⟨h, 0, none⟩) := (hF 18 (by decide)).trans g18
    have f19 : slot a 19 = v19 := (hF 19 (by decide)).trans g19
    have hor : i = 0 ∨ i = 1 ∨ i = 2 ∨ i = 3 ∨ i = 4 ∨ i = 5 ∨ i = 6 ∨ i = 7 ∨ i = 8 ∨ i = 9 ∨ i = 10 ∨ i = 11 ∨ i = 12 ∨ i = 13 ∨ i = 14 ∨ i = 15 ∨ i = 16 ∨ i = 17 ∨ i = 18 ∨ i = 19 ∨ i = 20 ∨ i = 21 ∨ i = 22 ∨ i = 23 ∨ i = 24 ∨ i = 25 ∨ i = 26 ∨ i = 27 ∨ i = 28 ∨ i = 29 ∨ i = 30 ∨ i = 31 ∨ i = 32 ∨ i = 33 ∨ i = 34 ∨ i = 35 ∨ i = 36 ∨ i = 37 ∨ i = 38 := by omega
    rcases hor with rfl | rfl | rfl | rfl | rfl | rfl | rfl | rfl | rfl | rfl | rfl | rfl | rfl | rfl | rfl | rfl | rfl | rfl | rfl | rfl | rfl | rfl | rfl | rfl | rfl | rfl | rfl | rfl | rfl | rfl | rfl | rfl | rfl | rfl | rfl | rfl | rfl | rfl | rfl
    · obtain rfl := Option.some.inj (show ops24[0]? = some o from ho)
      exact og_slB f18 ⟨_, rfl, rfl, Below.refl _ _, hM⟩
    · obtain rfl := Option.some.inj (show ops24[1]? = some o from ho)
      exact og_slB f17 ⟨_, rfl, rfl, Below.refl _ _, hM⟩
    · obtain rfl := Option.some.inj (show ops24[2]? = some o from ho)
      refine og_cmp (hv 0 (by decide) rfl (he ⟨0, .data⟩ (by simp) rfl) : slot a 104 = .slice (some ⟨h, 0, none⟩) 4 4) (hv 1 (by decide) rfl (he ⟨1, .data⟩ (by simp) rfl) : slot a 105 = .slice (some ⟨g, 0, none⟩) 4 4) ((c9 w hM).mono ?_)
      rintro e w' ⟨rfl, hb⟩
      exact ⟨_, rfl, _, rfl, rfl, hb, bnx hM hb⟩
    · obtain rfl := Option.some.inj (show ops24[3]? = some o from ho)
      exact og_gt3 (hv 2 (by decide) rfl (he ⟨2, .data⟩ (by simp) rfl) : slot a 106 = .int .i64 1) (by decide) ⟨_, rfl, rfl, Below.refl _ _, hM⟩
    · obtain rfl := Option.some.inj (show ops24[4]? = some o from ho)
      exact og_mv (hv 3 (by decide) rfl (he ⟨3, .data⟩ (by simp) rfl) : slot a 107 = .bool true) ⟨_, rfl, rfl, Below.refl _ _, hM⟩
    · obtain rfl := Option.some.inj (show ops24[5]? = some o from ho)
      exact og_mv f19 ⟨_, rfl, hu.next hM, Below.refl _ _, hM⟩
    · obtain rfl := Option.some.inj (show ops24[6]? = some o from ho)
      have hb := below1 w (.cells #[.int .u64 1] 26)
      exact og_bs1 ⟨_, rfl, one_nt w, hb, bnx hM hb⟩
    · obtain rfl := Option.some.inj (show ops24[7]? = some o from ho)
      refine og_same rfl rfl ((c10 w _ _ hM (hv 5 (by decide) rfl (he ⟨5, .data⟩ (by simp) rfl)) (hv 6 (by decide) rfl (he ⟨6, .data⟩ (by simp) rfl))).mono ?_)
      rintro e w' ⟨rfl, hb⟩
      exact ⟨_, rfl, _, rfl, rfl, hb, bnx hM hb⟩
    · obtain rfl := Option.some.inj (show ops24[8]? = some o from ho)
      exact og_pkT (hv 4 (by decide) rfl (he ⟨4, .data⟩ (by simp) rfl) : slot a 108 = .bool true) (hv 7 (by decide) rfl (he ⟨7, .data⟩ (by simp) rfl) : slot a 111 = .bool true) ⟨_, rfl, rfl, Below.refl _ _, hM⟩
    · obtain rfl := Option.some.inj (show ops24[9]? = some o from ho)
      exact og_mv (hv 8 (by decide) rfl (he ⟨8, .data⟩ (by simp) rfl) : slot a 112 = .bool true) ⟨_, rfl, rfl, Below.refl _ _, hM⟩
    · obtain rfl := Option.some.inj (show ops24[10]? = some o from ho)
      exact og_ia2 f11 ⟨_, rfl, rfl, Below.refl _ _, hM⟩
    · obtain rfl := Option.some.inj (show ops24[11]? = some o from ho)
      exact og_ldB (hv 10 (by decide) rfl (he ⟨10, .data⟩ (by simp) rfl) : slot a 114 = .pointer (some ⟨h11, 8, none⟩)) ((hM.cell (p := ⟨h11, 8, none⟩) hlt).trans k8) ((hM.cell (p := ⟨h11, 9, none⟩) hlt).trans k9) ((hM.cell (p := ⟨h11, 10, none⟩) hlt).trans k10) ((hM.cell (p := ⟨h11, 11, none⟩) hlt).trans k11) ⟨_, rfl, rfl, Below.refl _ _, hM⟩
    · obtain rfl := Option.some.inj (show ops24[12]? = some o from ho)
      exact og_ldB f17 (hBg.next hM).c0 (hBg.next hM).c1 (hBg.next hM).c2 (hBg.next hM).c3 ⟨_, rfl, rfl, Below.refl _ _, hM⟩
    · obtain rfl := Option.some.inj (show ops24[13]? = some o from ho)
      exact og_eqB bX2 bXL e2 (hv 11 (by decide) rfl (he ⟨11, .data⟩ (by simp) rfl) : slot a 115 = A4 X2) (hv 12 (by decide) rfl (he ⟨12, .data⟩ (by simp) rfl) : slot a 116 = A4 XL) ⟨_, rfl, rfl, Below.refl _ _, hM⟩
    · obtain rfl := Option.some.inj (show ops24[14]? = some o from ho)
      exact og_pkT (hv 9 (by decide) rfl (he ⟨9, .data⟩ (by simp) rfl) : slot a 113 = .bool true) (hv 13 (by decide) rfl (he ⟨13, .data⟩ (by simp) rfl) : slot a 117 = .bool true) ⟨_, rfl, rfl, Below.refl _ _, hM⟩
    · obtain rfl := Option.some.inj (show ops24[15]? = some o from ho)
      exact og_mv (hv 14 (by decide) rfl (he ⟨14, .data⟩ (by simp) rfl) : slot a 118 = .bool true) ⟨_, rfl, rfl, Below.refl _ _, hM⟩
    · obtain rfl := Option.some.inj (show ops24[16]? = some o from ho)
      exact og_ia0 f11 ⟨_, rfl, rfl, Below.refl _ _, hM⟩
    · obtain rfl := Option.some.inj (show ops24[17]? = some o from ho)
      exact og_ldB (hv 16 (by decide) rfl (he ⟨16, .data⟩ (by simp) rfl) : slot a 120 = .pointer (some ⟨h11, 0, none⟩)) ((hM.cell (p := ⟨h11, 0, none⟩) hlt).trans k0) ((hM.cell (p := ⟨h11, 1, none⟩) hlt).trans k1) ((hM.cell (p := ⟨h11, 2, none⟩) hlt).trans k2) ((hM.cell (p := ⟨h11, 3, none⟩) hlt).trans k3) ⟨_, rfl, rfl, Below.refl _ _, hM⟩
    · obtain rfl := Option.some.inj (show ops24[18]? = some o from ho)
      exact og_ldB f17 (hBg.next hM).c0 (hBg.next hM).c1 (hBg.next hM).c2 (hBg.next hM).c3 ⟨_, rfl, rfl, Below.refl _ _, hM⟩
    · obtain rfl := Option.some.inj (show ops24[19]? = some o from ho)
      exact og_eqB bX0 bXL e0 (hv 17 (by decide) rfl (he ⟨17, .data⟩ (by simp) rfl) : slot a 121 = A4 X0) (hv 18 (by decide) rfl (he ⟨18, .data⟩ (by simp) rfl) : slot a 122 = A4 XL) ⟨_, rfl, rfl, Below.refl _ _, hM⟩
    · obtain rfl := Option.some.inj (show ops24[20]? = some o from ho)
      exact og_mv (hv 19 (by decide) rfl (he ⟨19, .data⟩ (by simp) rfl) : slot a 123 = .bool true) ⟨_, rfl, rfl, Below.refl _ _, hM⟩
    · exact absurd hG (by decide)
    · exact absurd hG (by decide)
    · exact absurd hG (by decide)
    · exact absurd hG (by decide)
    · obtain rfl := Option.some.inj (show ops24[25]? = some o from ho)
      exact og_pkTc (hv 20 (by decide) rfl (he ⟨20, .data⟩ (by simp) rfl) : slot a 124 = .bool true) ⟨_, rfl, rfl, Below.refl _ _, hM⟩
    · obtain rfl := Option.some.inj (show ops24[26]? = some o from ho)
      exact og_pkT (hv 15 (by decide) rfl (he ⟨15, .data⟩ (by simp) rfl) : slot a 119 = .bool true) (hv 25 (by decide) rfl (he ⟨25, .data⟩ (by simp) rfl) : slot a 129 = .bool true) ⟨_, rfl, rfl, Below.refl _ _, hM⟩
    · obtain rfl := Option.some.inj (show ops24[27]? = some o from ho)
      exact og_mv (hv 26 (by decide) rfl (he ⟨26, .data⟩ (by simp) rfl) : slot a 130 = .bool true) ⟨_, rfl, rfl, Below.refl _ _, hM⟩
    · obtain rfl := Option.some.inj (show ops24[28]? = some o from ho)
      exact og_ia1 f11 ⟨_, rfl, rfl, Below.refl _ _, hM⟩
    · obtain rfl := Option.some.inj (show ops24[29]? = some o from ho)
      exact og_ldB (hv 28 (by decide) rfl (he ⟨28, .data⟩ (by simp) rfl) : slot a 132 = .pointer (some ⟨h11, 4, none⟩)) ((hM.cell (p := ⟨h11, 4, none⟩) hlt).trans k4) ((hM.cell (p := ⟨h11, 5, none⟩) hlt).trans k5) ((hM.cell (p := ⟨h11, 6, none⟩) hlt).trans k6) ((hM.cell (p := ⟨h11, 7, none⟩) hlt).trans k7) ⟨_, rfl, rfl, Below.refl _ _, hM⟩
    · obtain rfl := Option.some.inj (show ops24[30]? = some o from ho)
      exact og_ldB f17 (hBg.next hM).c0 (hBg.next hM).c1 (hBg.next hM).c2 (hBg.next hM).c3 ⟨_, rfl, rfl, Below.refl _ _, hM⟩
    · obtain rfl := Option.some.inj (show ops24[31]? = some o from ho)
      exact og_eqB bX1 bXL e1 (hv 29 (by decide) rfl (he ⟨29, .data⟩ (by simp) rfl) : slot a 133 = A4 X1) (hv 30 (by decide) rfl (he ⟨30, .data⟩ (by simp) rfl) : slot a 134 = A4 XL) ⟨_, rfl, rfl, Below.refl _ _, hM⟩
    · obtain rfl := Option.some.inj (show ops24[32]? = some o from ho)
      exact og_mv (hv 31 (by decide) rfl (he ⟨31, .data⟩ (by simp) rfl) : slot a 135 = .bool false) ⟨_, rfl, rfl, Below.refl _ _, hM⟩
    · obtain rfl := Option.some.inj (show ops24[33]? = some o from ho)
      exact og_ia1 f11 ⟨_, rfl, rfl, Below.refl _ _, hM⟩
    · obtain rfl := Option.some.inj (show ops24[34]? = some o from ho)
      exact og_ldB (hv 33 (by decide) rfl (he ⟨33, .data⟩ (by simp) rfl) : slot a 137 = .pointer (some ⟨h11, 4, none⟩)) ((hM.cell (p := ⟨h11, 4, none⟩) hlt).trans k4) ((hM.cell (p := ⟨h11, 5, none⟩) hlt).trans k5) ((hM.cell (p := ⟨h11, 6, none⟩) hlt).trans k6) ((hM.cell (p := ⟨h11, 7, none⟩) hlt).trans k7) ⟨_, rfl, rfl, Below.refl _ _, hM⟩
    · obtain rfl := Option.some.inj (show ops24[35]? = some o from ho)
      exact og_ldB f18 (hBh.next hM).c0 (hBh.next hM).c1 (hBh.next hM).c2 (hBh.next hM).c3 ⟨_, rfl, rfl, Below.refl _ _, hM⟩
    · obtain rfl := Option.some.inj (show ops24[36]? = some o from ho)
      exact og_eqB bX1 bXH e1h (hv 34 (by decide) rfl (he ⟨34, .data⟩ (by simp) rfl) : slot a 138 = A4 X1) (hv 35 (by decide) rfl (he ⟨35, .data⟩ (by simp) rfl) : slot a 139 = A4 XH) ⟨_, rfl, rfl, Below.refl _ _, hM⟩
    · obtain rfl := Option.some.inj (show ops24[37]? = some o from ho)
      exact og_pkF (hv 32 (by decide) rfl (he ⟨32, .data⟩ (by simp) rfl) : slot a 136 = .bool false) (hv 36 (by decide) rfl (he ⟨36, .data⟩ (by simp) rfl) : slot a 140 = .bool true) ⟨_, rfl, rfl, Below.refl _ _, hM⟩
    · obtain rfl := Option.some.inj (show ops24[38]? = some o from ho)
      exact og_pkT (hv 27 (by decide) rfl (he ⟨27, .data⟩ (by simp) rfl) : slot a 131 = .bool true) (hv 37 (by decide) rfl (he ⟨37, .data⟩ (by simp) rfl) : slot a 141 = .bool true) ⟨_, rfl, rfl, Below.refl _ _, hM⟩
  · intro L a w hL hM hsz hdf hF hv
    have z0 : slot a 142 = .bool true := hv 38 (by decide) rfl
    refine BigFrame.wpList_want rfl fun K hK => og_as z0 (hK _ _ ?_)
    clear K hK
    exact hQ _ _ (slot_put (by omega)) (by simp [Act.put, hsz]) hdf hM
set_option maxHeartbeats 2000000 in
theorem reg24ft {h11 g h X0 X1 X2 XL XH K1 : Nat} {v19 : Value} {a0 : Act} {ws : World} {Q : Exit → Act → World → Prop} (hs : a0.tmps.size = 143) (g11 : slot a0 11 = .pointer (some ⟨h11, 0, none⟩)) (g17 : slot a0 17 = .pointer (some ⟨g, 0, none⟩)) (g18 : slot a0 18 = .pointer (some ⟨h, 0, none⟩)) (g19 : slot a0 19 = v19) (hu : NT K1 1 v19 ws) (hlt : h11 < ws.heap.size)
    (k0 : ws.cell? ⟨h11, 0, none⟩ = some (.int .u64 (W4 X0 0)))
    (k1 : ws.cell? ⟨h11, 1, none⟩ = some (.int .u64 (W4 X0 1)))
    (k2 : ws.cell? ⟨h11, 2, none⟩ = some (.int .u64 (W4 X0 2)))
    (k3 : ws.cell? ⟨h11, 3, none⟩ = some (.int .u64 (W4 X0 3)))
    (k4 : ws.cell? ⟨h11, 4, none⟩ = some (.int .u64 (W4 X1 0)))
    (k5 : ws.cell? ⟨h11, 5, none⟩ = some (.int .u64 (W4 X1 1)))
    (k6 : ws.cell? ⟨h11, 6, none⟩ = some (.int .u64 (W4 X1 2)))
    (k7 : ws.cell? ⟨h11, 7, none⟩ = some (.int .u64 (W4 X1 3)))
    (k8 : ws.cell? ⟨h11, 8, none⟩ = some (.int .u64 (W4 X2 0)))
    (k9 : ws.cell? ⟨h11, 9, none⟩ = some (.int .u64 (W4 X2 1)))
    (k10 : ws.cell? ⟨h11, 10, none⟩ = some (.int .u64 (W4 X2 2)))
    (k11 : ws.cell? ⟨h11, 11, none⟩ = some (.int .u64 (W4 X2 3)))
    (hBg : B4 g XL ws) (hBh : B4 h XH ws) (bX0 : X0 < 2 ^ 256) (bX1 : X1 < 2 ^ 256) (bX2 : X2 < 2 ^ 256) (bXL : XL < 2 ^ 256) (bXH : XH < 2 ^ 256) (e2 : decide (X2 = XL) = true) (e0 : decide (X0 = XL) = false) (e1 : decide (X1 = XL) = true) (e0h : decide (X0 = XH) = true)
    (c9 : ∀ W, Below ws.heap.size ws W → Calls Tryd.prog 9 #[.slice (some ⟨h, 0, none⟩) 4 4, .slice (some ⟨g, 0, none⟩) 4 4] W fun e w' => e = .returned (.int .i64 1) ∧ Below W.heap.size W w')
    (c10 : ∀ W v v', Below ws.heap.size ws W → NT K1 1 v W → NT 1 1 v' W → Calls Tryd.prog 10 #[v, v'] W fun e w' => e = .returned (.bool true) ∧ Below W.heap.size W w')
    (hQ : ∀ (a : Act) (w : World), slot a 10 = .bool true → a.tmps.size = 143 → a.defers = a0.defers → Below ws.heap.size ws w → Q .normal a w) :
    (Code.region 24 ops24.toArray true).wp Tryd.prog Q a0 ws := by
  refine wp_region_memg 39 143 slots24 [iW (.slice (some ⟨h, 0, none⟩) 4 4), iW (.slice (some ⟨g, 0, none⟩) 4 4), iW (.int .i64 1), iW (.bool true), iW (.bool true), NT K1 1, NT 1 1, iW (.bool true), iW (.bool true), iW (.bool true), iW (.pointer (some ⟨h11, 8, none⟩)), iW (A4 X2), iW (A4 XL), iW (.bool true), iW (.bool true), iW (.bool true), iW (.pointer (some ⟨h11, 0, none⟩)), iW (A4 X0), iW (A4 XL), iW (.bool false), iW (.bool false), iW (.pointer (some ⟨h11, 0, none⟩)), iW (A4 X0), iW (A4 XH), iW (.bool true), iW (.bool true), iW (.bool true), iW (.bool true), iW (.pointer (some ⟨h11, 4, none⟩)), iW (A4 X1), iW (A4 XL), iW (.bool true), iW (.bool true), (fun _ _ => True), (fun _ _ => True), (fun _ _ => True), (fun _ _ => True), iW (.bool true), iW (.bool true)] (fun w w' => Below w.heap.size w w') (fun _ _ w => Below ws.heap.size ws w) [true, true, true, true, true, true, true, true, true, true, true, true, true, true, true, true, true, true, true, true, true, true, true, true, true, true, true, true, true, true, true, true, true, false, false, false, false, true, true] [none, none, none, none, some true, none, none, none, none, some true, none, none, none, none, none, some true, none, none, none, none, some false, none, none, none, none, none, none, some true, none, none, none, none, some true, none, none, none, none, none, none] (by kernel_rfl) (by kernel_rfl) (by kernel_rfl) (by kernel_rfl) hs ?_ (fun _ => Below.refl _ _) ?_ ?_ (Below.refl _ _).drew ?_ ?_ ?_
  · intro j c hj hc v w hw
    have hor : j = 0 ∨ j = 1 ∨ j = 2 ∨ j = 3 ∨ j = 4 ∨ j = 5 ∨ j = 6 ∨ j = 7 ∨ j = 8 ∨ j = 9 ∨ j = 10 ∨ j = 11 ∨ j = 12 ∨ j = 13 ∨ j = 14 ∨ j = 15 ∨ j = 16 ∨ j = 17 ∨ j = 18 ∨ j = 19 ∨ j = 20 ∨ j = 21 ∨ j = 22 ∨ j = 23 ∨ j = 24 ∨ j = 25 ∨ j = 26 ∨ j = 27 ∨ j = 28 ∨ j = 29 ∨ j = 30 ∨ j = 31 ∨ j = 32 ∨ j = 33 ∨ j = 34 ∨ j = 35 ∨ j = 36 ∨ j = 37 ∨ j = 38 := by omega
    rcases hor with rfl | rfl | rfl | rfl | rfl | rfl | rfl | rfl | rfl | rfl | rfl | rfl | rfl | rfl | rfl | rfl | rfl | rfl | rfl | rfl | rfl | rfl | rfl | rfl | rfl | rfl | rfl | rfl | rfl | rfl | rfl | rfl | rfl | rfl | rfl | rfl | rfl | rfl | rfl
    all_goals first | (cases hc; done) | (cases hc; exact hw)
  · intro p hp
    simp only [List.mem_cons, List.not_mem_nil, or_false] at hp
    rcases hp with rfl | rfl | rfl | rfl | rfl | rfl | rfl | rfl | rfl | rfl | rfl | rfl | rfl | rfl | rfl | rfl | rfl | rfl | rfl | rfl | rfl | rfl | rfl | rfl | rfl | rfl | rfl | rfl | rfl | rfl | rfl | rfl | rfl | rfl | rfl | rfl | rfl | rfl | rfl
    all_goals first | exact fun _ _ _ h _ => h | exact fun _ _ _ h hb => h.next hb
  · intro i hi hG
    have hor : i = 0 ∨ i = 1 ∨ i = 2 ∨ i = 3 ∨ i = 4 ∨ i = 5 ∨ i = 6 ∨ i = 7 ∨ i = 8 ∨ i = 9 ∨ i = 10 ∨ i = 11 ∨ i = 12 ∨ i = 13 ∨ i = 14 ∨ i = 15 ∨ i = 16 ∨ i = 17 ∨ i = 18 ∨ i = 19 ∨ i = 20 ∨ i = 21 ∨ i = 22 ∨ i = 23 ∨ i = 24 ∨ i = 25 ∨ i = 26 ∨ i = 27 ∨ i = 28 ∨ i = 29 ∨ i = 30 ∨ i = 31 ∨ i = 32 ∨ i = 33 ∨ i = 34 ∨ i = 35 ∨ i = 36 ∨ i = 37 ∨ i = 38 := by omega
    rcases hor with rfl | rfl | rfl | rfl | rfl | rfl | rfl | rfl | rfl | rfl | rfl | rfl | rfl | rfl | rfl | rfl | rfl | rfl | rfl | rfl | rfl | rfl | rfl | rfl | rfl | rfl | rfl | rfl | rfl | rfl | rfl | rfl | rfl | rfl | rfl | rfl | rfl | rfl | rfl
    all_goals first | exact absurd hG (by decide) | exact fun _ _ => trivial
  · intro L i o a w hi ho hG hL hM
    exact hM
  · intro L i o a w hi ho hG hL hcl he hM hF hv
    have f11 : slot a 11 = .pointer (some ⟨h11, 0, none⟩) := (hF 11 (by decide)).trans g11
    have f17 : slot a 17 = .pointer (some ⟨g, 0, none⟩) := (hF 17 (by decide)).trans g17
    have f18 : slot a 18 = .pointer (some ⟨h, 0, none⟩) := (hF 18 (by decide)).trans g18
    have f19 : slot a 19 = v19 := (hF 19 (by decide)).trans g19
    have hor : i = 0 ∨ i = 1 ∨ i = 2 ∨ i = 3 ∨ i = 4 ∨ i = 5 ∨ i = 6 ∨ i = 7 ∨ i = 8 ∨ i = 9 ∨ i = 10 ∨ i = 11 ∨ i = 12 ∨ i = 13 ∨ i = 14 ∨ i = 15 ∨ i = 16 ∨ i = 17 ∨ i = 18 ∨ i = 19 ∨ i = 20 ∨ i = 21 ∨ i = 22 ∨ i = 23 ∨ i = 24 ∨ i = 25 ∨ i = 26 ∨ i = 27 ∨ i = 28 ∨ i = 29 ∨ i = 30 ∨ i = 31 ∨ i = 32 ∨ i = 33 ∨ i = 34 ∨ i = 35 ∨ i = 36 ∨ i = 37 ∨ i = 38 := by omega
    rcases hor with rfl | rfl | rfl | rfl | rfl | rfl | rfl | rfl | rfl | rfl | rfl | rfl | rfl | rfl | rfl | rfl | rfl | rfl | rfl | rfl | rfl | rfl | rfl | rfl | rfl | rfl | rfl | rfl | rfl | rfl | rfl | rfl | rfl | rfl | rfl | rfl | rfl | rfl | rfl
    · obtain rfl := Option.some.inj (show ops24[0]? = some o from ho)
      exact og_slB f18 ⟨_, rfl, rfl, Below.refl _ _, hM⟩
    · obtain rfl := Option.some.inj (show ops24[1]? = some o from ho)
      exact og_slB f17 ⟨_, rfl, rfl, Below.refl _ _, hM⟩
    · obtain rfl := Option.some.inj (show ops24[2]? = some o from ho)
      refine og_cmp (hv 0 (by decide) rfl (he ⟨0, .data⟩ (by simp) rfl) : slot a 104 = .slice (some ⟨h, 0, none⟩) 4 4) (hv 1 (by decide) rfl (he ⟨1, .data⟩ (by simp) rfl) : slot a 105 = .slice (some ⟨g, 0, none⟩) 4 4) ((c9 w hM).mono ?_)
      rintro e w' ⟨rfl, hb⟩
      exact ⟨_, rfl, _, rfl, rfl, hb, bnx hM hb⟩
    · obtain rfl := Option.some.inj (show ops24[3]? = some o from ho)
      exact og_gt3 (hv 2 (by decide) rfl (he ⟨2, .data⟩ (by simp) rfl) : slot a 106 = .int .i64 1) (by decide) ⟨_, rfl, rfl, Below.refl _ _, hM⟩
    · obtain rfl := Option.some.inj (show ops24[4]? = some o from ho)
      exact og_mv (hv 3 (by decide) rfl (he ⟨3, .data⟩ (by simp) rfl) : slot a 107 = .bool true) ⟨_, rfl, rfl, Below.refl _ _, hM⟩
    · obtain rfl := Option.some.inj (show ops24[5]? = some o from ho)
      exact og_mv f19 ⟨_, rfl, hu.next hM, Below.refl _ _, hM⟩
    · obtain rfl := Option.some.inj (show ops24[6]? = some o from ho)
      have hb := below1 w (.cells #[.int .u64 1] 26)
      exact og_bs1 ⟨_, rfl, one_nt w, hb, bnx hM hb⟩
    · obtain rfl := Option.some.inj (show ops24[7]? = some o from ho)
      refine og_same rfl rfl ((c10 w _ _ hM (hv 5 (by decide) rfl (he ⟨5, .data⟩ (by simp) rfl)) (hv 6 (by decide) rfl (he ⟨6, .data⟩ (by simp) rfl))).mono ?_)
      rintro e w' ⟨rfl, hb⟩
      exact ⟨_, rfl, _, rfl, rfl, hb, bnx hM hb⟩
    · obtain rfl := Option.some.inj (show ops24[8]? = some o from ho)
      exact og_pkT (hv 4 (by decide) rfl (he ⟨4, .data⟩ (by simp) rfl) : slot a 108 = .bool true) (hv 7 (by decide) rfl (he ⟨7, .data⟩ (by simp) rfl) : slot a 111 = .bool true) ⟨_, rfl, rfl, Below.refl _ _, hM⟩
    · obtain rfl := Option.some.inj (show ops24[9]? = some o from ho)
      exact og_mv (hv 8 (by decide) rfl (he ⟨8, .data⟩ (by simp) rfl) : slot a 112 = .bool true) ⟨_, rfl, rfl, Below.refl _ _, hM⟩
    · obtain rfl := Option.some.inj (show ops24[10]? = some o from ho)
      exact og_ia2 f11 ⟨_, rfl, rfl, Below.refl _ _, hM⟩
    · obtain rfl := Option.some.inj (show ops24[11]? = some o from ho)
      exact og_ldB (hv 10 (by decide) rfl (he ⟨10, .data⟩ (by simp) rfl) : slot a 114 = .pointer (some ⟨h11, 8, none⟩)) ((hM.cell (p := ⟨h11, 8, none⟩) hlt).trans k8) ((hM.cell (p := ⟨h11, 9, none⟩) hlt).trans k9) ((hM.cell (p := ⟨h11, 10, none⟩) hlt).trans k10) ((hM.cell (p := ⟨h11, 11, none⟩) hlt).trans k11) ⟨_, rfl, rfl, Below.refl _ _, hM⟩
    · obtain rfl := Option.some.inj (show ops24[12]? = some o from ho)
      exact og_ldB f17 (hBg.next hM).c0 (hBg.next hM).c1 (hBg.next hM).c2 (hBg.next hM).c3 ⟨_, rfl, rfl, Below.refl _ _, hM⟩
    · obtain rfl := Option.some.inj (show ops24[13]? = some o from ho)
      exact og_eqB bX2 bXL e2 (hv 11 (by decide) rfl (he ⟨11, .data⟩ (by simp) rfl) : slot a 115 = A4 X2) (hv 12 (by decide) rfl (he ⟨12, .data⟩ (by simp) rfl) : slot a 116 = A4 XL) ⟨_, rfl, rfl, Below.refl _ _, hM⟩
    · obtain rfl := Option.some.inj (show ops24[14]? = some o from ho)
      exact og_pkT (hv 9 (by decide) rfl (he ⟨9, .data⟩ (by simp) rfl) : slot a 113 = .bool true) (hv 13 (by decide) rfl (he ⟨13, .data⟩ (by simp) rfl) : slot a 117 = .bool true) ⟨_, rfl, rfl, Below.refl _ _, hM⟩
    · obtain rfl := Option.some.inj (show ops24[15]? = some o from ho)
      exact og_mv (hv 14 (by decide) rfl (he ⟨14, .data⟩ (by simp) rfl) : slot a 118 = .bool true) ⟨_, rfl, rfl, Below.refl _ _, hM⟩
    · obtain rfl := Option.some.inj (show ops24[16]? = some o from ho)
      exact og_ia0 f11 ⟨_, rfl, rfl, Below.refl _ _, hM⟩
    · obtain rfl := Option.some.inj (show ops24[17]? = some o from ho)
      exact og_ldB (hv 16 (by decide) rfl (he ⟨16, .data⟩ (by simp) rfl) : slot a 120 = .pointer (some ⟨h11, 0, none⟩)) ((hM.cell (p := ⟨h11, 0, none⟩) hlt).trans k0) ((hM.cell (p := ⟨h11, 1, none⟩) hlt).trans k1) ((hM.cell (p := ⟨h11, 2, none⟩) hlt).trans k2) ((hM.cell (p := ⟨h11, 3, none⟩) hlt).trans k3) ⟨_, rfl, rfl, Below.refl _ _, hM⟩
    · obtain rfl := Option.some.inj (show ops24[18]? = some o from ho)
      exact og_ldB f17 (hBg.next hM).c0 (hBg.next hM).c1 (hBg.next hM).c2 (hBg.next hM).c3 ⟨_, rfl, rfl, Below.refl _ _, hM⟩
    · obtain rfl := Option.some.inj (show ops24[19]? = some o from ho)
      exact og_eqB bX0 bXL e0 (hv 17 (by decide) rfl (he ⟨17, .data⟩ (by simp) rfl) : slot a 121 = A4 X0) (hv 18 (by decide) rfl (he ⟨18, .data⟩ (by simp) rfl) : slot a 122 = A4 XL) ⟨_, rfl, rfl, Below.refl _ _, hM⟩
    · obtain rfl := Option.some.inj (show ops24[20]? = some o from ho)
      exact og_mv (hv 19 (by decide) rfl (he ⟨19, .data⟩ (by simp) rfl) : slot a 123 = .bool false) ⟨_, rfl, rfl, Below.refl _ _, hM⟩
    · obtain rfl := Option.some.inj (show ops24[21]? = some o from ho)
      exact og_ia0 f11 ⟨_, rfl, rfl, Below.refl _ _, hM⟩
    · obtain rfl := Option.some.inj (show ops24[22]? = some o from ho)
      exact og_ldB (hv 21 (by decide) rfl (he ⟨21, .data⟩ (by simp) rfl) : slot a 125 = .pointer (some ⟨h11, 0, none⟩)) ((hM.cell (p := ⟨h11, 0, none⟩) hlt).trans k0) ((hM.cell (p := ⟨h11, 1, none⟩) hlt).trans k1) ((hM.cell (p := ⟨h11, 2, none⟩) hlt).trans k2) ((hM.cell (p := ⟨h11, 3, none⟩) hlt).trans k3) ⟨_, rfl, rfl, Below.refl _ _, hM⟩
    · obtain rfl := Option.some.inj (show ops24[23]? = some o from ho)
      exact og_ldB f18 (hBh.next hM).c0 (hBh.next hM).c1 (hBh.next hM).c2 (hBh.next hM).c3 ⟨_, rfl, rfl, Below.refl _ _, hM⟩
    · obtain rfl := Option.some.inj (show ops24[24]? = some o from ho)
      exact og_eqB bX0 bXH e0h (hv 22 (by decide) rfl (he ⟨22, .data⟩ (by simp) rfl) : slot a 126 = A4 X0) (hv 23 (by decide) rfl (he ⟨23, .data⟩ (by simp) rfl) : slot a 127 = A4 XH) ⟨_, rfl, rfl, Below.refl _ _, hM⟩
    · obtain rfl := Option.some.inj (show ops24[25]? = some o from ho)
      exact og_pkF (hv 20 (by decide) rfl (he ⟨20, .data⟩ (by simp) rfl) : slot a 124 = .bool false) (hv 24 (by decide) rfl (he ⟨24, .data⟩ (by simp) rfl) : slot a 128 = .bool true) ⟨_, rfl, rfl, Below.refl _ _, hM⟩
    · obtain rfl := Option.some.inj (show ops24[26]? = some o from ho)
      exact og_pkT (hv 15 (by decide) rfl (he ⟨15, .data⟩ (by simp) rfl) : slot a 119 = .bool true) (hv 25 (by decide) rfl (he ⟨25, .data⟩ (by simp) rfl) : slot a 129 = .bool true) ⟨_, rfl, rfl, Below.refl _ _, hM⟩
    · obtain rfl := Option.some.inj (show ops24[27]? = some o from ho)
      exact og_mv (hv 26 (by decide) rfl (he ⟨26, .data⟩ (by simp) rfl) : slot a 130 = .bool true) ⟨_, rfl, rfl, Below.refl _ _, hM⟩
    · obtain rfl := Option.some.inj (show ops24[28]? = some o from ho)
      exact og_ia1 f11 ⟨_, rfl, rfl, Below.refl _ _, hM⟩
    · obtain rfl := Option.some.inj (show ops24[29]? = some o from ho)
      exact og_ldB (hv 28 (by decide) rfl (he ⟨28, .data⟩ (by simp) rfl) : slot a 132 = .pointer (some ⟨h11, 4, none⟩)) ((hM.cell (p := ⟨h11, 4, none⟩) hlt).trans k4) ((hM.cell (p := ⟨h11, 5, none⟩) hlt).trans k5) ((hM.cell (p := ⟨h11, 6, none⟩) hlt).trans k6) ((hM.cell (p := ⟨h11, 7, none⟩) hlt).trans k7) ⟨_, rfl, rfl, Below.refl _ _, hM⟩
    · obtain rfl := Option.some.inj (show ops24[30]? = some o from ho)
      exact og_ldB f17 (hBg.next hM).c0 (hBg.next hM).c1 (hBg.next hM).c2 (hBg.next hM).c3 ⟨_, rfl, rfl, Below.refl _ _, hM⟩
    · obtain rfl := Option.some.inj (show ops24[31]? = some o from ho)
      exact og_eqB bX1 bXL e1 (hv 29 (by decide) rfl (he ⟨29, .data⟩ (by simp) rfl) : slot a 133 = A4 X1) (hv 30 (by decide) rfl (he ⟨30, .data⟩ (by simp) rfl) : slot a 134 = A4 XL) ⟨_, rfl, rfl, Below.refl _ _, hM⟩
    · obtain rfl := Option.some.inj (show ops24[32]? = some o from ho)
      exact og_mv (hv 31 (by decide) rfl (he ⟨31, .data⟩ (by simp) rfl) : slot a 135 = .bool true) ⟨_, rfl, rfl, Below.refl _ _, hM⟩
    · exact absurd hG (by decide)
    · exact absurd hG (by decide)
    · exact absurd hG (by decide)
    · exact absurd hG (by decide)
    · obtain rfl := Option.some.inj (show ops24[37]? = some o from ho)
      exact og_pkTc (hv 32 (by decide) rfl (he ⟨32, .data⟩ (by simp) rfl) : slot a 136 = .bool true) ⟨_, rfl, rfl, Below.refl _ _, hM⟩
    · obtain rfl := Option.some.inj (show ops24[38]? = some o from ho)
      exact og_pkT (hv 27 (by decide) rfl (he ⟨27, .data⟩ (by simp) rfl) : slot a 131 = .bool true) (hv 37 (by decide) rfl (he ⟨37, .data⟩ (by simp) rfl) : slot a 141 = .bool true) ⟨_, rfl, rfl, Below.refl _ _, hM⟩
  · intro L a w hL hM hsz hdf hF hv
    have z0 : slot a 142 = .bool true := hv 38 (by decide) rfl
    refine BigFrame.wpList_want rfl fun K hK => og_as z0 (hK _ _ ?_)
    clear K hK
    exact hQ _ _ (slot_put (by omega)) (by simp [Act.put, hsz]) hdf hM
set_option maxHeartbeats 2000000 in
theorem reg24ff {h11 g h X0 X1 X2 XL XH K1 : Nat} {v19 : Value} {a0 : Act} {ws : World} {Q : Exit → Act → World → Prop} (hs : a0.tmps.size = 143) (g11 : slot a0 11 = .pointer (some ⟨h11, 0, none⟩)) (g17 : slot a0 17 = .pointer (some ⟨g, 0, none⟩)) (g18 : slot a0 18 = .pointer (some ⟨h, 0, none⟩)) (g19 : slot a0 19 = v19) (hu : NT K1 1 v19 ws) (hlt : h11 < ws.heap.size)
    (k0 : ws.cell? ⟨h11, 0, none⟩ = some (.int .u64 (W4 X0 0)))
    (k1 : ws.cell? ⟨h11, 1, none⟩ = some (.int .u64 (W4 X0 1)))
    (k2 : ws.cell? ⟨h11, 2, none⟩ = some (.int .u64 (W4 X0 2)))
    (k3 : ws.cell? ⟨h11, 3, none⟩ = some (.int .u64 (W4 X0 3)))
    (k4 : ws.cell? ⟨h11, 4, none⟩ = some (.int .u64 (W4 X1 0)))
    (k5 : ws.cell? ⟨h11, 5, none⟩ = some (.int .u64 (W4 X1 1)))
    (k6 : ws.cell? ⟨h11, 6, none⟩ = some (.int .u64 (W4 X1 2)))
    (k7 : ws.cell? ⟨h11, 7, none⟩ = some (.int .u64 (W4 X1 3)))
    (k8 : ws.cell? ⟨h11, 8, none⟩ = some (.int .u64 (W4 X2 0)))
    (k9 : ws.cell? ⟨h11, 9, none⟩ = some (.int .u64 (W4 X2 1)))
    (k10 : ws.cell? ⟨h11, 10, none⟩ = some (.int .u64 (W4 X2 2)))
    (k11 : ws.cell? ⟨h11, 11, none⟩ = some (.int .u64 (W4 X2 3)))
    (hBg : B4 g XL ws) (hBh : B4 h XH ws) (bX0 : X0 < 2 ^ 256) (bX1 : X1 < 2 ^ 256) (bX2 : X2 < 2 ^ 256) (bXL : XL < 2 ^ 256) (bXH : XH < 2 ^ 256) (e2 : decide (X2 = XL) = true) (e0 : decide (X0 = XL) = false) (e1 : decide (X1 = XL) = false) (e0h : decide (X0 = XH) = true) (e1h : decide (X1 = XH) = true)
    (c9 : ∀ W, Below ws.heap.size ws W → Calls Tryd.prog 9 #[.slice (some ⟨h, 0, none⟩) 4 4, .slice (some ⟨g, 0, none⟩) 4 4] W fun e w' => e = .returned (.int .i64 1) ∧ Below W.heap.size W w')
    (c10 : ∀ W v v', Below ws.heap.size ws W → NT K1 1 v W → NT 1 1 v' W → Calls Tryd.prog 10 #[v, v'] W fun e w' => e = .returned (.bool true) ∧ Below W.heap.size W w')
    (hQ : ∀ (a : Act) (w : World), slot a 10 = .bool true → a.tmps.size = 143 → a.defers = a0.defers → Below ws.heap.size ws w → Q .normal a w) :
    (Code.region 24 ops24.toArray true).wp Tryd.prog Q a0 ws := by
  refine wp_region_memg 39 143 slots24 [iW (.slice (some ⟨h, 0, none⟩) 4 4), iW (.slice (some ⟨g, 0, none⟩) 4 4), iW (.int .i64 1), iW (.bool true), iW (.bool true), NT K1 1, NT 1 1, iW (.bool true), iW (.bool true), iW (.bool true), iW (.pointer (some ⟨h11, 8, none⟩)), iW (A4 X2), iW (A4 XL), iW (.bool true), iW (.bool true), iW (.bool true), iW (.pointer (some ⟨h11, 0, none⟩)), iW (A4 X0), iW (A4 XL), iW (.bool false), iW (.bool false), iW (.pointer (some ⟨h11, 0, none⟩)), iW (A4 X0), iW (A4 XH), iW (.bool true), iW (.bool true), iW (.bool true), iW (.bool true), iW (.pointer (some ⟨h11, 4, none⟩)), iW (A4 X1), iW (A4 XL), iW (.bool false), iW (.bool false), iW (.pointer (some ⟨h11, 4, none⟩)), iW (A4 X1), iW (A4 XH), iW (.bool true), iW (.bool true), iW (.bool true)] (fun w w' => Below w.heap.size w w') (fun _ _ w => Below ws.heap.size ws w) [true, true, true, true, true, true, true, true, true, true, true, true, true, true, true, true, true, true, true, true, true, true, true, true, true, true, true, true, true, true, true, true, true, true, true, true, true, true, true] [none, none, none, none, some true, none, none, none, none, some true, none, none, none, none, none, some true, none, none, none, none, some false, none, none, none, none, none, none, some true, none, none, none, none, some false, none, none, none, none, none, none] (by kernel_rfl) (by kernel_rfl) (by kernel_rfl) (by kernel_rfl) hs ?_ (fun _ => Below.refl _ _) ?_ ?_ (Below.refl _ _).drew ?_ ?_ ?_
  · intro j c hj hc v w hw
    have hor : j = 0 ∨ j = 1 ∨ j = 2 ∨ j = 3 ∨ j = 4 ∨ j = 5 ∨ j = 6 ∨ j = 7 ∨ j = 8 ∨ j = 9 ∨ j = 10 ∨ j = 11 ∨ j = 12 ∨ j = 13 ∨ j = 14 ∨ j = 15 ∨ j = 16 ∨ j = 17 ∨ j = 18 ∨ j = 19 ∨ j = 20 ∨ j = 21 ∨ j = 22 ∨ j = 23 ∨ j = 24 ∨ j = 25 ∨ j = 26 ∨ j = 27 ∨ j = 28 ∨ j = 29 ∨ j = 30 ∨ j = 31 ∨ j = 32 ∨ j = 33 ∨ j = 34 ∨ j = 35 ∨ j = 36 ∨ j = 37 ∨ j = 38 := by omega
    rcases hor with rfl | rfl | rfl | rfl | rfl | rfl | rfl | rfl | rfl | rfl | rfl | rfl | rfl | rfl | rfl | rfl | rfl | rfl | rfl | rfl | rfl | rfl | rfl | rfl | rfl | rfl | rfl | rfl | rfl | rfl | rfl | rfl | rfl | rfl | rfl | rfl | rfl | rfl | rfl
    all_goals first | (cases hc; done) | (cases hc; exact hw)
  · intro p hp
    simp only [List.mem_cons, List.not_mem_nil, or_false] at hp
    rcases hp with rfl | rfl | rfl | rfl | rfl | rfl | rfl | rfl | rfl | rfl | rfl | rfl | rfl | rfl | rfl | rfl | rfl | rfl | rfl | rfl | rfl | rfl | rfl | rfl | rfl | rfl | rfl | rfl | rfl | rfl | rfl | rfl | rfl | rfl | rfl | rfl | rfl | rfl | rfl
    all_goals first | exact fun _ _ _ h _ => h | exact fun _ _ _ h hb => h.next hb
  · intro i hi hG
    have hor : i = 0 ∨ i = 1 ∨ i = 2 ∨ i = 3 ∨ i = 4 ∨ i = 5 ∨ i = 6 ∨ i = 7 ∨ i = 8 ∨ i = 9 ∨ i = 10 ∨ i = 11 ∨ i = 12 ∨ i = 13 ∨ i = 14 ∨ i = 15 ∨ i = 16 ∨ i = 17 ∨ i = 18 ∨ i = 19 ∨ i = 20 ∨ i = 21 ∨ i = 22 ∨ i = 23 ∨ i = 24 ∨ i = 25 ∨ i = 26 ∨ i = 27 ∨ i = 28 ∨ i = 29 ∨ i = 30 ∨ i = 31 ∨ i = 32 ∨ i = 33 ∨ i = 34 ∨ i = 35 ∨ i = 36 ∨ i = 37 ∨ i = 38 := by omega
    rcases hor with rfl | rfl | rfl | rfl | rfl | rfl | rfl | rfl | rfl | rfl | rfl | rfl | rfl | rfl | rfl | rfl | rfl | rfl | rfl | rfl | rfl | rfl | rfl | rfl | rfl | rfl | rfl | rfl | rfl | rfl | rfl | rfl | rfl | rfl | rfl | rfl | rfl | rfl | rfl
    all_goals first | exact absurd hG (by decide) | exact fun _ _ => trivial
  · intro L i o a w hi ho hG hL hM
    exact hM
  · intro L i o a w hi ho hG hL hcl he hM hF hv
    have f11 : slot a 11 = .pointer (some ⟨h11, 0, none⟩) := (hF 11 (by decide)).trans g11
    have f17 : slot a 17 = .pointer (some ⟨g, 0, none⟩) := (hF 17 (by decide)).trans g17
    have f18 : slot a 18 = .pointer (some ⟨h, 0, none⟩) := (hF 18 (by decide)).trans g18
    have f19 : slot a 19 = v19 := (hF 19 (by decide)).trans g19
    have hor : i = 0 ∨ i = 1 ∨ i = 2 ∨ i = 3 ∨ i = 4 ∨ i = 5 ∨ i = 6 ∨ i = 7 ∨ i = 8 ∨ i = 9 ∨ i = 10 ∨ i = 11 ∨ i = 12 ∨ i = 13 ∨ i = 14 ∨ i = 15 ∨ i = 16 ∨ i = 17 ∨ i = 18 ∨ i = 19 ∨ i = 20 ∨ i = 21 ∨ i = 22 ∨ i = 23 ∨ i = 24 ∨ i = 25 ∨ i = 26 ∨ i = 27 ∨ i = 28 ∨ i = 29 ∨ i = 30 ∨ i = 31 ∨ i = 32 ∨ i = 33 ∨ i = 34 ∨ i = 35 ∨ i = 36 ∨ i = 37 ∨ i = 38 := by omega
    rcases hor with rfl | rfl | rfl | rfl | rfl | rfl | rfl | rfl | rfl | rfl | rfl | rfl | rfl | rfl | rfl | rfl | rfl | rfl | rfl | rfl | rfl | rfl | rfl | rfl | rfl | rfl | rfl | rfl | rfl | rfl | rfl | rfl | rfl | rfl | rfl | rfl | rfl | rfl | rfl
    · obtain rfl := Option.some.inj (show ops24[0]? = some o from ho)
      exact og_slB f18 ⟨_, rfl, rfl, Below.refl _ _, hM⟩
    · obtain rfl := Option.some.inj (show ops24[1]? = some o from ho)
      exact og_slB f17 ⟨_, rfl, rfl, Below.refl _ _, hM⟩
    · obtain rfl := Option.some.inj (show ops24[2]? = some o from ho)
      refine og_cmp (hv 0 (by decide) rfl (he ⟨0, .data⟩ (by simp) rfl) : slot a 104 = .slice (some ⟨h, 0, none⟩) 4 4) (hv 1 (by decide) rfl (he ⟨1, .data⟩ (by simp) rfl) : slot a 105 = .slice (some ⟨g, 0, none⟩) 4 4) ((c9 w hM).mono ?_)
      rintro e w' ⟨rfl, hb⟩
      exact ⟨_, rfl, _, rfl, rfl, hb, bnx hM hb⟩
    · obtain rfl := Option.some.inj (show ops24[3]? = some o from ho)
      exact og_gt3 (hv 2 (by decide) rfl (he ⟨2, .data⟩ (by simp) rfl) : slot a 106 = .int .i64 1) (by decide) ⟨_, rfl, rfl, Below.refl _ _, hM⟩
    · obtain rfl := Option.some.inj (show ops24[4]? = some o from ho)
      exact og_mv (hv 3 (by decide) rfl (he ⟨3, .data⟩ (by simp) rfl) : slot a 107 = .bool true) ⟨_, rfl, rfl, Below.refl _ _, hM⟩
    · obtain rfl := Option.some.inj (show ops24[5]? = some o from ho)
      exact og_mv f19 ⟨_, rfl, hu.next hM, Below.refl _ _, hM⟩
    · obtain rfl := Option.some.inj (show ops24[6]? = some o from ho)
      have hb := below1 w (.cells #[.int .u64 1] 26)
      exact og_bs1 ⟨_, rfl, one_nt w, hb, bnx hM hb⟩
    · obtain rfl := Option.some.inj (show ops24[7]? = some o from ho)
      refine og_same rfl rfl ((c10 w _ _ hM (hv 5 (by decide) rfl (he ⟨5, .data⟩ (by simp) rfl)) (hv 6 (by decide) rfl (he ⟨6, .data⟩ (by simp) rfl))).mono ?_)
      rintro e w' ⟨rfl, hb⟩
      exact ⟨_, rfl, _, rfl, rfl, hb, bnx hM hb⟩
    · obtain rfl := Option.some.inj (show ops24[8]? = some o from ho)
      exact og_pkT (hv 4 (by decide) rfl (he ⟨4, .data⟩ (by simp) rfl) : slot a 108 = .bool true) (hv 7 (by decide) rfl (he ⟨7, .data⟩ (by simp) rfl) : slot a 111 = .bool true) ⟨_, rfl, rfl, Below.refl _ _, hM⟩
    · obtain rfl := Option.some.inj (show ops24[9]? = some o from ho)
      exact og_mv (hv 8 (by decide) rfl (he ⟨8, .data⟩ (by simp) rfl) : slot a 112 = .bool true) ⟨_, rfl, rfl, Below.refl _ _, hM⟩
    · obtain rfl := Option.some.inj (show ops24[10]? = some o from ho)
      exact og_ia2 f11 ⟨_, rfl, rfl, Below.refl _ _, hM⟩
    · obtain rfl := Option.some.inj (show ops24[11]? = some o from ho)
      exact og_ldB (hv 10 (by decide) rfl (he ⟨10, .data⟩ (by simp) rfl) : slot a 114 = .pointer (some ⟨h11, 8, none⟩)) ((hM.cell (p := ⟨h11, 8, none⟩) hlt).trans k8) ((hM.cell (p := ⟨h11, 9, none⟩) hlt).trans k9) ((hM.cell (p := ⟨h11, 10, none⟩) hlt).trans k10) ((hM.cell (p := ⟨h11, 11, none⟩) hlt).trans k11) ⟨_, rfl, rfl, Below.refl _ _, hM⟩
    · obtain rfl := Option.some.inj (show ops24[12]? = some o from ho)
      exact og_ldB f17 (hBg.next hM).c0 (hBg.next hM).c1 (hBg.next hM).c2 (hBg.next hM).c3 ⟨_, rfl, rfl, Below.refl _ _, hM⟩
    · obtain rfl := Option.some.inj (show ops24[13]? = some o from ho)
      exact og_eqB bX2 bXL e2 (hv 11 (by decide) rfl (he ⟨11, .data⟩ (by simp) rfl) : slot a 115 = A4 X2) (hv 12 (by decide) rfl (he ⟨12, .data⟩ (by simp) rfl) : slot a 116 = A4 XL) ⟨_, rfl, rfl, Below.refl _ _, hM⟩
    · obtain rfl := Option.some.inj (show ops24[14]? = some o from ho)
      exact og_pkT (hv 9 (by decide) rfl (he ⟨9, .data⟩ (by simp) rfl) : slot a 113 = .bool true) (hv 13 (by decide) rfl (he ⟨13, .data⟩ (by simp) rfl) : slot a 117 = .bool true) ⟨_, rfl, rfl, Below.refl _ _, hM⟩
    · obtain rfl := Option.some.inj (show ops24[15]? = some o from ho)
      exact og_mv (hv 14 (by decide) rfl (he ⟨14, .data⟩ (by simp) rfl) : slot a 118 = .bool true) ⟨_, rfl, rfl, Below.refl _ _, hM⟩
    · obtain rfl := Option.some.inj (show ops24[16]? = some o from ho)
      exact og_ia0 f11 ⟨_, rfl, rfl, Below.refl _ _, hM⟩
    · obtain rfl := Option.some.inj (show ops24[17]? = some o from ho)
      exact og_ldB (hv 16 (by decide) rfl (he ⟨16, .data⟩ (by simp) rfl) : slot a 120 = .pointer (some ⟨h11, 0, none⟩)) ((hM.cell (p := ⟨h11, 0, none⟩) hlt).trans k0) ((hM.cell (p := ⟨h11, 1, none⟩) hlt).trans k1) ((hM.cell (p := ⟨h11, 2, none⟩) hlt).trans k2) ((hM.cell (p := ⟨h11, 3, none⟩) hlt).trans k3) ⟨_, rfl, rfl, Below.refl _ _, hM⟩
    · obtain rfl := Option.some.inj (show ops24[18]? = some o from ho)
      exact og_ldB f17 (hBg.next hM).c0 (hBg.next hM).c1 (hBg.next hM).c2 (hBg.next hM).c3 ⟨_, rfl, rfl, Below.refl _ _, hM⟩
    · obtain rfl := Option.some.inj (show ops24[19]? = some o from ho)
      exact og_eqB bX0 bXL e0 (hv 17 (by decide) rfl (he ⟨17, .data⟩ (by simp) rfl) : slot a 121 = A4 X0) (hv 18 (by decide) rfl (he ⟨18, .data⟩ (by simp) rfl) : slot a 122 = A4 XL) ⟨_, rfl, rfl, Below.refl _ _, hM⟩
    · obtain rfl := Option.some.inj (show ops24[20]? = some o from ho)
      exact og_mv (hv 19 (by decide) rfl (he ⟨19, .data⟩ (by simp) rfl) : slot a 123 = .bool false) ⟨_, rfl, rfl, Below.refl _ _, hM⟩
    · obtain rfl := Option.some.inj (show ops24[21]? = some o from ho)
      exact og_ia0 f11 ⟨_, rfl, rfl, Below.refl _ _, hM⟩
    · obtain rfl := Option.some.inj (show ops24[22]? = some o from ho)
      exact og_ldB (hv 21 (by decide) rfl (he ⟨21, .data⟩ (by simp) rfl) : slot a 125 = .pointer (some ⟨h11, 0, none⟩)) ((hM.cell (p := ⟨h11, 0, none⟩) hlt).trans k0) ((hM.cell (p := ⟨h11, 1, none⟩) hlt).trans k1) ((hM.cell (p := ⟨h11, 2, none⟩) hlt).trans k2) ((hM.cell (p := ⟨h11, 3, none⟩) hlt).trans k3) ⟨_, rfl, rfl, Below.refl _ _, hM⟩
    · obtain rfl := Option.some.inj (show ops24[23]? = some o from ho)
      exact og_ldB f18 (hBh.next hM).c0 (hBh.next hM).c1 (hBh.next hM).c2 (hBh.next hM).c3 ⟨_, rfl, rfl, Below.refl _ _, hM⟩
    · obtain rfl := Option.some.inj (show ops24[24]? = some o from ho)
      exact og_eqB bX0 bXH e0h (hv 22 (by decide) rfl (he ⟨22, .data⟩ (by simp) rfl) : slot a 126 = A4 X0) (hv 23 (by decide) rfl (he ⟨23, .data⟩ (by simp) rfl) : slot a 127 = A4 XH) ⟨_, rfl, rfl, Below.refl _ _, hM⟩
    · obtain rfl := Option.some.inj (show ops24[25]? = some o from ho)
      exact og_pkF (hv 20 (by decide) rfl (he ⟨20, .data⟩ (by simp) rfl) : slot a 124 = .bool false) (hv 24 (by decide) rfl (he ⟨24, .data⟩ (by simp) rfl) : slot a 128 = .bool true) ⟨_, rfl, rfl, Below.refl _ _, hM⟩
    · obtain rfl := Option.some.inj (show ops24[26]? = some o from ho)
      exact og_pkT (hv 15 (by decide) rfl (he ⟨15, .data⟩ (by simp) rfl) : slot a 119 = .bool true) (hv 25 (by decide) rfl (he ⟨25, .data⟩ (by simp) rfl) : slot a 129 = .bool true) ⟨_, rfl, rfl, Below.refl _ _, hM⟩
    · obtain rfl := Option.some.inj (show ops24[27]? = some o from ho)
      exact og_mv (hv 26 (by decide) rfl (he ⟨26, .data⟩ (by simp) rfl) : slot a 130 = .bool true) ⟨_, rfl, rfl, Below.refl _ _, hM⟩
    · obtain rfl := Option.some.inj (show ops24[28]? = some o from ho)
      exact og_ia1 f11 ⟨_, rfl, rfl, Below.refl _ _, hM⟩
    · obtain rfl := Option.some.inj (show ops24[29]? = some o from ho)
      exact og_ldB (hv 28 (by decide) rfl (he ⟨28, .data⟩ (by simp) rfl) : slot a 132 = .pointer (some ⟨h11, 4, none⟩)) ((hM.cell (p := ⟨h11, 4, none⟩) hlt).trans k4) ((hM.cell (p := ⟨h11, 5, none⟩) hlt).trans k5) ((hM.cell (p := ⟨h11, 6, none⟩) hlt).trans k6) ((hM.cell (p := ⟨h11, 7, none⟩) hlt).trans k7) ⟨_, rfl, rfl, Below.refl _ _, hM⟩
    · obtain rfl := Option.some.inj (show ops24[30]? = some o from ho)
      exact og_ldB f17 (hBg.next hM).c0 (hBg.next hM).c1 (hBg.next hM).c2 (hBg.next hM).c3 ⟨_, rfl, rfl, Below.refl _ _, hM⟩
    · obtain rfl := Option.some.inj (show ops24[31]? = some o from ho)
      exact og_eqB bX1 bXL e1 (hv 29 (by decide) rfl (he ⟨29, .data⟩ (by simp) rfl) : slot a 133 = A4 X1) (hv 30 (by decide) rfl (he ⟨30, .data⟩ (by simp) rfl) : slot a 134 = A4 XL) ⟨_, rfl, rfl, Below.refl _ _, hM⟩
    · obtain rfl := Option.some.inj (show ops24[32]? = some o from ho)
      exact og_mv (hv 31 (by decide) rfl (he ⟨31, .data⟩ (by simp) rfl) : slot a 135 = .bool false) ⟨_, rfl, rfl, Below.refl _ _, hM⟩
    · obtain rfl := Option.some.inj (show ops24[33]? = some o from ho)
      exact og_ia1 f11 ⟨_, rfl, rfl, Below.refl _ _, hM⟩
    · obtain rfl := Option.some.inj (show ops24[34]? = some o from ho)
      exact og_ldB (hv 33 (by decide) rfl (he ⟨33, .data⟩ (by simp) rfl) : slot a 137 = .pointer (some ⟨h11, 4, none⟩)) ((hM.cell (p := ⟨h11, 4, none⟩) hlt).trans k4) ((hM.cell (p := ⟨h11, 5, none⟩) hlt).trans k5) ((hM.cell (p := ⟨h11, 6, none⟩) hlt).trans k6) ((hM.cell (p := ⟨h11, 7, none⟩) hlt).trans k7) ⟨_, rfl, rfl, Below.refl _ _, hM⟩
    · obtain rfl := Option.some.inj (show ops24[35]? = some o from ho)
      exact og_ldB f18 (hBh.next hM).c0 (hBh.next hM).c1 (hBh.next hM).c2 (hBh.next hM).c3 ⟨_, rfl, rfl, Below.refl _ _, hM⟩
    · obtain rfl := Option.some.inj (show ops24[36]? = some o from ho)
      exact og_eqB bX1 bXH e1h (hv 34 (by decide) rfl (he ⟨34, .data⟩ (by simp) rfl) : slot a 138 = A4 X1) (hv 35 (by decide) rfl (he ⟨35, .data⟩ (by simp) rfl) : slot a 139 = A4 XH) ⟨_, rfl, rfl, Below.refl _ _, hM⟩
    · obtain rfl := Option.some.inj (show ops24[37]? = some o from ho)
      exact og_pkF (hv 32 (by decide) rfl (he ⟨32, .data⟩ (by simp) rfl) : slot a 136 = .bool false) (hv 36 (by decide) rfl (he ⟨36, .data⟩ (by simp) rfl) : slot a 140 = .bool true) ⟨_, rfl, rfl, Below.refl _ _, hM⟩
    · obtain rfl := Option.some.inj (show ops24[38]? = some o from ho)
      exact og_pkT (hv 27 (by decide) rfl (he ⟨27, .data⟩ (by simp) rfl) : slot a 131 = .bool true) (hv 37 (by decide) rfl (he ⟨37, .data⟩ (by simp) rfl) : slot a 141 = .bool true) ⟨_, rfl, rfl, Below.refl _ _, hM⟩
  · intro L a w hL hM hsz hdf hF hv
    have z0 : slot a 142 = .bool true := hv 38 (by decide) rfl
    refine BigFrame.wpList_want rfl fun K hK => og_as z0 (hK _ _ ?_)
    clear K hK
    exact hQ _ _ (slot_put (by omega)) (by simp [Act.put, hsz]) hdf hM
end Go.Proofs.YtpfnfaekgaipjaaDoor
