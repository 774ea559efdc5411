/-
  Single operations over a frame of which only some slots are known.
-/
import Derived.Test.YtbbjkpcccimcbaaKp
import Derived.Test.YtbbjkpcccimcbaaOrd
import Derived.BigQuiet
set_option linter.unusedVariables false
set_option linter.unusedSimpArgs false
namespace Go.Proofs.Ytbbjkpcccimcbaa
open Go.RowKit

section
variable {d p q : Nat} {ty : TypeId} {pos : String} {after : Array Edge} {a : Act} {w : World} {K : Act → World → Prop} {Q : Exit → Act → World → Prop} {g : Nat} {x z : Nat → Int}

theorem op_ia (h1 : slot a p = .pointer (some ⟨g, 0, none⟩)) (hK : K (a.put (some d) (.pointer (some ⟨g, 0, none⟩))) w) : Oper.wp Try.prog { dst := some d, op := Op.indexAddr 23 (Operand.tmp p) (Operand.const (Value.int IntKind.i64 0)), type := ty, pos := pos, after := after, guard := none } a w K Q := by
  unfold slot at h1
  simp [go_sem, h1]
  exact hK
theorem op_load1 (h1 : slot a p = .pointer (some ⟨g, 0, none⟩)) (h2 : HasN g 8 x w) (hK : K (a.put (some d) (.int .u64 (x 0))) w) : Oper.wp Try.prog { dst := some d, op := Op.load 22 (Operand.tmp p), type := ty, pos := pos, after := after, guard := none } a w K Q := by
  unfold slot at h1
  have h3 := h2.2
  simp [go_sem, h1, h3]
  exact hK
theorem op_load8 (h1 : slot a p = .pointer (some ⟨g, 0, none⟩)) (h2 : HasN g 8 x w) (hK : K (a.put (some d) (.agg (arrOf x 8))) w) : Oper.wp Try.prog { dst := some d, op := Op.load 23 (Operand.tmp p), type := ty, pos := pos, after := after, guard := none } a w K Q := by
  unfold slot at h1
  have h3 := h2.2
  simp [go_sem, h1, h3]
  exact hK
theorem op_build1 (h1 : slot a p = .int .u64 (x 0)) (hK : K (a.put (some d) (.agg (arrOf x 1))) w) : Oper.wp Try.prog { dst := some d, op := Op.build 25 #[(0, Operand.tmp p)], type := ty, pos := pos, after := after, guard := none } a w K Q := by
  unfold slot at h1
  simp [go_sem, h1]
  exact hK
theorem op_move {v : Value} (h1 : slot a p = v) (hK : K (a.put (some d) v) w) : Oper.wp Try.prog { dst := some d, op := Op.move (Operand.tmp p), type := ty, pos := pos, after := after, guard := none } a w K Q := by
  unfold slot at h1
  simp [go_sem, h1]
  exact hK
/-- a block of N noughts, made behind the first base ones -/
def Blk (N base : Nat) (v : Value) (w : World) : Prop := ∃ g, v = .pointer (some ⟨g, 0, none⟩) ∧ base ≤ g ∧ HasN g N (fun _ => 0) w ∧ w.cell? ⟨g, N, none⟩ = none ∧ ∀ i, w.frozen? ⟨g, i, none⟩ = false
theorem Blk.stays (N base : Nat) : Stays (Blk N base) := by
  rintro v w w' ⟨g, h1, h2, h3, h4, h5⟩ hb
  exact ⟨g, h1, h2, h3.next hb, (hb.cell (p := ⟨g, N, none⟩) h3.1).trans h4, fun i => (hb.frozen (p := ⟨g, i, none⟩) h3.1).trans (h5 i)⟩
def isV (c : Value) (v : Value) (_ : World) : Prop := v = c
theorem isV.stays (c : Value) : Stays (isV c) := fun _ _ _ h _ => h

theorem tmps_range (a : Act) (m : Nat) (h : a.tmps.size = m) : a.tmps = ((List.range m).map (slot a)).toArray := by
  apply Array.ext
  · simp [h]
  · intro i h1 h2
    simp [slot, h1]

theorem putN_other {g g' i : Nat} (hne : g' ≠ g) (x : Nat → Int) : ∀ n, (putN w g' x n).cell? ⟨g, i, none⟩ = w.cell? ⟨g, i, none⟩
  | 0 => rfl
  | n + 1 => by
    show ((putN w g' x n).setCell ⟨g', n, none⟩ _).cell? _ = _
    rw [← putN_other hne x n]
    exact World.cell?_of_block (Below.heap_setCell _ _ _ g (Ne.symm hne))
theorem putN_frozen {g g' i : Nat} (hne : g' ≠ g) (x : Nat → Int) : ∀ n, (putN w g' x n).frozen? ⟨g, i, none⟩ = w.frozen? ⟨g, i, none⟩
  | 0 => rfl
  | n + 1 => by
    show ((putN w g' x n).setCell ⟨g', n, none⟩ _).frozen? _ = _
    rw [← putN_frozen hne x n]
    exact World.frozen?_of_block (Below.heap_setCell _ _ _ g (Ne.symm hne))
theorem HasN.put_ne {g g' n m : Nat} (h : HasN g n x w) (hne : g' ≠ g) (y : Nat → Int) : HasN g n x (putN w g' y m) :=
  ⟨Nat.lt_of_lt_of_le h.1 (putN_size w g' y m), fun i hi => by rw [putN_other hne]; exact h.2 i hi⟩
theorem HasN.put {g n : Nat} (h : HasN g n z w) : HasN g n x (putN w g x n) :=
  ⟨Nat.lt_of_lt_of_le h.1 (putN_size w g x n), fun i hi => by rw [putN_cell w g n x (fun i hi => by rw [h.2 i hi]; rfl) n (Nat.le_refl _) i hi, if_pos hi]⟩
theorem putN_below {B : Nat} {w0 : World} (h : Below B w0 w) (hg : B ≤ g) (x : Nat → Int) : ∀ n, Below B w0 (putN w g x n)
  | 0 => h
  | n + 1 => (putN_below h hg x n).setCell hg _
/-- blocks of unlike lengths are unlike -/
theorem HasN.apart {g g' n m : Nat} (h : HasN g n x w) (hm : m < n) (h' : w.cell? ⟨g', m, none⟩ = none) : g ≠ g' := by
  intro e
  subst e
  rw [h.2 m hm] at h'
  cases h'
end
section
variable {d p q : Nat} {ty : TypeId} {pos : String} {after : Array Edge} {a : Act} {w : World} {K : Act → World → Prop} {Q : Exit → Act → World → Prop} {g : Nat} {x z : Nat → Int}
theorem op_alloc1 (hK : K (a.put (some d) (.pointer (some ⟨w.heap.size, 0, none⟩))) (w.alloc (.cells #[.int .u64 0] 25))) : Oper.wp Try.prog { dst := some d, op := Op.alloc 25, type := ty, pos := pos, after := after, guard := none } a w K Q := by
  simp [go_sem]
  exact hK
theorem op_store1 (h1 : slot a p = .pointer (some ⟨g, 0, none⟩)) (h2 : slot a q = .agg (arrOf x 1)) (hz : HasN g 1 z w) (hf : ∀ i, w.frozen? ⟨g, i, none⟩ = false) (hK : K a (putN w g x 1)) : Oper.wp Try.prog { dst := none, op := Op.store 25 (Operand.tmp p) (Operand.tmp q), type := ty, pos := pos, after := after, guard := none } a w K Q := by
  unfold slot at h1 h2
  have h3 := hz.2
  have e : arrOf x 1 = #[.int .u64 (x 0)] := rfl
  rw [e] at h2
  simp [go_sem, h1, h2, h3, hf]
  exact hK
theorem blk1 (base : Nat) (hb : base ≤ w.heap.size) : Blk 1 base (.pointer (some ⟨w.heap.size, 0, none⟩)) (w.alloc (.cells #[.int .u64 0] 25)) :=
  ⟨_, rfl, hb, HasN.of_alloc w _ _ 1 _ (fun i hi => match i, hi with | 0, _ => rfl), by rw [World.cell?_alloc_new]; rfl, fun i => World.frozen?_alloc_new ..⟩
theorem op_alloc2 (hK : K (a.put (some d) (.pointer (some ⟨w.heap.size, 0, none⟩))) (w.alloc (.cells #[.int .u64 0, .int .u64 0] 28))) : Oper.wp Try.prog { dst := some d, op := Op.alloc 28, type := ty, pos := pos, after := after, guard := none } a w K Q := by
  simp [go_sem]
  exact hK
theorem op_store2 (h1 : slot a p = .pointer (some ⟨g, 0, none⟩)) (h2 : slot a q = .agg (arrOf x 2)) (hz : HasN g 2 z w) (hf : ∀ i, w.frozen? ⟨g, i, none⟩ = false) (hK : K a (putN w g x 2)) : Oper.wp Try.prog { dst := none, op := Op.store 28 (Operand.tmp p) (Operand.tmp q), type := ty, pos := pos, after := after, guard := none } a w K Q := by
  unfold slot at h1 h2
  have h3 := hz.2
  have e : arrOf x 2 = #[.int .u64 (x 0), .int .u64 (x 1)] := rfl
  rw [e] at h2
  simp [go_sem, h1, h2, h3, hf]
  exact hK
theorem blk2 (base : Nat) (hb : base ≤ w.heap.size) : Blk 2 base (.pointer (some ⟨w.heap.size, 0, none⟩)) (w.alloc (.cells #[.int .u64 0, .int .u64 0] 28)) :=
  ⟨_, rfl, hb, HasN.of_alloc w _ _ 2 _ (fun i hi => match i, hi with | 0, _ => rfl | 1, _ => rfl), by rw [World.cell?_alloc_new]; rfl, fun i => World.frozen?_alloc_new ..⟩
theorem op_alloc4 (hK : K (a.put (some d) (.pointer (some ⟨w.heap.size, 0, none⟩))) (w.alloc (.cells #[.int .u64 0, .int .u64 0, .int .u64 0, .int .u64 0] 32))) : Oper.wp Try.prog { dst := some d, op := Op.alloc 32, type := ty, pos := pos, after := after, guard := none } a w K Q := by
  simp [go_sem]
  exact hK
theorem op_store4 (h1 : slot a p = .pointer (some ⟨g, 0, none⟩)) (h2 : slot a q = .agg (arrOf x 4)) (hz : HasN g 4 z w) (hf : ∀ i, w.frozen? ⟨g, i, none⟩ = false) (hK : K a (putN w g x 4)) : Oper.wp Try.prog { dst := none, op := Op.store 32 (Operand.tmp p) (Operand.tmp q), type := ty, pos := pos, after := after, guard := none } a w K Q := by
  unfold slot at h1 h2
  have h3 := hz.2
  have e : arrOf x 4 = #[.int .u64 (x 0), .int .u64 (x 1), .int .u64 (x 2), .int .u64 (x 3)] := rfl
  rw [e] at h2
  simp [go_sem, h1, h2, h3, hf]
  exact hK
theorem blk4 (base : Nat) (hb : base ≤ w.heap.size) : Blk 4 base (.pointer (some ⟨w.heap.size, 0, none⟩)) (w.alloc (.cells #[.int .u64 0, .int .u64 0, .int .u64 0, .int .u64 0] 32)) :=
  ⟨_, rfl, hb, HasN.of_alloc w _ _ 4 _ (fun i hi => match i, hi with | 0, _ => rfl | 1, _ => rfl | 2, _ => rfl | 3, _ => rfl), by rw [World.cell?_alloc_new]; rfl, fun i => World.frozen?_alloc_new ..⟩
theorem op_alloc8 (hK : K (a.put (some d) (.pointer (some ⟨w.heap.size, 0, none⟩))) (w.alloc (.cells #[.int .u64 0, .int .u64 0, .int .u64 0, .int .u64 0, .int .u64 0, .int .u64 0, .int .u64 0, .int .u64 0] 23))) : Oper.wp Try.prog { dst := some d, op := Op.alloc 23, type := ty, pos := pos, after := after, guard := none } a w K Q := by
  simp [go_sem]
  exact hK
theorem op_store8 (h1 : slot a p = .pointer (some ⟨g, 0, none⟩)) (h2 : slot a q = .agg (arrOf x 8)) (hz : HasN g 8 z w) (hf : ∀ i, w.frozen? ⟨g, i, none⟩ = false) (hK : K a (putN w g x 8)) : Oper.wp Try.prog { dst := none, op := Op.store 23 (Operand.tmp p) (Operand.tmp q), type := ty, pos := pos, after := after, guard := none } a w K Q := by
  unfold slot at h1 h2
  have h3 := hz.2
  have e : arrOf x 8 = #[.int .u64 (x 0), .int .u64 (x 1), .int .u64 (x 2), .int .u64 (x 3), .int .u64 (x 4), .int .u64 (x 5), .int .u64 (x 6), .int .u64 (x 7)] := rfl
  rw [e] at h2
  simp [go_sem, h1, h2, h3, hf]
  exact hK
theorem blk8 (base : Nat) (hb : base ≤ w.heap.size) : Blk 8 base (.pointer (some ⟨w.heap.size, 0, none⟩)) (w.alloc (.cells #[.int .u64 0, .int .u64 0, .int .u64 0, .int .u64 0, .int .u64 0, .int .u64 0, .int .u64 0, .int .u64 0] 23)) :=
  ⟨_, rfl, hb, HasN.of_alloc w _ _ 8 _ (fun i hi => match i, hi with | 0, _ => rfl | 1, _ => rfl | 2, _ => rfl | 3, _ => rfl | 4, _ => rfl | 5, _ => rfl | 6, _ => rfl | 7, _ => rfl), by rw [World.cell?_alloc_new]; rfl, fun i => World.frozen?_alloc_new ..⟩
theorem op_c12 {u v : Value} {ts : Array TypeId} (h1 : slot a p = u) (hc : Calls Try.prog 12 #[u] w fun e w' => e = .returned v ∧ Below w.heap.size w w') (hK : ∀ w', Below w.heap.size w w' → K (a.put (some d) v) w') : Oper.wp Try.prog { dst := some d, op := Op.call { callee := Callee.value (Operand.func 12), args := #[Operand.tmp p], argTypes := ts }, type := ty, pos := pos, after := after, guard := none } a w K Q := by
  unfold slot at h1
  simp [go_sem, h1]
  refine hc.mono ?_
  rintro e w' ⟨rfl, hb⟩
  exact hK w' hb
theorem op_c14 {u v : Value} {ts : Array TypeId} (h1 : slot a p = u) (hc : Calls Try.prog 14 #[u] w fun e w' => e = .returned v ∧ Below w.heap.size w w') (hK : ∀ w', Below w.heap.size w w' → K (a.put (some d) v) w') : Oper.wp Try.prog { dst := some d, op := Op.call { callee := Callee.value (Operand.func 14), args := #[Operand.tmp p], argTypes := ts }, type := ty, pos := pos, after := after, guard := none } a w K Q := by
  unfold slot at h1
  simp [go_sem, h1]
  refine hc.mono ?_
  rintro e w' ⟨rfl, hb⟩
  exact hK w' hb
theorem op_c27 {u u' v : Value} {ts : Array TypeId} (h1 : slot a p = u) (h2 : slot a q = u') (hc : Calls Try.prog 27 #[u, u'] w fun e w' => e = .returned v ∧ Below w.heap.size w w') (hK : ∀ w', Below w.heap.size w w' → K (a.put (some d) v) w') : Oper.wp Try.prog { dst := some d, op := Op.call { callee := Callee.value (Operand.func 27), args := #[Operand.tmp p, Operand.tmp q], argTypes := ts }, type := ty, pos := pos, after := after, guard := none } a w K Q := by
  unfold slot at h1 h2
  simp [go_sem, h1, h2]
  refine hc.mono ?_
  rintro e w' ⟨rfl, hb⟩
  exact hK w' hb
theorem op_c28 {u u' v : Value} {ts : Array TypeId} (h1 : slot a p = u) (h2 : slot a q = u') (hc : Calls Try.prog 28 #[u, u'] w fun e w' => e = .returned v ∧ Below w.heap.size w w') (hK : ∀ w', Below w.heap.size w w' → K (a.put (some d) v) w') : Oper.wp Try.prog { dst := some d, op := Op.call { callee := Callee.value (Operand.func 28), args := #[Operand.tmp p, Operand.tmp q], argTypes := ts }, type := ty, pos := pos, after := after, guard := none } a w K Q := by
  unfold slot at h1 h2
  simp [go_sem, h1, h2]
  refine hc.mono ?_
  rintro e w' ⟨rfl, hb⟩
  exact hK w' hb
theorem op_c29 {u u' v : Value} {ts : Array TypeId} (h1 : slot a p = u) (h2 : slot a q = u') (hc : Calls Try.prog 29 #[u, u'] w fun e w' => e = .returned v ∧ Below w.heap.size w w') (hK : ∀ w', Below w.heap.size w w' → K (a.put (some d) v) w') : Oper.wp Try.prog { dst := some d, op := Op.call { callee := Callee.value (Operand.func 29), args := #[Operand.tmp p, Operand.tmp q], argTypes := ts }, type := ty, pos := pos, after := after, guard := none } a w K Q := by
  unfold slot at h1 h2
  simp [go_sem, h1, h2]
  refine hc.mono ?_
  rintro e w' ⟨rfl, hb⟩
  exact hK w' hb
theorem op_c30 {u u' v : Value} {ts : Array TypeId} (h1 : slot a p = u) (h2 : slot a q = u') (hc : Calls Try.prog 30 #[u, u'] w fun e w' => e = .returned v ∧ Below w.heap.size w w') (hK : ∀ w', Below w.heap.size w w' → K (a.put (some d) v) w') : Oper.wp Try.prog { dst := some d, op := Op.call { callee := Callee.value (Operand.func 30), args := #[Operand.tmp p, Operand.tmp q], argTypes := ts }, type := ty, pos := pos, after := after, guard := none } a w K Q := by
  unfold slot at h1 h2
  simp [go_sem, h1, h2]
  refine hc.mono ?_
  rintro e w' ⟨rfl, hb⟩
  exact hK w' hb
theorem op_c31 {u u' v : Value} {ts : Array TypeId} (h1 : slot a p = u) (h2 : slot a q = u') (hc : Calls Try.prog 31 #[u, u'] w fun e w' => e = .returned v ∧ Below w.heap.size w w') (hK : ∀ w', Below w.heap.size w w' → K (a.put (some d) v) w') : Oper.wp Try.prog { dst := some d, op := Op.call { callee := Callee.value (Operand.func 31), args := #[Operand.tmp p, Operand.tmp q], argTypes := ts }, type := ty, pos := pos, after := after, guard := none } a w K Q := by
  unfold slot at h1 h2
  simp [go_sem, h1, h2]
  refine hc.mono ?_
  rintro e w' ⟨rfl, hb⟩
  exact hK w' hb
theorem op_c32 {u u' v : Value} {ts : Array TypeId} (h1 : slot a p = u) (h2 : slot a q = u') (hc : Calls Try.prog 32 #[u, u'] w fun e w' => e = .returned v ∧ Below w.heap.size w w') (hK : ∀ w', Below w.heap.size w w' → K (a.put (some d) v) w') : Oper.wp Try.prog { dst := some d, op := Op.call { callee := Callee.value (Operand.func 32), args := #[Operand.tmp p, Operand.tmp q], argTypes := ts }, type := ty, pos := pos, after := after, guard := none } a w K Q := by
  unfold slot at h1 h2
  simp [go_sem, h1, h2]
  refine hc.mono ?_
  rintro e w' ⟨rfl, hb⟩
  exact hK w' hb
theorem op_c33 {u u' v : Value} {ts : Array TypeId} (h1 : slot a p = u) (h2 : slot a q = u') (hc : Calls Try.prog 33 #[u, u'] w fun e w' => e = .returned v ∧ Below w.heap.size w w') (hK : ∀ w', Below w.heap.size w w' → K (a.put (some d) v) w') : Oper.wp Try.prog { dst := some d, op := Op.call { callee := Callee.value (Operand.func 33), args := #[Operand.tmp p, Operand.tmp q], argTypes := ts }, type := ty, pos := pos, after := after, guard := none } a w K Q := by
  unfold slot at h1 h2
  simp [go_sem, h1, h2]
  refine hc.mono ?_
  rintro e w' ⟨rfl, hb⟩
  exact hK w' hb
theorem op_c34 {u u' v : Value} {ts : Array TypeId} (h1 : slot a p = u) (h2 : slot a q = u') (hc : Calls Try.prog 34 #[u, u'] w fun e w' => e = .returned v ∧ Below w.heap.size w w') (hK : ∀ w', Below w.heap.size w w' → K (a.put (some d) v) w') : Oper.wp Try.prog { dst := some d, op := Op.call { callee := Callee.value (Operand.func 34), args := #[Operand.tmp p, Operand.tmp q], argTypes := ts }, type := ty, pos := pos, after := after, guard := none } a w K Q := by
  unfold slot at h1 h2
  simp [go_sem, h1, h2]
  refine hc.mono ?_
  rintro e w' ⟨rfl, hb⟩
  exact hK w' hb
end
end Go.Proofs.Ytbbjkpcccimcbaa
