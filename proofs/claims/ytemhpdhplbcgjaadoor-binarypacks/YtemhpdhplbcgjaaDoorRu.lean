/-
  What the document's own Unpack does, up to its fields.
-/
import Derived.Test.YtemhpdhplbcgjaaDoorRl
import Derived.Test.YtemhpdhplbcgjaaDoorOa
set_option linter.unusedVariables false
set_option linter.unusedSectionVars false
set_option linter.unusedSimpArgs false
set_option maxRecDepth 20000
namespace Go.Proofs.YtemhpdhplbcgjaaDoor
open Go.RowKit

theorem NT.stays (K V : Nat) : Stays (NT K V) := fun v w w' h hb => h.next hb
section
variable {a : Act} {w : World} {K : Act → World → Prop} {Q : Exit → Act → World → Prop} {d p q r : Nat} {ty : TypeId} {pos : String} {after : Array Edge} {gd : Option (Nat × Bool)}
theorem op_mv {v : Value} (h1 : slot a p = v) (hK : K (a.put (some d) v) w) : Oper.wp Tryd.prog { dst := some d, op := Op.move (Operand.tmp p), type := ty, pos := pos, after := after, guard := gd } a w K Q := by
  unfold slot at h1
  simp [go_sem, h1]
  exact hK
theorem op_as {v : Value} (h1 : slot a p = v) (hK : K (a.put (some d) v) w) : Oper.wp Tryd.prog { dst := some d, op := Op.assign (Operand.tmp p), type := ty, pos := pos, after := after, guard := gd } a w K Q := by
  unfold slot at h1
  simp [go_sem, h1]
  exact hK
theorem op_fa5 {g : Nat} (h1 : slot a p = .pointer (some ⟨g, 0, none⟩)) (hK : K (a.put (some d) (.pointer (some ⟨g, 5, none⟩))) w) : Oper.wp Tryd.prog { dst := some d, op := Op.fieldAddr 52 (Operand.tmp p) 5, type := ty, pos := pos, after := after, guard := gd } a w K Q := by
  unfold slot at h1
  simp [go_sem, h1]
  exact hK
theorem op_ld {g i : Nat} {x : Int} (h1 : slot a p = .pointer (some ⟨g, i, none⟩)) (h2 : w.cell? ⟨g, i, none⟩ = some (.int .i64 x)) (hK : K (a.put (some d) (.int .i64 x)) w) : Oper.wp Tryd.prog { dst := some d, op := Op.load 3 (Operand.tmp p), type := ty, pos := pos, after := after, guard := gd } a w K Q := by
  unfold slot at h1
  simp [go_sem, h1, h2]
  exact hK
theorem op_ld24 {g : Nat} {B : Nat} (h1 : slot a p = .pointer (some ⟨g, 0, none⟩)) (h2 : ∀ i, i < 4 → w.cell? ⟨g, i, none⟩ = some (.int .u64 (W4 B i))) (hK : K (a.put (some d) (A4 B)) w) : Oper.wp Tryd.prog { dst := some d, op := Op.load 24 (Operand.tmp p), type := ty, pos := pos, after := after, guard := gd } a w K Q := by
  unfold slot at h1
  have c0 := h2 0 (by decide)
  have c1 := h2 1 (by decide)
  have c2 := h2 2 (by decide)
  have c3 := h2 3 (by decide)
  simp [go_sem, h1, c0, c1, c2, c3]
  exact hK
theorem op_c26z {u u' : Value} {z : Int} {ts : Array TypeId} (h1 : slot a p = u) (h2 : slot a q = u') (hc : Calls Tryd.prog 26 #[u, .int .i64 z, u'] w fun e w' => ∃ v, e = .returned v ∧ K (a.put (some d) v) w') : Oper.wp Tryd.prog { dst := some d, op := Op.call { callee := Callee.value (Operand.func 26), args := #[Operand.tmp p, Operand.const (.int .i64 z), Operand.tmp q], argTypes := ts }, type := ty, pos := pos, after := after, guard := gd } a w K Q := by
  unfold slot at h1 h2
  simp [go_sem, h1, h2]
  refine hc.mono ?_
  rintro e w' ⟨v, rfl, hK⟩
  exact hK
theorem op_c26 {u u' u'' : Value} {ts : Array TypeId} (h1 : slot a p = u) (h2 : slot a q = u') (h3 : slot a r = u'') (hc : Calls Tryd.prog 26 #[u, u', u''] w fun e w' => ∃ v, e = .returned v ∧ K (a.put (some d) v) w') : Oper.wp Tryd.prog { dst := some d, op := Op.call { callee := Callee.value (Operand.func 26), args := #[Operand.tmp p, Operand.tmp q, Operand.tmp r], argTypes := ts }, type := ty, pos := pos, after := after, guard := gd } a w K Q := by
  unfold slot at h1 h2 h3
  simp [go_sem, h1, h2, h3]
  refine hc.mono ?_
  rintro e w' ⟨v, rfl, hK⟩
  exact hK
theorem op_c27 {u : Value} {ts : Array TypeId} (h1 : slot a p = u) (hc : Calls Tryd.prog 27 #[u] w fun e w' => ∃ v, e = .returned v ∧ K (a.put (some d) v) w') : Oper.wp Tryd.prog { dst := some d, op := Op.call { callee := Callee.value (Operand.func 27), args := #[Operand.tmp p], argTypes := ts }, type := ty, pos := pos, after := after, guard := gd } a w K Q := by
  unfold slot at h1
  simp [go_sem, h1]
  refine hc.mono ?_
  rintro e w' ⟨v, rfl, hK⟩
  exact hK
end
noncomputable def ops5 : List Oper := match Tryd.f11.body with
  | some (.seq _ (.seq _ (.seq _ (.seq _ (.seq (.region _ o _) _))))) => o.toList
  | _ => []
def slots5 : List Nat := [25, 26, 27, 28, 29, 30, 31, 32, 33, 9, 10]
set_option maxHeartbeats 4000000 in
theorem reg5 {gb gi f e B Fr En : Nat} {a0 : Act} {ws : World} {Q : Exit → Act → World → Prop} (c0 : ∀ w, Calls Tryd.prog 26 #[A4 B, .int .i64 0, .int .i64 f] w fun x w' => ∃ r, x = .returned r ∧ NT 19 Fr r w' ∧ Below w.heap.size w w') (c1 : ∀ w, Calls Tryd.prog 26 #[A4 B, .int .i64 f, .int .i64 e] w fun x w' => ∃ r, x = .returned r ∧ NT 19 En r w' ∧ Below w.heap.size w w') (hE : En < 9223372036854775808) (hs : a0.tmps.size = 101)
    (h3 : slot a0 3 = .pointer (some ⟨gb, 0, none⟩)) (h6 : slot a0 6 = .pointer (some ⟨gi, 0, none⟩)) (h8 : slot a0 8 = .int .i64 f)
    (hgb : gb < ws.heap.size) (hgi : gi < ws.heap.size) (hcb : ∀ i, i < 4 → ws.cell? ⟨gb, i, none⟩ = some (.int .u64 (W4 B i))) (hci : ws.cell? ⟨gi, 5, none⟩ = some (.int .i64 e))
    (hQ : ∀ (a : Act) (w : World) (v : Value), NT 19 Fr v w → slot a 9 = v → slot a 10 = .int .i64 (En : Int) → a.tmps.size = 101 → a.defers = a0.defers → (∀ t, (∀ i, i < 11 → slots5.getD i 0 ≠ t) → slot a t = slot a0 t) → Below ws.heap.size ws w → Q .normal a w) :
    (Code.region 5 ops5.toArray true).wp Tryd.prog Q a0 ws := by
  refine wp_region_gall 101 slots5 [isV (A4 B), isV (.int .i64 f), NT 19 Fr, isV (A4 B), isV (.int .i64 f), isV (.pointer (some ⟨gi, 5, none⟩)), isV (.int .i64 e), NT 19 (En), isV (.int .i64 (En : Int)), NT 19 Fr, isV (.int .i64 (En : Int))]
    (fun w => Below ws.heap.size ws w) (by kernel_rfl) (by kernel_rfl) (by kernel_rfl) (by kernel_rfl) hs ?_ (Below.refl _ _).drew (fun w w' h hb => h.trans (hb.mono h.size)) ?_ ?_ ?_
  · intro p hp
    simp only [List.mem_cons, List.not_mem_nil, or_false] at hp
    rcases hp with rfl | rfl | rfl | rfl | rfl | rfl | rfl | rfl | rfl | rfl | rfl
    all_goals first | exact isV.stays _ | exact NT.stays _ _
  · intro i o j b hi ho hg v w hv
    have hi' : i < 11 := hi
    have hor : i = 0 ∨ i = 1 ∨ i = 2 ∨ i = 3 ∨ i = 4 ∨ i = 5 ∨ i = 6 ∨ i = 7 ∨ i = 8 ∨ i = 9 ∨ i = 10 := by omega
    rcases hor with rfl | rfl | rfl | rfl | rfl | rfl | rfl | rfl | rfl | rfl | rfl
    all_goals
      obtain rfl := Option.some.inj (show ops5[_]? = some o from ho)
      cases hg
  · intro i o' a w hi ho hC hF hdep
    have f3 : slot a 3 = .pointer (some ⟨gb, 0, none⟩) := (hF 3 (by decide)).trans h3
    have f6 : slot a 6 = .pointer (some ⟨gi, 0, none⟩) := (hF 6 (by decide)).trans h6
    have f8 : slot a 8 = .int .i64 f := (hF 8 (by decide)).trans h8
    have hcB : ∀ i, i < 4 → w.cell? ⟨gb, i, none⟩ = some (.int .u64 (W4 B i)) := fun i hi => (hC.cell (p := ⟨gb, i, none⟩) hgb).trans (hcb i hi)
    have hcI : w.cell? ⟨gi, 5, none⟩ = some (.int .i64 e) := (hC.cell (p := ⟨gi, 5, none⟩) hgi).trans hci
    have hi' : i < 11 := hi
    have hor : i = 0 ∨ i = 1 ∨ i = 2 ∨ i = 3 ∨ i = 4 ∨ i = 5 ∨ i = 6 ∨ i = 7 ∨ i = 8 ∨ i = 9 ∨ i = 10 := by omega
    rcases hor with rfl | rfl | rfl | rfl | rfl | rfl | rfl | rfl | rfl | rfl | rfl
    · obtain rfl := Option.some.inj (show ops5[0]? = some o' from ho)
      exact op_ld24 f3 hcB ⟨_, rfl, rfl, Below.refl _ _⟩
    · obtain rfl := Option.some.inj (show ops5[1]? = some o' from ho)
      exact op_mv f8 ⟨_, rfl, rfl, Below.refl _ _⟩
    · obtain rfl := Option.some.inj (show ops5[2]? = some o' from ho)
      refine op_c26z (hdep ⟨0, .data⟩ (by simp) rfl : slot a 25 = A4 B) (hdep ⟨1, .data⟩ (by simp) rfl : slot a 26 = .int .i64 f) ((c0 w).mono ?_)
      rintro e w' ⟨r, rfl, hr, hb⟩
      exact ⟨_, rfl, _, rfl, hr, hb⟩
    · obtain rfl := Option.some.inj (show ops5[3]? = some o' from ho)
      exact op_ld24 f3 hcB ⟨_, rfl, rfl, Below.refl _ _⟩
    · obtain rfl := Option.some.inj (show ops5[4]? = some o' from ho)
      exact op_mv f8 ⟨_, rfl, rfl, Below.refl _ _⟩
    · obtain rfl := Option.some.inj (show ops5[5]? = some o' from ho)
      exact op_fa5 f6 ⟨_, rfl, rfl, Below.refl _ _⟩
    · obtain rfl := Option.some.inj (show ops5[6]? = some o' from ho)
      exact op_ld (hdep ⟨5, .data⟩ (by simp) rfl : slot a 30 = .pointer (some ⟨gi, 5, none⟩)) hcI ⟨_, rfl, rfl, Below.refl _ _⟩
    · obtain rfl := Option.some.inj (show ops5[7]? = some o' from ho)
      refine op_c26 (hdep ⟨3, .data⟩ (by simp) rfl : slot a 28 = A4 B) (hdep ⟨4, .data⟩ (by simp) rfl : slot a 29 = .int .i64 f) (hdep ⟨6, .data⟩ (by simp) rfl : slot a 31 = .int .i64 e) ((c1 w).mono ?_)
      rintro e w' ⟨r, rfl, hr, hb⟩
      exact ⟨_, rfl, _, rfl, hr, hb⟩
    · obtain rfl := Option.some.inj (show ops5[8]? = some o' from ho)
      have hv := (hdep ⟨7, .data⟩ (by simp) rfl : NT 19 (En) (slot a 32) w)
      refine op_c27 rfl ((number_nv hv.nv (by decide) hE).mono ?_)
      rintro e w' ⟨rfl, rfl⟩
      exact ⟨_, rfl, _, rfl, rfl, Below.refl _ _⟩
    · obtain rfl := Option.some.inj (show ops5[9]? = some o' from ho)
      have hv := (hdep ⟨2, .data⟩ (by simp) rfl : NT 19 Fr (slot a 27) w)
      exact op_as rfl ⟨_, rfl, hv, Below.refl _ _⟩
    · obtain rfl := Option.some.inj (show ops5[10]? = some o' from ho)
      exact op_as (hdep ⟨8, .data⟩ (by simp) rfl : slot a 33 = .int .i64 (En : Int)) ⟨_, rfl, rfl, Below.refl _ _⟩
  · intro a w hC hsz hdf hF hR
    exact hQ a w _ (hR 9 (by decide)) rfl (hR 10 (by decide)) hsz hdf (fun t ht => hF t ht) hC
end Go.Proofs.YtemhpdhplbcgjaaDoor
