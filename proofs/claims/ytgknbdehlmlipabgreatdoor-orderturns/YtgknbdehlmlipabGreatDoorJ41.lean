/-
  Texts that the proof leans on.
-/
import Derived.Test.YtgknbdehlmlipabGreatDoorJ38
import Derived.Test.YtgknbdehlmlipabGreatDoorJ11
import Derived.Test.YtgknbdehlmlipabGreatDoorJ27
import Derived.Deep.MidRow
import Derived.Test.YtgknbdehlmlipabGreatDoorJ30
import Derived.Test.YtgknbdehlmlipabGreatDoorJ3
set_option linter.unusedVariables false
set_option linter.unusedSectionVars false
set_option linter.unusedSimpArgs false
set_option maxRecDepth 20000
namespace Go.Proofs.YtgknbdehlmlipabGreatDoor
open Go.RowKit
theorem or_cells {n b : Nat} {a : World} (hb : n ≤ b) : ∀ (vs : List Value) (o : Nat) (W : World), Below n a W → Below n a (W.setCells b o vs)
  | [], _, _, h => h
  | v :: r, o, W, h => or_cells hb r (o + 1) _ (h.setCell hb v)
theorem or_far {g h : Nat} (hne : g ≠ h) (i : Nat) : ∀ (vs : List Value) (o : Nat) (W : World), (W.setCells h o vs).cell? ⟨g, i, none⟩ = W.cell? ⟨g, i, none⟩
  | [], _, _ => rfl
  | v :: r, o, W => by
    have := or_far hne i r (o + 1) (W.setCell ⟨h, o, none⟩ v)
    exact this.trans (by go_simp)
/-- a block that holds an operand -/
structure O9 (g : Nat) (cs : Array Value) (w : World) : Prop where
  lt : g < w.heap.size
  sz : cs.size = 9
  c : ∀ i, i < 9 → w.cell? ⟨g, i, none⟩ = cs[i]?
  z : ∀ i, w.frozen? ⟨g, i, none⟩ = false
theorem O9.next {g : Nat} {cs : Array Value} {w w' : World} (h : O9 g cs w) (hb : Below w.heap.size w w') : O9 g cs w' :=
  ⟨Nat.lt_of_lt_of_le h.lt hb.size, h.sz, fun i hi => (hb.cell (p := ⟨g, i, none⟩) h.lt).trans (h.c i hi), fun i => (hb.frozen (p := ⟨g, i, none⟩) h.lt).trans (h.z i)⟩
theorem O9.put {g : Nat} {cs cs' : Array Value} {w : World} (h : O9 g cs w) (hs : cs'.size = 9) : O9 g cs' (w.setCells g 0 cs'.toList) := by
  have hin := World.cell?_setCells_in g cs'.toList 0 w (fun j hj => by
    rw [Nat.zero_add, h.c j (by simpa [hs] using hj), Array.getElem?_eq_getElem (by rw [h.sz]; simpa [hs] using hj)]; rfl)
  refine ⟨Nat.lt_of_lt_of_le h.lt (or_cells (n := 0) (Nat.zero_le _) _ _ _ (Below.refl 0 w)).size, hs, fun i hi => ?_, fun i => ?_⟩
  · have := hin i (by simpa [hs] using hi)
    rw [Nat.zero_add] at this
    rw [this, Array.getElem?_eq_getElem (by rw [hs]; exact hi)]
    simp
  · rw [World.frozen?_setCells]; exact h.z i
theorem O9.other {g k : Nat} {cs : Array Value} {vs : List Value} {w : World} (h : O9 g cs w) (hne : g ≠ k) : O9 g cs (w.setCells k 0 vs) :=
  ⟨Nat.lt_of_lt_of_le h.lt (or_cells (n := 0) (Nat.zero_le _) _ _ _ (Below.refl 0 w)).size, h.sz, fun i hi => (or_far hne i vs 0 w).trans (h.c i hi), fun i => by rw [World.frozen?_setCells]; exact h.z i⟩
attribute [local irreducible] W4 Nt Nz NT
section
variable {a : Act} {w : World} {K : Act → World → Prop} {Q : Exit → Act → World → Prop} {d p q : Nat} {ty : TypeId} {pos : String} {after : Array Edge} {gd : Option (Nat × Bool)}
theorem or_ld9 {h : Nat} {c x b : Int} {s g : Bool} {k : Nat} (h1 : slot a p = .pointer (some ⟨h, 0, none⟩)) (hO : O9 h (OCs c s g x k b) w) (hK : K (a.put (some d) (OV c s g x k b)) w) : Oper.wp Tryz.prog { dst := some d, op := Op.load 50 (Operand.tmp p), type := ty, pos := pos, after := after, guard := gd } a w K Q :=
  or_ldO h1 (hO.c 0 (by decide)) (hO.c 1 (by decide)) (hO.c 2 (by decide)) (hO.c 3 (by decide)) (hO.c 4 (by decide)) (hO.c 5 (by decide)) (hO.c 6 (by decide)) (hO.c 7 (by decide)) (hO.c 8 (by decide)) hK
theorem or_st9 {h : Nat} {c x b : Int} {s g : Bool} {k : Nat} {cs : Array Value} (h1 : slot a p = .pointer (some ⟨h, 0, none⟩)) (h2 : slot a q = OV c s g x k b) (hB : O9 h cs w) (hK : K (a.put none undef) (w.setCells h 0 (OCs c s g x k b).toList)) : Oper.wp Tryz.prog { dst := none, op := Op.store 50 (Operand.tmp p) (Operand.tmp q), type := ty, pos := pos, after := after, guard := gd } a w K Q := by
  refine wp_store_mid 50 (.tmp p) (.tmp q) rfl h 0 (OCs c s g x k b) (by unfold slot at h1; simp [go_sem, h1]) (by unfold slot at h2; simp [go_sem, h2]) (fun j hj => ?_) (by kernel_rfl) (by simp [Value.oneCell']) hK
  rw [Nat.zero_add, hB.c j hj, Array.getElem?_eq_getElem (by rw [hB.sz]; exact hj)]
  exact ⟨rfl, hB.z j⟩
theorem or_k1 {F : Nat} {u0 : Value} {ts : Array TypeId} (hr : Sem.run Tryz.prog (callFunc F #[u0]) w = .ok (.enter F #[u0]) w) (hc : Calls Tryz.prog F #[u0] w fun e w' => ∃ v, e = .returned v ∧ K (a.put (some d) v) w') : Oper.wp Tryz.prog { dst := some d, op := Op.call { callee := Callee.value (Operand.func F), args := #[Operand.const u0], argTypes := ts }, type := ty, pos := pos, after := after, guard := gd } a w K Q := by
  simp [go_sem, hr]
  refine hc.mono ?_
  rintro e w' ⟨v, rfl, hK⟩
  exact hK
theorem or_alW (hK : K (a.put (some d) (.pointer (some ⟨w.heap.size, 0, none⟩))) (w.alloc (.cells #[.int .u64 0, .int .u64 0, .int .u64 0, .int .u64 0] 23))) : Oper.wp Tryz.prog { dst := some d, op := Op.alloc 23, type := ty, pos := pos, after := after, guard := gd } a w K Q := by
  simp [go_sem]
  exact hK
theorem or_stW {g X Y : Nat} (h1 : slot a p = .pointer (some ⟨g, 0, none⟩)) (h2 : slot a q = A4 Y) (hB : B4 g X w) (hK : K a (put4B w g Y)) : Oper.wp Tryz.prog { dst := none, op := Op.store 23 (Operand.tmp p) (Operand.tmp q), type := ty, pos := pos, after := after, guard := gd } a w K Q := by
  obtain ⟨h3, c0, c1, c2, c3, f0, f1, f2, f3⟩ := hB
  unfold slot at h1 h2
  unfold A4 at h2
  have hsm := cell_set_map
  simp [go_sem, h1, h2, c0, c1, c2, c3, f0, f1, f2, f3]
  exact hK
end
noncomputable def opsBo : List Oper := (Tryz.f17.body.bind (findR 4)).getD []
def slotsBo : List Nat := [25, 26, 27, 0, 1]
set_option maxHeartbeats 4000000 in
theorem regBo {b h j : Nat} {w0 ws : World} {c x e c' x' e' E : Int} {s g s' g' : Bool} {k k' : Nat} {a0 : Act} {Q : Exit → Act → World → Prop} (hs : a0.tmps.size = 28)
    (g8 : slot a0 8 = .pointer (some ⟨h, 0, none⟩)) (g9 : slot a0 9 = .pointer (some ⟨j, 0, none⟩)) (g10 : slot a0 10 = .int .i64 E)
    (hbe : Below b w0 ws) (hlh : b ≤ h) (hlj : b ≤ j) (hne : h ≠ j) (hO : O9 h (OCs c s g x k e) ws) (hO' : O9 j (OCs c' s' g' x' k' e') ws)
    (hQ : ∀ (a : Act) (w : World), Below b w0 w → O9 h (OCs c s g x k e) w → O9 j (OCs c' s' g' x' k' e') w → slot a 10 = .int .i64 E → a.tmps.size = 28 → a.defers = a0.defers → (∀ t, (∀ i, i < 6 → [25, 26, 27, 0, 1, 10].getD i 0 ≠ t) → slot a t = slot a0 t) → Q .normal a w) :
    (Code.region 4 opsBo.toArray true).wp Tryz.prog Q a0 ws := by
  refine wp_region_memg 5 28 slotsBo [iW (OV c s g x k e), iW (OV c' s' g' x' k' e'), iW (.int .i64 E), (fun _ _ => True), (fun _ _ => True)] (fun _ _ => True) (fun _ _ w => Below b w0 w ∧ O9 h (OCs c s g x k e) w ∧ O9 j (OCs c' s' g' x' k' e') w) [] [] (by kernel_rfl) (by kernel_rfl) (by kernel_rfl) (by kernel_rfl) hs ?_ (fun _ => trivial) ?_ ?_ ⟨hbe.drew, hO.next (Below.refl _ _).drew, hO'.next (Below.refl _ _).drew⟩ ?_ ?_ ?_
  · intro j c hj hc
    cases hc
  · intro p hp
    simp only [List.mem_cons, List.not_mem_nil, or_false] at hp
    rcases hp with rfl | rfl | rfl | rfl | rfl
    all_goals exact fun _ _ _ h _ => h
  · intro i hi hG
    cases hG
  · intro L i o a w hi ho hG
    cases hG
  · intro L i o a w hi ho hG hL hcl he hM hF hv
    have f8 : slot a 8 = .pointer (some ⟨h, 0, none⟩) := (hF 8 (by decide)).trans g8
    have f9 : slot a 9 = .pointer (some ⟨j, 0, none⟩) := (hF 9 (by decide)).trans g9
    have f10 : slot a 10 = .int .i64 E := (hF 10 (by decide)).trans g10
    obtain ⟨m1, m2, m3⟩ := hM
    have hor : i = 0 ∨ i = 1 ∨ i = 2 ∨ i = 3 ∨ i = 4 := by omega
    rcases hor with rfl | rfl | rfl | rfl | rfl
    · obtain rfl := Option.some.inj (show opsBo[0]? = some o from ho)
      exact or_ld9 f8 m2 ⟨_, rfl, rfl, trivial, m1, m2, m3⟩
    · obtain rfl := Option.some.inj (show opsBo[1]? = some o from ho)
      exact or_ld9 f9 m3 ⟨_, rfl, rfl, trivial, m1, m2, m3⟩
    · obtain rfl := Option.some.inj (show opsBo[2]? = some o from ho)
      exact og_mv f10 ⟨_, rfl, rfl, trivial, m1, m2, m3⟩
    · obtain rfl := Option.some.inj (show opsBo[3]? = some o from ho)
      exact or_st9 f8 (hv 0 (by decide) rfl (he ⟨0, .data⟩ (by simp) rfl) : slot a 25 = OV c s g x k e) m2 ⟨_, rfl, trivial, trivial, or_cells hlh _ _ _ m1, m2.put rfl, m3.other (Ne.symm hne)⟩
    · obtain rfl := Option.some.inj (show opsBo[4]? = some o from ho)
      exact or_st9 f9 (hv 1 (by decide) rfl (he ⟨1, .data⟩ (by simp) rfl) : slot a 26 = OV c' s' g' x' k' e') m3 ⟨_, rfl, trivial, trivial, or_cells hlj _ _ _ m1, m2.other hne, m3.put rfl⟩
  · intro L a w hL hM hsz hdf hF hv
    obtain ⟨m1, m2, m3⟩ := hM
    refine BigFrame.wpList_want rfl fun K hK => og_as (hv 2 (by decide) rfl : slot a 27 = .int .i64 E) (hK _ _ ?_)
    clear K hK
    refine hQ _ _ m1 m2 m3 (slot_put (by omega)) (by simpa [Act.put] using hsz) hdf (fun t ht => ?_)
    rw [slot_put_ne (show 10 ≠ t from ht 5 (by decide))]
    exact hF t fun i hi => by
      have := ht i (by omega)
      have hor : i = 0 ∨ i = 1 ∨ i = 2 ∨ i = 3 ∨ i = 4 := by omega
      rcases hor with rfl | rfl | rfl | rfl | rfl <;> exact this
noncomputable def opsSt : List Oper := (Tryz.f24.body.bind (findR 1)).getD []
def slotsSt : List Nat := [9, 10, 7, 8, 0]
/-- what stands while the pattern and one are laid -/
def MXs (ws : World) (X4 : Nat) (L : Nat → Prop) (f : Nat → Value) (w : World) : Prop :=
  Below ws.heap.size ws w ∧ (L 2 → ∃ g X, f 7 = .pointer (some ⟨g, 0, none⟩) ∧ ws.heap.size ≤ g ∧ B4 g X w ∧ (L 4 → X = X4)) ∧ (L 3 → ∃ h, f 8 = .pointer (some ⟨h, 0, none⟩) ∧ ws.heap.size ≤ h ∧ B4 h 0 w) ∧ (L 2 → L 3 → f 7 ≠ f 8)
theorem MXs.step {ws w : World} {X4 k t : Nat} {L : Nat → Prop} {f : Nat → Value} {v : Value} (h : MXs ws X4 L f w) (h1 : t ≠ 7) (h2 : t ≠ 8) (h3 : k ≠ 2) (h4 : k ≠ 3) (h5 : k ≠ 4) : MXs ws X4 (fun j => L j ∨ j = k) (fun u => if some t = some u then v else f u) w := by
  obtain ⟨a1, a2, a3, a4⟩ := h
  have e17 : (if some t = some 7 then v else f 7) = f 7 := if_neg (fun e => h1 (Option.some.inj e))
  have e18 : (if some t = some 8 then v else f 8) = f 8 := if_neg (fun e => h2 (Option.some.inj e))
  have l4 : ∀ {p : Prop}, (p ∨ 2 = k) → p := fun h => h.resolve_right (fun e => h3 e.symm)
  have l5 : ∀ {p : Prop}, (p ∨ 3 = k) → p := fun h => h.resolve_right (fun e => h4 e.symm)
  have l6 : ∀ {p : Prop}, (p ∨ 4 = k) → p := fun h => h.resolve_right (fun e => h5 e.symm)
  refine ⟨a1, fun h => ?_, fun h => ?_, fun h h' => ?_⟩
  · obtain ⟨g, X, b1, b2, b3, b4⟩ := a2 (l4 h)
    exact ⟨g, X, e17.trans b1, b2, b3, fun h => b4 (l6 h)⟩
  · obtain ⟨g, b1, b2, b3⟩ := a3 (l5 h)
    exact ⟨g, e18.trans b1, b2, b3⟩
  · show (if some t = some 7 then v else f 7) ≠ (if some t = some 8 then v else f 8)
    rw [e17, e18]
    exact a4 (l4 h) (l5 h')
theorem MXs.next {ws w w' : World} {X4 : Nat} {L : Nat → Prop} {f : Nat → Value} (h : MXs ws X4 L f w) (hb : Below w.heap.size w w') : MXs ws X4 L f w' := by
  obtain ⟨a1, a2, a3, a4⟩ := h
  refine ⟨bnx a1 hb, fun h => ?_, fun h => ?_, a4⟩
  · obtain ⟨g, X, b1, b2, b3, b4⟩ := a2 h
    exact ⟨g, X, b1, b2, b3.next hb, b4⟩
  · obtain ⟨g, b1, b2, b3⟩ := a3 h
    exact ⟨g, b1, b2, b3.next hb⟩
set_option maxHeartbeats 4000000 in
theorem regSt {ga X4 : Nat} {a0 : Act} {ws : World} {Q : Exit → Act → World → Prop} (hs : a0.tmps.size = 35) (g3 : slot a0 3 = .pointer (some ⟨ga, 0, none⟩)) (hlt : ga < ws.heap.size)
    (k0 : ws.cell? ⟨ga, 0, none⟩ = some (.int .u64 (W4 X4 0))) (k1 : ws.cell? ⟨ga, 1, none⟩ = some (.int .u64 (W4 X4 1))) (k2 : ws.cell? ⟨ga, 2, none⟩ = some (.int .u64 (W4 X4 2))) (k3 : ws.cell? ⟨ga, 3, none⟩ = some (.int .u64 (W4 X4 3)))
    (c1 : ∀ W, Calls Tryz.prog 36 #[.int .u64 1] W fun r w' => r = .returned (A4 1) ∧ Below W.heap.size W w')
    (hQ : ∀ (a : Act) (w : World) (g h : Nat), slot a 7 = .pointer (some ⟨g, 0, none⟩) → slot a 8 = .pointer (some ⟨h, 0, none⟩) → g ≠ h → ws.heap.size ≤ g → ws.heap.size ≤ h → B4 g X4 w → B4 h 1 w → a.tmps.size = 35 → a.defers = a0.defers → (∀ t, (∀ i, i < 5 → slotsSt.getD i 0 ≠ t) → slot a t = slot a0 t) → Below ws.heap.size ws w → Q .normal a w) :
    (Code.region 1 opsSt.toArray true).wp Tryz.prog Q a0 ws := by
  refine wp_region_memg 5 35 slotsSt [iW (A4 X4), iW (A4 1), (fun _ _ => True), (fun _ _ => True), (fun _ _ => True)] (fun _ _ => True) (MXs ws X4) [] [] (by kernel_rfl) (by kernel_rfl) (by kernel_rfl) (by kernel_rfl) hs ?_ (fun _ => trivial) ?_ ?_ ⟨(Below.refl _ _).drew, fun h => h.elim, fun h => h.elim, fun h _ => h.elim⟩ ?_ ?_ ?_
  · intro j c hj hc
    cases hc
  · intro p hp
    simp only [List.mem_cons, List.not_mem_nil, or_false] at hp
    rcases hp with rfl | rfl | rfl | rfl | rfl
    all_goals exact fun _ _ _ h _ => h
  · intro i hi hG
    cases hG
  · intro L i o a w hi ho hG
    cases hG
  · intro L i o a w hi ho hG hL hcl he hM hF hv
    have f3 : slot a 3 = .pointer (some ⟨ga, 0, none⟩) := (hF 3 (by decide)).trans g3
    have hB := hM.1
    have q0 := (hB.cell (p := ⟨ga, 0, none⟩) hlt).trans k0
    have q1 := (hB.cell (p := ⟨ga, 1, none⟩) hlt).trans k1
    have q2 := (hB.cell (p := ⟨ga, 2, none⟩) hlt).trans k2
    have q3 := (hB.cell (p := ⟨ga, 3, none⟩) hlt).trans k3
    have hor : i = 0 ∨ i = 1 ∨ i = 2 ∨ i = 3 ∨ i = 4 := by omega
    rcases hor with rfl | rfl | rfl | rfl | rfl
    · obtain rfl := Option.some.inj (show opsSt[0]? = some o from ho)
      exact og_ldB f3 q0 q1 q2 q3 ⟨_, rfl, rfl, trivial, hM.step (by decide) (by decide) (by decide) (by decide) (by decide)⟩
    · obtain rfl := Option.some.inj (show opsSt[1]? = some o from ho)
      refine or_k1 (by simp [go_sem]) ((c1 w).mono ?_)
      rintro e w' ⟨rfl, hb⟩
      exact ⟨_, rfl, _, rfl, rfl, trivial, (hM.next hb).step (by decide) (by decide) (by decide) (by decide) (by decide)⟩
    · have hL6 : ¬ L 4 := fun h => hL (hcl 4 _ (show opsSt[4]? = some _ from rfl) h ⟨2, .data⟩ (by simp) rfl)
      obtain rfl := Option.some.inj (show opsSt[2]? = some o from ho)
      have hb := below1 w (.cells #[.int .u64 0, .int .u64 0, .int .u64 0, .int .u64 0] 23)
      obtain ⟨a1, a2, a3, a4⟩ := hM
      refine or_alW ⟨_, rfl, trivial, trivial, bnx hB hb, fun _ => ⟨_, 0, rfl, hB.size, B4.new w _, fun h => absurd (h.resolve_right (by decide)) hL6⟩, fun h5 => ?_, fun _ h5 => ?_⟩
      · obtain ⟨h, b1, b2, b3⟩ := a3 (h5.resolve_right (by decide))
        exact ⟨h, b1, b2, b3.next hb⟩
      · obtain ⟨h, b1, b2, b3⟩ := a3 (h5.resolve_right (by decide))
        show Value.pointer (some ⟨w.heap.size, 0, none⟩) ≠ slot a 8
        rw [b1]
        have := b3.lt
        exact ptr_ne (by omega)
    · obtain rfl := Option.some.inj (show opsSt[3]? = some o from ho)
      have hb := below1 w (.cells #[.int .u64 0, .int .u64 0, .int .u64 0, .int .u64 0] 23)
      obtain ⟨a1, a2, a3, a4⟩ := hM
      refine or_alW ⟨_, rfl, trivial, trivial, bnx hB hb, fun h4 => ?_, fun _ => ⟨_, rfl, hB.size, B4.new w _⟩, fun h4 _ => ?_⟩
      · obtain ⟨g, X, b1, b2, b3, b4⟩ := a2 (h4.resolve_right (by decide))
        exact ⟨g, X, b1, b2, b3.next hb, fun h => b4 (h.resolve_right (by decide))⟩
      · obtain ⟨g, X, b1, b2, b3, b4⟩ := a2 (h4.resolve_right (by decide))
        show slot a 7 ≠ Value.pointer (some ⟨w.heap.size, 0, none⟩)
        rw [b1]
        have := b3.lt
        exact ptr_ne (by omega)
    · obtain rfl := Option.some.inj (show opsSt[4]? = some o from ho)
      obtain ⟨a1, a2, a3, a4⟩ := hM
      have l4 := he ⟨2, .data⟩ (by simp) rfl
      obtain ⟨g, X, b1, b2, b3, b4⟩ := a2 l4
      refine or_stW b1 (hv 0 (by decide) rfl (he ⟨0, .data⟩ (by simp) rfl) : slot a 9 = A4 X4) b3 ⟨.bool false, rfl, trivial, trivial, put4B_below hB b2, fun _ => ⟨g, X4, b1, b2, b3.put, fun _ => rfl⟩, fun h5 => ?_, fun _ h5 => ?_⟩
      · obtain ⟨h, d1, d2, d3⟩ := a3 (h5.resolve_right (by decide))
        refine ⟨h, d1, d2, d3.other fun e => ?_⟩
        have := a4 l4 (h5.resolve_right (by decide))
        rw [b1, d1, e] at this
        exact this rfl
      · exact a4 l4 (h5.resolve_right (by decide))
  · intro L a w hL hM hsz hdf hF hv
    obtain ⟨hB, a2, a3, a4⟩ := hM
    obtain ⟨g, X, e17, hg, hB1, hX⟩ := a2 (hL 2 (by decide))
    obtain ⟨h, e18, hh, hB2⟩ := a3 (hL 3 (by decide))
    obtain rfl := hX (hL 4 (by decide))
    have hne : g ≠ h := fun e => a4 (hL 2 (by decide)) (hL 3 (by decide)) (by rw [e17, e18, e])
    refine BigFrame.wpList_want rfl fun K hK => or_stW e18 (hv 1 (by decide) rfl : slot a 10 = A4 1) hB2 (hK _ _ ?_)
    clear K hK
    exact hQ a _ g h e17 e18 hne hg hh (hB1.other hne) hB2.put hsz hdf hF (put4B_below hB hh)
end Go.Proofs.YtgknbdehlmlipabGreatDoor

namespace Go.Proofs.YtgknbdehlmlipabGreatDoor
open Go.RowKit
attribute [local irreducible] W4
attribute [local go_sem ↓] ld18_eq
attribute [local go_sem] ld18_got
section
variable (n : Int) (nm : ByteArray) (num base wd pr ex le mo py : Int) (dn : Bool) (w : World) (hT : Tab w)
include hT
variable (G T : Int) (co pa : Nat) (hw0 : 0 ≤ wd) (hw1 : wd ≤ 1000) (hG : wd / 16 + 9 = G) (hG0 : 0 ≤ G) (hG1 : G ≤ 1000) (hTT : wd - 1 - G = T) (hT0 : 0 ≤ T) (hT1 : T ≤ 1000)
    (cc : ∀ W, Calls Tryz.prog 84 #[.int .i64 pr] W fun r w' => r = .returned (A4 co) ∧ Below W.heap.size W w')
    (cp : ∀ W, Calls Tryz.prog 84 #[.int .i64 py] W fun r w' => r = .returned (A4 pa) ∧ Below W.heap.size W w')
include hw0 hw1 hG hG0 hG1 hTT hT0 hT1 cc cp
set_option maxHeartbeats 4000000 in
theorem dlay_d (bl : Int) (wo : Nat) (hp0 : 0 ≤ pr) (hp1 : pr ≤ 1000) (hbl : G - 5 = bl)
    (c1 : ∀ W, Tab W → Calls Tryz.prog 30 #[.int .i64 n] W fun r w' => r = .returned (.tuple #[IDec num nm wd pr ex le mo py true, .int .i64 0]) ∧ Below W.heap.size W w')
    (cw : ∀ W, Calls Tryz.prog 84 #[.int .i64 (pr - 1)] W fun r w' => r = .returned (A4 wo) ∧ Below W.heap.size W w') :
    Calls Tryz.prog 69 #[.int .i64 n] w fun r w' => r = .returned (.tuple #[LD true G T bl wo co pa le mo, .int .i64 0]) ∧ Below w.heap.size w w' := by
  have hsm := cell_set_map
  go_enter Tryz.func69, Tryz.ntmps69
  go_wp2_with (go_at_call 30; refine (c1 _ (hT.alloc _)).mono ?_; rintro r w1 ⟨rfl, hb1⟩; obtain ⟨hc1, hf1⟩ := bcell hb1; have hz1_0 : w.heap.size < w1.heap.size := lt_below hb1 ltg; have hl1_0 := Nat.le_of_lt hz1_0; have hA1 := bnext (w0 := w) bgo hb1; have hs1 := hA1.size; clear hb1)
  have q0 : w.heap.size < w1.heap.size + 1 := by omega
  refine regL5 (gi := w1.heap.size) (co := co) (pa := pa) (G := G) (T := T) (wd := wd) (pr := pr) (py := py) (le := le) (mo := mo) (dn := true) rfl rfl rfl hw0 hw1 hTT hT0 hT1 (by simp) (by go_simp) (by go_simp) (by go_simp) (by go_simp) (by go_simp) (by go_simp) cc cp ?_
  intro a5 w5 g h7 hg0 hg1 hcs hfs hsz hdf hF5 hb5
  have ha := act_of slotsL5 20 rfl hsz hdf hF5
  rw [ha]
  simp only [slotsL5, List.foldl_cons, List.foldl_nil, Act.put, List.setIfInBounds_toArray, List.set_cons_succ, List.set_cons_zero, h7]
  clear ha hF5 hsz hdf h7
  simp only [World.size_alloc] at hg0
  have p0 : w5.cell? ⟨g, 0, none⟩ = some (.bool true) := hcs 0 (show (0 : Nat) < 18 by decide)
  have p1 : w5.cell? ⟨g, 1, none⟩ = some (.int .i64 G) := hcs 1 (show (1 : Nat) < 18 by decide)
  have p2 : w5.cell? ⟨g, 2, none⟩ = some (.int .i64 T) := hcs 2 (show (2 : Nat) < 18 by decide)
  have p3 : w5.cell? ⟨g, 3, none⟩ = some (.int .i64 0) := hcs 3 (show (3 : Nat) < 18 by decide)
  have p4 : w5.cell? ⟨g, 4, none⟩ = some (.int .u64 0) := hcs 4 (show (4 : Nat) < 18 by decide)
  have p5 : w5.cell? ⟨g, 5, none⟩ = some (.int .u64 0) := hcs 5 (show (5 : Nat) < 18 by decide)
  have p6 : w5.cell? ⟨g, 6, none⟩ = some (.int .u64 0) := hcs 6 (show (6 : Nat) < 18 by decide)
  have p7 : w5.cell? ⟨g, 7, none⟩ = some (.int .u64 0) := hcs 7 (show (7 : Nat) < 18 by decide)
  have p8 : w5.cell? ⟨g, 8, none⟩ = some (.int .u64 (W4 co 0)) := hcs 8 (show (8 : Nat) < 18 by decide)
  have p9 : w5.cell? ⟨g, 9, none⟩ = some (.int .u64 (W4 co 1)) := hcs 9 (show (9 : Nat) < 18 by decide)
  have p10 : w5.cell? ⟨g, 10, none⟩ = some (.int .u64 (W4 co 2)) := hcs 10 (show (10 : Nat) < 18 by decide)
  have p11 : w5.cell? ⟨g, 11, none⟩ = some (.int .u64 (W4 co 3)) := hcs 11 (show (11 : Nat) < 18 by decide)
  have p12 : w5.cell? ⟨g, 12, none⟩ = some (.int .u64 (W4 pa 0)) := hcs 12 (show (12 : Nat) < 18 by decide)
  have p13 : w5.cell? ⟨g, 13, none⟩ = some (.int .u64 (W4 pa 1)) := hcs 13 (show (13 : Nat) < 18 by decide)
  have p14 : w5.cell? ⟨g, 14, none⟩ = some (.int .u64 (W4 pa 2)) := hcs 14 (show (14 : Nat) < 18 by decide)
  have p15 : w5.cell? ⟨g, 15, none⟩ = some (.int .u64 (W4 pa 3)) := hcs 15 (show (15 : Nat) < 18 by decide)
  have p16 : w5.cell? ⟨g, 16, none⟩ = some (.int .i64 le) := hcs 16 (show (16 : Nat) < 18 by decide)
  have p17 : w5.cell? ⟨g, 17, none⟩ = some (.int .i64 mo) := hcs 17 (show (17 : Nat) < 18 by decide)
  clear hcs cc cp
  have n0 : w.heap.size ≠ g := by omega
  have n1 : g ≠ w.heap.size := by omega
  have n2 : w1.heap.size ≠ g := by omega
  have n3 : g ≠ w1.heap.size := by omega
  have q1 : w1.heap.size < w1.heap.size + 1 := by omega
  obtain ⟨hc5, hf5⟩ := bcell hb5; have hz5_0 : w.heap.size < w5.heap.size := lt_below hb5 ltg; have hl5_0 := Nat.le_of_lt hz5_0; have hz5_1 : w1.heap.size < w5.heap.size := lt_below hb5 ltg; have hl5_1 := Nat.le_of_lt hz5_1; have hA5 := bnext (w0 := w) bgo hb5; have hs5 := hA5.size; clear hb5
  go_wp2_with (go_at_call 84; refine (cw _).mono ?_; rintro r w6 ⟨rfl, hb6⟩; obtain ⟨hc6, hf6⟩ := bcell hb6; have hz6_0 : w.heap.size < w6.heap.size := lt_below hb6 ltg; have hl6_0 := Nat.le_of_lt hz6_0; have hz6_1 : w1.heap.size < w6.heap.size := lt_below hb6 ltg; have hl6_1 := Nat.le_of_lt hz6_1; have hz6_2 : g < w6.heap.size := lt_below hb6 ltg; have hl6_2 := Nat.le_of_lt hz6_2; have hA6 := bnext (w0 := w) bgo hb6; have hs6 := hA6.size; clear hb6)
  exact bodyPost_ret (v := .tuple #[LD true G T bl wo co pa le mo, .int .i64 0]) (by simp only [results, Tryz.results69]; go_simp) rfl ⟨rfl, bgo⟩
end
end Go.Proofs.YtgknbdehlmlipabGreatDoor
