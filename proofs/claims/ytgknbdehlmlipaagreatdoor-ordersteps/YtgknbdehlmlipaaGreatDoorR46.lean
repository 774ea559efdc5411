/-
  Texts that the proof leans on.
-/
import Derived.Test.YtgknbdehlmlipaaGreatDoorR40
import Derived.Test.YtgknbdehlmlipaaGreatDoorR9
import Derived.Test.YtgknbdehlmlipaaGreatDoorR36
import Derived.Deep.MidRow
import Derived.Test.YtgknbdehlmlipaaGreatDoorR38
import Derived.Test.YtgknbdehlmlipaaGreatDoorR31
import Derived.Test.YtgknbdehlmlipaaGreatDoorR6
set_option linter.unusedVariables false
set_option linter.unusedSectionVars false
set_option linter.unusedSimpArgs false
set_option maxRecDepth 20000
namespace Go.Proofs.YtgknbdehlmlipaaGreatDoor
open Go.RowKit
section
theorem or_cells {n b : Nat} {a : World} (hb : n ≤ b) : ∀ (vs : List Value) (o : Nat) (W : World), Below n a W → Below n a (W.setCells b o vs)
  | [], _, _, h => h
  | v :: r, o, W, h => or_cells hb r (o + 1) _ (h.setCell hb v)
theorem or_far {g h : Nat} (hne : g ≠ h) (i : Nat) : ∀ (vs : List Value) (o : Nat) (W : World), (W.setCells h o vs).cell? ⟨g, i, none⟩ = W.cell? ⟨g, i, none⟩
  | [], _, _ => rfl
  | v :: r, o, W => by
    have := or_far hne i r (o + 1) (W.setCell ⟨h, o, none⟩ v)
    exact this.trans (by go_simp)
/-- a block that holds an operand -/
structure O9 (g : Nat) (cs : Array Value) (w : World) : Prop where
  lt : g < w.heap.size
  sz : cs.size = 9
  c : ∀ i, i < 9 → w.cell? ⟨g, i, none⟩ = cs[i]?
  z : ∀ i, w.frozen? ⟨g, i, none⟩ = false
theorem O9.next {g : Nat} {cs : Array Value} {w w' : World} (h : O9 g cs w) (hb : Below w.heap.size w w') : O9 g cs w' :=
  ⟨Nat.lt_of_lt_of_le h.lt hb.size, h.sz, fun i hi => (hb.cell (p := ⟨g, i, none⟩) h.lt).trans (h.c i hi), fun i => (hb.frozen (p := ⟨g, i, none⟩) h.lt).trans (h.z i)⟩
theorem O9.put {g : Nat} {cs cs' : Array Value} {w : World} (h : O9 g cs w) (hs : cs'.size = 9) : O9 g cs' (w.setCells g 0 cs'.toList) := by
  have hin := World.cell?_setCells_in g cs'.toList 0 w (fun j hj => by
    rw [Nat.zero_add, h.c j (by simpa [hs] using hj), Array.getElem?_eq_getElem (by rw [h.sz]; simpa [hs] using hj)]; rfl)
  refine ⟨Nat.lt_of_lt_of_le h.lt (or_cells (n := 0) (Nat.zero_le _) _ _ _ (Below.refl 0 w)).size, hs, fun i hi => ?_, fun i => ?_⟩
  · have := hin i (by simpa [hs] using hi)
    rw [Nat.zero_add] at this
    rw [this, Array.getElem?_eq_getElem (by rw [hs]; exact hi)]
    simp
  · rw [World.frozen?_setCells]; exact h.z i
theorem O9.other {g k : Nat} {cs : Array Value} {vs : List Value} {w : World} (h : O9 g cs w) (hne : g ≠ k) : O9 g cs (w.setCells k 0 vs) :=
  ⟨Nat.lt_of_lt_of_le h.lt (or_cells (n := 0) (Nat.zero_le _) _ _ _ (Below.refl 0 w)).size, h.sz, fun i hi => (or_far hne i vs 0 w).trans (h.c i hi), fun i => by rw [World.frozen?_setCells]; exact h.z i⟩
attribute [local irreducible] W4 Nt Nz NT
section
variable {a : Act} {w : World} {K : Act → World → Prop} {Q : Exit → Act → World → Prop} {d p q : Nat} {ty : TypeId} {pos : String} {after : Array Edge} {gd : Option (Nat × Bool)}
theorem or_ld9 {h : Nat} {c x b : Int} {s g : Bool} {k : Nat} (h1 : slot a p = .pointer (some ⟨h, 0, none⟩)) (hO : O9 h (OCs c s g x k b) w) (hK : K (a.put (some d) (OV c s g x k b)) w) : Oper.wp Tryz.prog { dst := some d, op := Op.load 60 (Operand.tmp p), type := ty, pos := pos, after := after, guard := gd } a w K Q :=
  or_ldO h1 (hO.c 0 (by decide)) (hO.c 1 (by decide)) (hO.c 2 (by decide)) (hO.c 3 (by decide)) (hO.c 4 (by decide)) (hO.c 5 (by decide)) (hO.c 6 (by decide)) (hO.c 7 (by decide)) (hO.c 8 (by decide)) hK
theorem or_st9 {h : Nat} {c x b : Int} {s g : Bool} {k : Nat} {cs : Array Value} (h1 : slot a p = .pointer (some ⟨h, 0, none⟩)) (h2 : slot a q = OV c s g x k b) (hB : O9 h cs w) (hK : K (a.put none undef) (w.setCells h 0 (OCs c s g x k b).toList)) : Oper.wp Tryz.prog { dst := none, op := Op.store 60 (Operand.tmp p) (Operand.tmp q), type := ty, pos := pos, after := after, guard := gd } a w K Q := by
  refine wp_store_mid 60 (.tmp p) (.tmp q) rfl h 0 (OCs c s g x k b) (by unfold slot at h1; simp [go_sem, h1]) (by unfold slot at h2; simp [go_sem, h2]) (fun j hj => ?_) (by kernel_rfl) (by simp [Value.oneCell']) hK
  rw [Nat.zero_add, hB.c j hj, Array.getElem?_eq_getElem (by rw [hB.sz]; exact hj)]
  exact ⟨rfl, hB.z j⟩
theorem or_k1 {F : Nat} {u0 : Value} {ts : Array TypeId} (hr : Sem.run Tryz.prog (callFunc F #[u0]) w = .ok (.enter F #[u0]) w) (hc : Calls Tryz.prog F #[u0] w fun e w' => ∃ v, e = .returned v ∧ K (a.put (some d) v) w') : Oper.wp Tryz.prog { dst := some d, op := Op.call { callee := Callee.value (Operand.func F), args := #[Operand.const u0], argTypes := ts }, type := ty, pos := pos, after := after, guard := gd } a w K Q := by
  simp [go_sem, hr]
  refine hc.mono ?_
  rintro e w' ⟨v, rfl, hK⟩
  exact hK
theorem or_alW (hK : K (a.put (some d) (.pointer (some ⟨w.heap.size, 0, none⟩))) (w.alloc (.cells #[.int .u64 0, .int .u64 0, .int .u64 0, .int .u64 0] 23))) : Oper.wp Tryz.prog { dst := some d, op := Op.alloc 23, type := ty, pos := pos, after := after, guard := gd } a w K Q := by
  simp [go_sem]
  exact hK
theorem or_stW {g X Y : Nat} (h1 : slot a p = .pointer (some ⟨g, 0, none⟩)) (h2 : slot a q = A4 Y) (hB : B4 g X w) (hK : K a (put4B w g Y)) : Oper.wp Tryz.prog { dst := none, op := Op.store 23 (Operand.tmp p) (Operand.tmp q), type := ty, pos := pos, after := after, guard := gd } a w K Q := by
  obtain ⟨h3, c0, c1, c2, c3, f0, f1, f2, f3⟩ := hB
  unfold slot at h1 h2
  unfold A4 at h2
  have hsm := cell_set_map
  simp [go_sem, h1, h2, c0, c1, c2, c3, f0, f1, f2, f3]
  exact hK
end
noncomputable def opsBo : List Oper := (Tryz.f30.body.bind (findR 4)).getD []
def slotsBo : List Nat := [25, 26, 27, 0, 1]
set_option maxHeartbeats 4000000 in
theorem regBo {b h j : Nat} {w0 ws : World} {c x e c' x' e' E : Int} {s g s' g' : Bool} {k k' : Nat} {a0 : Act} {Q : Exit → Act → World → Prop} (hs : a0.tmps.size = 28)
    (g8 : slot a0 8 = .pointer (some ⟨h, 0, none⟩)) (g9 : slot a0 9 = .pointer (some ⟨j, 0, none⟩)) (g10 : slot a0 10 = .int .i64 E)
    (hbe : Below b w0 ws) (hlh : b ≤ h) (hlj : b ≤ j) (hne : h ≠ j) (hO : O9 h (OCs c s g x k e) ws) (hO' : O9 j (OCs c' s' g' x' k' e') ws)
    (hQ : ∀ (a : Act) (w : World), Below b w0 w → O9 h (OCs c s g x k e) w → O9 j (OCs c' s' g' x' k' e') w → slot a 10 = .int .i64 E → a.tmps.size = 28 → a.defers = a0.defers → (∀ t, (∀ i, i < 6 → [25, 26, 27, 0, 1, 10].getD i 0 ≠ t) → slot a t = slot a0 t) → Q .normal a w) :
    (Code.region 4 opsBo.toArray true).wp Tryz.prog Q a0 ws := by
  refine wp_region_memg 5 28 slotsBo [iW (OV c s g x k e), iW (OV c' s' g' x' k' e'), iW (.int .i64 E), (fun _ _ => True), (fun _ _ => True)] (fun _ _ => True) (fun _ _ w => Below b w0 w ∧ O9 h (OCs c s g x k e) w ∧ O9 j (OCs c' s' g' x' k' e') w) [] [] (by kernel_rfl) (by kernel_rfl) (by kernel_rfl) (by kernel_rfl) hs ?_ (fun _ => trivial) ?_ ?_ ⟨hbe.drew, hO.next (Below.refl _ _).drew, hO'.next (Below.refl _ _).drew⟩ ?_ ?_ ?_
  · intro j c hj hc
    cases hc
  · intro p hp
    simp only [List.mem_cons, List.not_mem_nil, or_false] at hp
    rcases hp with rfl | rfl | rfl | rfl | rfl
    all_goals exact fun _ _ _ h _ => h
  · intro i hi hG
    cases hG
  · intro L i o a w hi ho hG
    cases hG
  · intro L i o a w hi ho hG hL hcl he hM hF hv
    have f8 : slot a 8 = .pointer (some ⟨h, 0, none⟩) := (hF 8 (by decide)).trans g8
    have f9 : slot a 9 = .pointer (some ⟨j, 0, none⟩) := (hF 9 (by decide)).trans g9
    have f10 : slot a 10 = .int .i64 E := (hF 10 (by decide)).trans g10
    obtain ⟨m1, m2, m3⟩ := hM
    have hor : i = 0 ∨ i = 1 ∨ i = 2 ∨ i = 3 ∨ i = 4 := by omega
    rcases hor with rfl | rfl | rfl | rfl | rfl
    · obtain rfl := Option.some.inj (show opsBo[0]? = some o from ho)
      exact or_ld9 f8 m2 ⟨_, rfl, rfl, trivial, m1, m2, m3⟩
    · obtain rfl := Option.some.inj (show opsBo[1]? = some o from ho)
      exact or_ld9 f9 m3 ⟨_, rfl, rfl, trivial, m1, m2, m3⟩
    · obtain rfl := Option.some.inj (show opsBo[2]? = some o from ho)
      exact og_mv f10 ⟨_, rfl, rfl, trivial, m1, m2, m3⟩
    · obtain rfl := Option.some.inj (show opsBo[3]? = some o from ho)
      exact or_st9 f8 (hv 0 (by decide) rfl (he ⟨0, .data⟩ (by simp) rfl) : slot a 25 = OV c s g x k e) m2 ⟨_, rfl, trivial, trivial, or_cells hlh _ _ _ m1, m2.put rfl, m3.other (Ne.symm hne)⟩
    · obtain rfl := Option.some.inj (show opsBo[4]? = some o from ho)
      exact or_st9 f9 (hv 1 (by decide) rfl (he ⟨1, .data⟩ (by simp) rfl) : slot a 26 = OV c' s' g' x' k' e') m3 ⟨_, rfl, trivial, trivial, or_cells hlj _ _ _ m1, m2.other hne, m3.put rfl⟩
  · intro L a w hL hM hsz hdf hF hv
    obtain ⟨m1, m2, m3⟩ := hM
    refine BigFrame.wpList_want rfl fun K hK => og_as (hv 2 (by decide) rfl : slot a 27 = .int .i64 E) (hK _ _ ?_)
    clear K hK
    refine hQ _ _ m1 m2 m3 (slot_put (by omega)) (by simpa [Act.put] using hsz) hdf (fun t ht => ?_)
    rw [slot_put_ne (show 10 ≠ t from ht 5 (by decide))]
    exact hF t fun i hi => by
      have := ht i (by omega)
      have hor : i = 0 ∨ i = 1 ∨ i = 2 ∨ i = 3 ∨ i = 4 := by omega
      rcases hor with rfl | rfl | rfl | rfl | rfl <;> exact this
noncomputable def opsSt : List Oper := (Tryz.f43.body.bind (findR 1)).getD []
def slotsSt : List Nat := [9, 10, 7, 8, 0]
/-- what stands while the pattern and one are laid -/
def MXs (ws : World) (X4 : Nat) (L : Nat → Prop) (f : Nat → Value) (w : World) : Prop :=
  Below ws.heap.size ws w ∧ (L 2 → ∃ g X, f 7 = .pointer (some ⟨g, 0, none⟩) ∧ ws.heap.size ≤ g ∧ B4 g X w ∧ (L 4 → X = X4)) ∧ (L 3 → ∃ h, f 8 = .pointer (some ⟨h, 0, none⟩) ∧ ws.heap.size ≤ h ∧ B4 h 0 w) ∧ (L 2 → L 3 → f 7 ≠ f 8)
theorem MXs.step {ws w : World} {X4 k t : Nat} {L : Nat → Prop} {f : Nat → Value} {v : Value} (h : MXs ws X4 L f w) (h1 : t ≠ 7) (h2 : t ≠ 8) (h3 : k ≠ 2) (h4 : k ≠ 3) (h5 : k ≠ 4) : MXs ws X4 (fun j => L j ∨ j = k) (fun u => if some t = some u then v else f u) w := by
  obtain ⟨a1, a2, a3, a4⟩ := h
  have e17 : (if some t = some 7 then v else f 7) = f 7 := if_neg (fun e => h1 (Option.some.inj e))
  have e18 : (if some t = some 8 then v else f 8) = f 8 := if_neg (fun e => h2 (Option.some.inj e))
  have l4 : ∀ {p : Prop}, (p ∨ 2 = k) → p := fun h => h.resolve_right (fun e => h3 e.symm)
  have l5 : ∀ {p : Prop}, (p ∨ 3 = k) → p := fun h => h.resolve_right (fun e => h4 e.symm)
  have l6 : ∀ {p : Prop}, (p ∨ 4 = k) → p := fun h => h.resolve_right (fun e => h5 e.symm)
  refine ⟨a1, fun h => ?_, fun h => ?_, fun h h' => ?_⟩
  · obtain ⟨g, X, b1, b2, b3, b4⟩ := a2 (l4 h)
    exact ⟨g, X, e17.trans b1, b2, b3, fun h => b4 (l6 h)⟩
  · obtain ⟨g, b1, b2, b3⟩ := a3 (l5 h)
    exact ⟨g, e18.trans b1, b2, b3⟩
  · show (if some t = some 7 then v else f 7) ≠ (if some t = some 8 then v else f 8)
    rw [e17, e18]
    exact a4 (l4 h) (l5 h')
theorem MXs.next {ws w w' : World} {X4 : Nat} {L : Nat → Prop} {f : Nat → Value} (h : MXs ws X4 L f w) (hb : Below w.heap.size w w') : MXs ws X4 L f w' := by
  obtain ⟨a1, a2, a3, a4⟩ := h
  refine ⟨bnx a1 hb, fun h => ?_, fun h => ?_, a4⟩
  · obtain ⟨g, X, b1, b2, b3, b4⟩ := a2 h
    exact ⟨g, X, b1, b2, b3.next hb, b4⟩
  · obtain ⟨g, b1, b2, b3⟩ := a3 h
    exact ⟨g, b1, b2, b3.next hb⟩
set_option maxHeartbeats 4000000 in
theorem regSt {ga X4 : Nat} {a0 : Act} {ws : World} {Q : Exit → Act → World → Prop} (hs : a0.tmps.size = 35) (g3 : slot a0 3 = .pointer (some ⟨ga, 0, none⟩)) (hlt : ga < ws.heap.size)
    (k0 : ws.cell? ⟨ga, 0, none⟩ = some (.int .u64 (W4 X4 0))) (k1 : ws.cell? ⟨ga, 1, none⟩ = some (.int .u64 (W4 X4 1))) (k2 : ws.cell? ⟨ga, 2, none⟩ = some (.int .u64 (W4 X4 2))) (k3 : ws.cell? ⟨ga, 3, none⟩ = some (.int .u64 (W4 X4 3)))
    (c1 : ∀ W, Calls Tryz.prog 84 #[.int .u64 1] W fun r w' => r = .returned (A4 1) ∧ Below W.heap.size W w')
    (hQ : ∀ (a : Act) (w : World) (g h : Nat), slot a 7 = .pointer (some ⟨g, 0, none⟩) → slot a 8 = .pointer (some ⟨h, 0, none⟩) → g ≠ h → ws.heap.size ≤ g → ws.heap.size ≤ h → B4 g X4 w → B4 h 1 w → a.tmps.size = 35 → a.defers = a0.defers → (∀ t, (∀ i, i < 5 → slotsSt.getD i 0 ≠ t) → slot a t = slot a0 t) → Below ws.heap.size ws w → Q .normal a w) :
    (Code.region 1 opsSt.toArray true).wp Tryz.prog Q a0 ws := by
  refine wp_region_memg 5 35 slotsSt [iW (A4 X4), iW (A4 1), (fun _ _ => True), (fun _ _ => True), (fun _ _ => True)] (fun _ _ => True) (MXs ws X4) [] [] (by kernel_rfl) (by kernel_rfl) (by kernel_rfl) (by kernel_rfl) hs ?_ (fun _ => trivial) ?_ ?_ ⟨(Below.refl _ _).drew, fun h => h.elim, fun h => h.elim, fun h _ => h.elim⟩ ?_ ?_ ?_
  · intro j c hj hc
    cases hc
  · intro p hp
    simp only [List.mem_cons, List.not_mem_nil, or_false] at hp
    rcases hp with rfl | rfl | rfl | rfl | rfl
    all_goals exact fun _ _ _ h _ => h
  · intro i hi hG
    cases hG
  · intro L i o a w hi ho hG
    cases hG
  · intro L i o a w hi ho hG hL hcl he hM hF hv
    have f3 : slot a 3 = .pointer (some ⟨ga, 0, none⟩) := (hF 3 (by decide)).trans g3
    have hB := hM.1
    have q0 := (hB.cell (p := ⟨ga, 0, none⟩) hlt).trans k0
    have q1 := (hB.cell (p := ⟨ga, 1, none⟩) hlt).trans k1
    have q2 := (hB.cell (p := ⟨ga, 2, none⟩) hlt).trans k2
    have q3 := (hB.cell (p := ⟨ga, 3, none⟩) hlt).trans k3
    have hor : i = 0 ∨ i = 1 ∨ i = 2 ∨ i = 3 ∨ i = 4 := by omega
    rcases hor with rfl | rfl | rfl | rfl | rfl
    · obtain rfl := Option.some.inj (show opsSt[0]? = some o from ho)
      exact og_ldB f3 q0 q1 q2 q3 ⟨_, rfl, rfl, trivial, hM.step (by decide) (by decide) (by decide) (by decide) (by decide)⟩
    · obtain rfl := Option.some.inj (show opsSt[1]? = some o from ho)
      refine or_k1 (by simp [go_sem]) ((c1 w).mono ?_)
      rintro e w' ⟨rfl, hb⟩
      exact ⟨_, rfl, _, rfl, rfl, trivial, (hM.next hb).step (by decide) (by decide) (by decide) (by decide) (by decide)⟩
    · have hL6 : ¬ L 4 := fun h => hL (hcl 4 _ (show opsSt[4]? = some _ from rfl) h ⟨2, .data⟩ (by simp) rfl)
      obtain rfl := Option.some.inj (show opsSt[2]? = some o from ho)
      have hb := below1 w (.cells #[.int .u64 0, .int .u64 0, .int .u64 0, .int .u64 0] 23)
      obtain ⟨a1, a2, a3, a4⟩ := hM
      refine or_alW ⟨_, rfl, trivial, trivial, bnx hB hb, fun _ => ⟨_, 0, rfl, hB.size, B4.new w _, fun h => absurd (h.resolve_right (by decide)) hL6⟩, fun h5 => ?_, fun _ h5 => ?_⟩
      · obtain ⟨h, b1, b2, b3⟩ := a3 (h5.resolve_right (by decide))
        exact ⟨h, b1, b2, b3.next hb⟩
      · obtain ⟨h, b1, b2, b3⟩ := a3 (h5.resolve_right (by decide))
        show Value.pointer (some ⟨w.heap.size, 0, none⟩) ≠ slot a 8
        rw [b1]
        have := b3.lt
        exact ptr_ne (by omega)
    · obtain rfl := Option.some.inj (show opsSt[3]? = some o from ho)
      have hb := below1 w (.cells #[.int .u64 0, .int .u64 0, .int .u64 0, .int .u64 0] 23)
      obtain ⟨a1, a2, a3, a4⟩ := hM
      refine or_alW ⟨_, rfl, trivial, trivial, bnx hB hb, fun h4 => ?_, fun _ => ⟨_, rfl, hB.size, B4.new w _⟩, fun h4 _ => ?_⟩
      · obtain ⟨g, X, b1, b2, b3, b4⟩ := a2 (h4.resolve_right (by decide))
        exact ⟨g, X, b1, b2, b3.next hb, fun h => b4 (h.resolve_right (by decide))⟩
      · obtain ⟨g, X, b1, b2, b3, b4⟩ := a2 (h4.resolve_right (by decide))
        show slot a 7 ≠ Value.pointer (some ⟨w.heap.size, 0, none⟩)
        rw [b1]
        have := b3.lt
        exact ptr_ne (by omega)
    · obtain rfl := Option.some.inj (show opsSt[4]? = some o from ho)
      obtain ⟨a1, a2, a3, a4⟩ := hM
      have l4 := he ⟨2, .data⟩ (by simp) rfl
      obtain ⟨g, X, b1, b2, b3, b4⟩ := a2 l4
      refine or_stW b1 (hv 0 (by decide) rfl (he ⟨0, .data⟩ (by simp) rfl) : slot a 9 = A4 X4) b3 ⟨.bool false, rfl, trivial, trivial, put4B_below hB b2, fun _ => ⟨g, X4, b1, b2, b3.put, fun _ => rfl⟩, fun h5 => ?_, fun _ h5 => ?_⟩
      · obtain ⟨h, d1, d2, d3⟩ := a3 (h5.resolve_right (by decide))
        refine ⟨h, d1, d2, d3.other fun e => ?_⟩
        have := a4 l4 (h5.resolve_right (by decide))
        rw [b1, d1, e] at this
        exact this rfl
      · exact a4 l4 (h5.resolve_right (by decide))
  · intro L a w hL hM hsz hdf hF hv
    obtain ⟨hB, a2, a3, a4⟩ := hM
    obtain ⟨g, X, e17, hg, hB1, hX⟩ := a2 (hL 2 (by decide))
    obtain ⟨h, e18, hh, hB2⟩ := a3 (hL 3 (by decide))
    obtain rfl := hX (hL 4 (by decide))
    have hne : g ≠ h := fun e => a4 (hL 2 (by decide)) (hL 3 (by decide)) (by rw [e17, e18, e])
    refine BigFrame.wpList_want rfl fun K hK => or_stW e18 (hv 1 (by decide) rfl : slot a 10 = A4 1) hB2 (hK _ _ ?_)
    clear K hK
    exact hQ a _ g h e17 e18 hne hg hh (hB1.other hne) hB2.put hsz hdf hF (put4B_below hB hh)
end
section
attribute [local irreducible] W4 NT NV

section
variable (n : Int) (B R : Nat) (E Er : Int) (w : World) (c x : Int) (s g : Bool) (k : Nat)
set_option maxHeartbeats 1000000 in
theorem rquiet_g
    (c11 : ∀ w, Calls Tryz.prog 18 #[.int .i64 n, A4 B] w fun r w' => r = .returned (.tuple #[DV c s g x k, .int .i64 0]) ∧ Below w.heap.size w w')
    (c13 : ∀ w, Calls Tryz.prog 46 #[.int .i64 n, DV c s false x k] w fun r w' => r = .returned (.tuple #[A4 R, .int .i64 Er]) ∧ Below w.heap.size w w')
    : Calls Tryz.prog 45 #[.int .i64 n, A4 B] w fun x w' => x = .returned (.tuple #[A4 R, .int .i64 Er]) ∧ Below w.heap.size w w' := by
  have hsm := cell_set_map
  go_enter Tryz.func45, Tryz.ntmps45
  go_wp2_with (first
    | (go_at_call 18; refine (c11 _).mono ?_; rintro x w1 ⟨rfl, hb1⟩; obtain ⟨hc1, hf1⟩ := bcell hb1; have hz1_0 : w.heap.size < w1.heap.size := lt_below hb1 ltg; have hl1_0 := Nat.le_of_lt hz1_0; have hz1_1 : w.heap.size + 1 < w1.heap.size := lt_below hb1 ltg; have hl1_1 := Nat.le_of_lt hz1_1; have hA1 := bnext (w0 := w) bgo hb1; have hs1 := hA1.size; clear hb1)
    | (go_at_call 46; refine (c13 _).mono ?_; rintro x w2 ⟨rfl, hb2⟩; obtain ⟨hc2, hf2⟩ := bcell hb2; have hz2_0 : w.heap.size < w2.heap.size := lt_below hb2 ltg; have hl2_0 := Nat.le_of_lt hz2_0; have hz2_1 : w.heap.size + 1 < w2.heap.size := lt_below hb2 ltg; have hl2_1 := Nat.le_of_lt hz2_1; have hz2_2 : w1.heap.size < w2.heap.size := lt_below hb2 ltg; have hl2_2 := Nat.le_of_lt hz2_2; have hA2 := bnext (w0 := w) bgo hb2; have hs2 := hA2.size; clear hb2))
  exact bodyPost_ret (v := .tuple #[A4 R, .int .i64 Er]) (by simp only [results, Tryz.results45]; go_simp) rfl ⟨rfl, bgo⟩
set_option maxHeartbeats 1000000 in
theorem rquiet_b
    (c11 : ∀ w, Calls Tryz.prog 18 #[.int .i64 n, A4 B] w fun r w' => r = .returned (.tuple #[DV c s g x k, .int .i64 1]) ∧ Below w.heap.size w w')
    : Calls Tryz.prog 45 #[.int .i64 n, A4 B] w fun x w' => x = .returned (.tuple #[Z4, .int .i64 1]) ∧ Below w.heap.size w w' := by
  have hsm := cell_set_map
  go_enter Tryz.func45, Tryz.ntmps45
  go_wp2_with ((go_at_call 18; refine (c11 _).mono ?_; rintro x w1 ⟨rfl, hb1⟩; obtain ⟨hc1, hf1⟩ := bcell hb1; have hz1_0 : w.heap.size < w1.heap.size := lt_below hb1 ltg; have hl1_0 := Nat.le_of_lt hz1_0; have hz1_1 : w.heap.size + 1 < w1.heap.size := lt_below hb1 ltg; have hl1_1 := Nat.le_of_lt hz1_1; have hA1 := bnext (w0 := w) bgo hb1; have hs1 := hA1.size; clear hb1))
  exact bodyPost_ret (v := .tuple #[Z4, .int .i64 1]) (by simp only [results, Tryz.results45]; go_simp) rfl ⟨rfl, bgo⟩
variable (hT : Tab w)
include hT
set_option maxHeartbeats 1000000 in
theorem quiet_g
    (c11 : ∀ w, Tab w → Calls Tryz.prog 82 #[.int .i64 n, A4 B] w fun r w' => r = .returned (.tuple #[DV c s g x k, .int .i64 0]) ∧ Below w.heap.size w w')
    (c13 : ∀ w, Tab w → Calls Tryz.prog 70 #[.int .i64 n, DV c s false x k] w fun r w' => r = .returned (.tuple #[A4 R, .int .i64 Er]) ∧ Below w.heap.size w w')
    : Calls Tryz.prog 83 #[.int .i64 n, A4 B] w fun x w' => x = .returned (.tuple #[A4 R, .int .i64 Er]) ∧ Below w.heap.size w w' := by
  have hsm := cell_set_map
  go_enter Tryz.func83, Tryz.ntmps83
  go_wp2_with (first
    | (go_at_call 82; refine (c11 _ ((hT.alloc _).alloc _)).mono ?_; rintro x w1 ⟨rfl, hb1⟩; obtain ⟨hc1, hf1⟩ := bcell hb1; have hz1_0 : w.heap.size < w1.heap.size := lt_below hb1 ltg; have hl1_0 := Nat.le_of_lt hz1_0; have hz1_1 : w.heap.size + 1 < w1.heap.size := lt_below hb1 ltg; have hl1_1 := Nat.le_of_lt hz1_1; have hA1 := bnext (w0 := w) bgo hb1; have hs1 := hA1.size; clear hb1)
    | (go_at_call 70; refine (c13 _ (hT.go bgo)).mono ?_; rintro x w2 ⟨rfl, hb2⟩; obtain ⟨hc2, hf2⟩ := bcell hb2; have hz2_0 : w.heap.size < w2.heap.size := lt_below hb2 ltg; have hl2_0 := Nat.le_of_lt hz2_0; have hz2_1 : w.heap.size + 1 < w2.heap.size := lt_below hb2 ltg; have hl2_1 := Nat.le_of_lt hz2_1; have hz2_2 : w1.heap.size < w2.heap.size := lt_below hb2 ltg; have hl2_2 := Nat.le_of_lt hz2_2; have hA2 := bnext (w0 := w) bgo hb2; have hs2 := hA2.size; clear hb2))
  exact bodyPost_ret (v := .tuple #[A4 R, .int .i64 Er]) (by simp only [results, Tryz.results83]; go_simp) rfl ⟨rfl, bgo⟩
set_option maxHeartbeats 1000000 in
theorem quiet_b
    (c11 : ∀ w, Tab w → Calls Tryz.prog 82 #[.int .i64 n, A4 B] w fun r w' => r = .returned (.tuple #[DV c s g x k, .int .i64 1]) ∧ Below w.heap.size w w')
    : Calls Tryz.prog 83 #[.int .i64 n, A4 B] w fun x w' => x = .returned (.tuple #[Z4, .int .i64 1]) ∧ Below w.heap.size w w' := by
  have hsm := cell_set_map
  go_enter Tryz.func83, Tryz.ntmps83
  go_wp2_with (go_at_call 82; refine (c11 _ ((hT.alloc _).alloc _)).mono ?_; rintro x w1 ⟨rfl, hb1⟩; obtain ⟨hc1, hf1⟩ := bcell hb1; have hz1_0 : w.heap.size < w1.heap.size := lt_below hb1 ltg; have hl1_0 := Nat.le_of_lt hz1_0; have hz1_1 : w.heap.size + 1 < w1.heap.size := lt_below hb1 ltg; have hl1_1 := Nat.le_of_lt hz1_1; have hA1 := bnext (w0 := w) bgo hb1; have hs1 := hA1.size; clear hb1)
  exact bodyPost_ret (v := .tuple #[Z4, .int .i64 1]) (by simp only [results, Tryz.results83]; go_simp) rfl ⟨rfl, bgo⟩
end
theorem rquiet_any (n : Int) (B : Nat) (w : World) (hB : B < 2 ^ 256) :
    Calls Tryz.prog 45 #[.int .i64 n, A4 B] w fun x w' => x = .returned (.tuple #[A4 (quV n B), .int .i64 (quE n B)]) ∧ Below w.heap.size w w' := by
  have c11 := fun w => runpack_any n B w hB
  unfold quV quE
  by_cases h : goodN n B
  · rw [if_pos h, if_pos h]
    rw [show unE n B = 0 from if_pos h] at c11
    have c13 := fun w => rpack_any n (hush (unD n B)) w (unD_k n B)
    exact rquiet_g n B _ _ w _ _ _ _ _ c11 c13
  · rw [if_neg h, if_neg h, Z4_eq]
    rw [show unE n B = 1 from if_neg h] at c11
    exact rquiet_b n B w _ _ _ _ _ c11
theorem qu_any (n : Int) (B : Nat) (w : World) (hT : Tab w) (hB : B < 2 ^ 256) :
    Calls Tryz.prog 83 #[.int .i64 n, A4 B] w fun x w' => x = .returned (.tuple #[A4 (quV n B), .int .i64 (quE n B)]) ∧ Below w.heap.size w w' := by
  have c11 := fun w hT => unpack_any n B w hT hB
  unfold quV quE
  by_cases h : goodN n B
  · rw [if_pos h, if_pos h]
    rw [show unE n B = 0 from if_pos h] at c11
    have c13 := fun w hT => pack_any n (hush (unD n B)) w hT (unD_k n B)
    exact quiet_g n B _ _ w _ _ _ _ _ hT c11 c13
  · rw [if_neg h, if_neg h, Z4_eq]
    rw [show unE n B = 1 from if_neg h] at c11
    exact quiet_b n B w _ _ _ _ _ hT c11
end
end Go.Proofs.YtgknbdehlmlipaaGreatDoor
