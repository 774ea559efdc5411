/-
  Texts that the proof leans on, joined: Uo, Ur.
-/
import Derived.Test.YtmommdhnogogdaaGreatDoorJ46
import Derived.Test.YtmommdhnogogdaaGreatDoorJ34
import Derived.Test.YtmommdhnogogdaaGreatDoorJ42
import Derived.Test.YtmommdhnogogdaaGreatDoorJ49
import Derived.Deep.MidRow
import Derived.Test.YtmommdhnogogdaaGreatDoorJ22
import Derived.Test.YtmommdhnogogdaaGreatDoorJ19
set_option linter.unusedVariables false
set_option linter.unusedSectionVars false
set_option linter.unusedSimpArgs false
set_option maxRecDepth 20000
namespace Go.Proofs.YtmommdhnogogdaaGreatDoor
open Go.RowKit
/-- a datum's cells -/
abbrev zd : Array Value := #[.int .i64 0, .bool false, .bool false, .int .i64 0, .int .u64 0, .int .u64 0, .int .u64 0, .int .u64 0]
abbrev dvc (c : Int) (s g : Bool) (x : Int) (k : Nat) : Array Value := #[.int .i64 c, .bool s, .bool g, .int .i64 x, .int .u64 (W4 k 0), .int .u64 (W4 k 1), .int .u64 (W4 k 2), .int .u64 (W4 k 3)]
theorem below_cellsD {n b : Nat} {a : World} (hb : n ≤ b) : ∀ (vs : List Value) (o : Nat) (W : World), Below n a W → Below n a (W.setCells b o vs)
  | [], _, _, h => h
  | v :: r, o, W, h => below_cellsD hb r (o + 1) _ (h.setCell hb v)
/-- a block that holds a datum -/
def D8 (g : Nat) (cs : Array Value) (w : World) : Prop := g < w.heap.size ∧ cs.size = 8 ∧ (∀ i, i < 8 → w.cell? ⟨g, i, none⟩ = cs[i]?) ∧ ∀ i, w.frozen? ⟨g, i, none⟩ = false
theorem D8.next {g : Nat} {cs : Array Value} {w w' : World} (h : D8 g cs w) (hb : Below w.heap.size w w') : D8 g cs w' :=
  ⟨Nat.lt_of_lt_of_le h.1 hb.size, h.2.1, fun i hi => (hb.cell (p := ⟨g, i, none⟩) h.1).trans (h.2.2.1 i hi), fun i => (hb.frozen (p := ⟨g, i, none⟩) h.1).trans (h.2.2.2 i)⟩
theorem D8.new (w : World) : D8 w.heap.size zd (w.alloc (.cells zd 28)) := by
  refine ⟨by simp, rfl, fun i hi => ?_, fun i => ?_⟩
  · rw [World.cell?_alloc_new]
  · simp [go_sem]
theorem D8.put {g : Nat} {cs cs' : Array Value} {w : World} (h : D8 g cs w) (hs : cs'.size = 8) : D8 g cs' (w.setCells g 0 cs'.toList) := by
  have hin := World.cell?_setCells_in g cs'.toList 0 w (fun j hj => by
    rw [Nat.zero_add, h.2.2.1 j (by simpa [hs] using hj), Array.getElem?_eq_getElem (by rw [h.2.1]; simpa [hs] using hj)]; rfl)
  refine ⟨Nat.lt_of_lt_of_le h.1 (below_cellsD (n := 0) (Nat.zero_le _) _ _ _ (Below.refl 0 w)).size, hs, fun i hi => ?_, fun i => ?_⟩
  · have := hin i (by simpa [hs] using hi)
    rw [Nat.zero_add] at this
    rw [this, Array.getElem?_eq_getElem (by rw [hs]; exact hi)]
    simp
  · rw [World.frozen?_setCells]; exact h.2.2.2 i
attribute [local irreducible] W4 Nt NT
section
variable {a : Act} {w : World} {K : Act → World → Prop} {Q : Exit → Act → World → Prop} {d p q : Nat} {ty : TypeId} {pos : String} {after : Array Edge} {gd : Option (Nat × Bool)}
theorem od_fa1 {g : Nat} (h1 : slot a p = .pointer (some ⟨g, 0, none⟩)) (hK : K (a.put (some d) (.pointer (some ⟨g, 1, none⟩))) w) : Oper.wp Tryz.prog { dst := some d, op := Op.fieldAddr 28 (Operand.tmp p) 1, type := ty, pos := pos, after := after, guard := gd } a w K Q := by
  unfold slot at h1
  simp [go_sem, h1]
  exact hK
theorem od_ld4 {g i : Nat} {v : Value} (h1 : slot a p = .pointer (some ⟨g, i, none⟩)) (h2 : w.cell? ⟨g, i, none⟩ = some v) (hK : K (a.put (some d) v) w) : Oper.wp Tryz.prog { dst := some d, op := Op.load 4 (Operand.tmp p), type := ty, pos := pos, after := after, guard := gd } a w K Q := by
  unfold slot at h1
  simp [go_sem, h1, h2]
  exact hK
theorem od_alc (hK : K (a.put (some d) (.pointer (some ⟨w.heap.size, 0, none⟩))) (w.alloc (.cells zd 28))) : Oper.wp Tryz.prog { dst := some d, op := Op.alloc 28, type := ty, pos := pos, after := after, guard := gd } a w K Q := by
  simp [go_sem]
  exact hK
theorem od_st {g : Nat} {c x : Int} {s b : Bool} {k : Nat} {cs : Array Value} (h1 : slot a p = .pointer (some ⟨g, 0, none⟩)) (h2 : slot a q = DV c s b x k) (hB : D8 g cs w) (hK : K (a.put none undef) (w.setCells g 0 (dvc c s b x k).toList)) : Oper.wp Tryz.prog { dst := none, op := Op.store 28 (Operand.tmp p) (Operand.tmp q), type := ty, pos := pos, after := after, guard := gd } a w K Q := by
  refine wp_store_mid 28 (.tmp p) (.tmp q) rfl g 0 (dvc c s b x k) (by unfold slot at h1; simp [go_sem, h1]) (by unfold slot at h2; simp [go_sem, h2]) (fun j hj => ?_) (by kernel_rfl) (by simp [Value.oneCell']) hK
  rw [Nat.zero_add, hB.2.2.1 j hj, Array.getElem?_eq_getElem (by rw [hB.2.1]; exact hj)]
  exact ⟨rfl, hB.2.2.2 j⟩
theorem od_bs1 (hK : K (a.put (some d) (.slice (some ⟨w.heap.size, 0, none⟩) 1 1)) (w.alloc (.cells #[.int .u64 1] 22))) : Oper.wp Tryz.prog { dst := some d, op := Op.buildSlice 25 1 #[(0, Operand.const (.int .u64 1))], type := ty, pos := pos, after := after, guard := gd } a w K Q := by
  simp [go_sem]
  exact hK
theorem og_c7 {F : Nat} {p0 p1 p2 p3 p4 p5 p6 : Nat} {u0 u1 u2 u3 u4 u5 u6 : Value} {ts : Array TypeId} (hr : Sem.run Tryz.prog (callFunc F #[u0, u1, u2, u3, u4, u5, u6]) w = .ok (.enter F #[u0, u1, u2, u3, u4, u5, u6]) w) (h0 : slot a p0 = u0) (h1 : slot a p1 = u1) (h2 : slot a p2 = u2) (h3 : slot a p3 = u3) (h4 : slot a p4 = u4) (h5 : slot a p5 = u5) (h6 : slot a p6 = u6) (hc : Calls Tryz.prog F #[u0, u1, u2, u3, u4, u5, u6] w fun e w' => ∃ v, e = .returned v ∧ K (a.put (some d) v) w') : Oper.wp Tryz.prog { dst := some d, op := Op.call { callee := Callee.value (Operand.func F), args := #[Operand.tmp p0, Operand.tmp p1, Operand.tmp p2, Operand.tmp p3, Operand.tmp p4, Operand.tmp p5, Operand.tmp p6], argTypes := ts }, type := ty, pos := pos, after := after, guard := gd } a w K Q := by
  unfold slot at h0 h1 h2 h3 h4 h5 h6
  simp [go_sem, h0, h1, h2, h3, h4, h5, h6, hr]
  refine hc.mono ?_
  rintro e w' ⟨v, rfl, hK⟩
  exact hK
end
theorem od_below (w : World) : Below w.heap.size w (w.alloc (.cells #[.int .u64 1] 22)) := below1 w _
theorem od_one (w : World) : Nt 1 1 (.slice (some ⟨w.heap.size, 0, none⟩) 1 1) (w.alloc (.cells #[.int .u64 1] 22)) := by
  unfold Nt
  exact ⟨_, 1, 1, oneW 1, rfl, Nat.le_refl _, num_one w 1 (by decide), val_one1 _⟩
noncomputable def opsM7 : List Oper := (Tryz.f4.body.bind (findR 7)).getD []
def slotsM7 : List Nat := [55, 56, 57, 58, 59, 60, 61, 62, 63, 64, 65, 54, 66, 67, 68, 14, 130, 15]
def slotsAM7 : List Nat := [55, 56, 57, 58, 59, 60, 61, 62, 63, 64, 65, 54, 66, 67, 68, 14, 130, 15, 16]
/-- what stands while the statement is under way -/
def M7 (ws : World) (cv : Array Value) (L : Nat → Prop) (f : Nat → Value) (w : World) : Prop :=
  Below ws.heap.size ws w ∧ (L 6 → L 10 ∨ Nt 1 1 (f 61) w) ∧ (L 15 → ∃ g cs, f 14 = .pointer (some ⟨g, 0, none⟩) ∧ ws.heap.size ≤ g ∧ D8 g cs w ∧ (L 16 → cs = cv))
theorem M7.step {ws w : World} {cv : Array Value} {k t : Nat} {L : Nat → Prop} {f : Nat → Value} {v : Value} (h : M7 ws cv L f w) (h1 : t ≠ 61) (h2 : t ≠ 14) (h3 : k ≠ 6) (h4 : k ≠ 15) (h5 : k ≠ 16) (h6 : k ≠ 10) : M7 ws cv (fun j => L j ∨ j = k) (fun u => if some t = some u then v else f u) w := by
  obtain ⟨a1, a2, a3⟩ := h
  have e61 : (if some t = some 61 then v else f 61) = f 61 := if_neg (fun e => h1 (Option.some.inj e))
  have e14 : (if some t = some 14 then v else f 14) = f 14 := if_neg (fun e => h2 (Option.some.inj e))
  refine ⟨a1, fun h => ?_, fun h => ?_⟩
  · rcases a2 (h.resolve_right (fun e => h3 e.symm)) with q | q
    · exact Or.inl (Or.inl q)
    · right; show Nt 1 1 (if some t = some 61 then v else f 61) w; rw [e61]; exact q
  · obtain ⟨g, cs, b1, b2, b3, b4⟩ := a3 (h.resolve_right (fun e => h4 e.symm))
    exact ⟨g, cs, e14.trans b1, b2, b3, fun h => b4 (h.resolve_right (fun e => h5 e.symm))⟩
set_option maxHeartbeats 4000000 in
theorem regM7 {TT : World → Prop} (hTT : ∀ w w', TT w → Below w.heap.size w w' → TT w') {g9 uk vk : Nat} {n d y ux vc vx F Er : Int} {us vs vg : Bool} {a0 : Act} {ws : World} {Q : Exit → Act → World → Prop} (hs : a0.tmps.size = 146) (hTW : TT ws)
    (g0 : slot a0 0 = .int .i64 n) (g1 : slot a0 1 = .int .i64 d) (g3 : slot a0 3 = .int .i64 y) (gg9 : slot a0 9 = .pointer (some ⟨g9, 0, none⟩)) (hlt : g9 < ws.heap.size)
    (q1 : ws.cell? ⟨g9, 1, none⟩ = some (.bool us)) (q3 : ws.cell? ⟨g9, 3, none⟩ = some (.int .i64 ux)) (uC : Nt 4 uk (.slice (some ⟨g9, 4, none⟩) 4 4) ws)
    (cD : ∀ W v v', TT W → Nt 4 uk v W → Nt 1 1 v' W → Calls Tryz.prog 11 #[.int .i64 n, .int .i64 d, .bool us, v, v', .int .i64 ux, .int .i64 y] W fun r w' => r = .returned (.tuple #[DV vc vs vg vx vk, .int .i64 F, .int .i64 Er]) ∧ Below W.heap.size W w')
    (hQ : ∀ (a : Act) (w : World) (g : Nat), slot a 14 = .pointer (some ⟨g, 0, none⟩) → slot a 15 = .int .i64 F → slot a 16 = .int .i64 Er → ws.heap.size ≤ g → D8 g (dvc vc vs vg vx vk) w → a.tmps.size = 146 → a.defers = a0.defers → (∀ t, (∀ i, i < 19 → slotsAM7.getD i 0 ≠ t) → slot a t = slot a0 t) → Below ws.heap.size ws w → Q .normal a w) :
    (Code.region 7 opsM7.toArray true).wp Tryz.prog Q a0 ws := by
  refine wp_region_memg 18 146 slotsM7 [iW (.int .i64 n), iW (.int .i64 d), iW (.pointer (some ⟨g9, 1, none⟩)), iW (.bool us), iW (.pointer (some ⟨g9, 4, none⟩)), iW (.slice (some ⟨g9, 4, none⟩) 4 4), (fun _ _ => True), iW (.pointer (some ⟨g9, 3, none⟩)), iW (.int .i64 ux), iW (.int .i64 y), iW (.tuple #[DV vc vs vg vx vk, .int .i64 F, .int .i64 Er]), iW (.tuple #[DV vc vs vg vx vk, .int .i64 F, .int .i64 Er]), iW (DV vc vs vg vx vk), iW (.int .i64 F), iW (.int .i64 Er), (fun _ _ => True), (fun _ _ => True), iW (.int .i64 F)] (fun _ _ => True) (M7 ws (dvc vc vs vg vx vk)) [] [] (by kernel_rfl) (by kernel_rfl) (by kernel_rfl) (by kernel_rfl) hs ?_ (fun _ => trivial) ?_ ?_ ⟨(Below.refl _ _).drew, fun h => h.elim, fun h => h.elim⟩ ?_ ?_ ?_
  · intro j c hj hc
    cases hc
  · intro p hp
    simp only [List.mem_cons, List.not_mem_nil, or_false] at hp
    rcases hp with rfl | rfl | rfl | rfl | rfl | rfl | rfl | rfl | rfl | rfl | rfl | rfl | rfl | rfl | rfl | rfl | rfl | rfl
    all_goals exact fun _ _ _ h _ => h
  · intro i hi hG
    cases hG
  · intro L i o a w hi ho hG
    cases hG
  · intro L i o a w hi ho hG hL hcl he hM hF hv
    have f0 : slot a 0 = .int .i64 n := (hF 0 (by decide)).trans g0
    have f1 : slot a 1 = .int .i64 d := (hF 1 (by decide)).trans g1
    have f3 : slot a 3 = .int .i64 y := (hF 3 (by decide)).trans g3
    have f9 : slot a 9 = .pointer (some ⟨g9, 0, none⟩) := (hF 9 (by decide)).trans gg9
    have hB := hM.1
    have k1 : w.cell? ⟨g9, 1, none⟩ = some (.bool us) := (hB.cell (p := ⟨g9, 1, none⟩) hlt).trans q1
    have k3 : w.cell? ⟨g9, 3, none⟩ = some (.int .i64 ux) := (hB.cell (p := ⟨g9, 3, none⟩) hlt).trans q3
    have hor : i = 0 ∨ i = 1 ∨ i = 2 ∨ i = 3 ∨ i = 4 ∨ i = 5 ∨ i = 6 ∨ i = 7 ∨ i = 8 ∨ i = 9 ∨ i = 10 ∨ i = 11 ∨ i = 12 ∨ i = 13 ∨ i = 14 ∨ i = 15 ∨ i = 16 ∨ i = 17 := by omega
    rcases hor with rfl | rfl | rfl | rfl | rfl | rfl | rfl | rfl | rfl | rfl | rfl | rfl | rfl | rfl | rfl | rfl | rfl | rfl
    · obtain rfl := Option.some.inj (show opsM7[0]? = some o from ho)
      exact og_mv f0 ⟨_, rfl, rfl, trivial, hM.step (by decide) (by decide) (by decide) (by decide) (by decide) (by decide)⟩
    · obtain rfl := Option.some.inj (show opsM7[1]? = some o from ho)
      exact og_mv f1 ⟨_, rfl, rfl, trivial, hM.step (by decide) (by decide) (by decide) (by decide) (by decide) (by decide)⟩
    · obtain rfl := Option.some.inj (show opsM7[2]? = some o from ho)
      exact od_fa1 f9 ⟨_, rfl, rfl, trivial, hM.step (by decide) (by decide) (by decide) (by decide) (by decide) (by decide)⟩
    · obtain rfl := Option.some.inj (show opsM7[3]? = some o from ho)
      exact od_ld4 (hv 2 (by decide) rfl (he ⟨2, .data⟩ (by simp) rfl) : slot a 57 = .pointer (some ⟨g9, 1, none⟩)) k1 ⟨_, rfl, rfl, trivial, hM.step (by decide) (by decide) (by decide) (by decide) (by decide) (by decide)⟩
    · obtain rfl := Option.some.inj (show opsM7[4]? = some o from ho)
      exact og_fad4 f9 ⟨_, rfl, rfl, trivial, hM.step (by decide) (by decide) (by decide) (by decide) (by decide) (by decide)⟩
    · obtain rfl := Option.some.inj (show opsM7[5]? = some o from ho)
      exact og_sl4 (hv 4 (by decide) rfl (he ⟨4, .data⟩ (by simp) rfl) : slot a 59 = .pointer (some ⟨g9, 4, none⟩)) ⟨_, rfl, rfl, trivial, hM.step (by decide) (by decide) (by decide) (by decide) (by decide) (by decide)⟩
    · obtain rfl := Option.some.inj (show opsM7[6]? = some o from ho)
      have hb1 := od_below w
      obtain ⟨a1, a2, a3⟩ := hM
      refine od_bs1 ⟨_, rfl, trivial, trivial, bnx hB hb1, fun _ => Or.inr ?_, fun h15 => ?_⟩
      · exact od_one w
      · obtain ⟨g, cs, b1, b2, b3, b4⟩ := a3 (h15.resolve_right (by decide))
        exact ⟨g, cs, b1, b2, b3.next hb1, fun h => b4 (h.resolve_right (by decide))⟩
    · obtain rfl := Option.some.inj (show opsM7[7]? = some o from ho)
      exact og_fad3 f9 ⟨_, rfl, rfl, trivial, hM.step (by decide) (by decide) (by decide) (by decide) (by decide) (by decide)⟩
    · obtain rfl := Option.some.inj (show opsM7[8]? = some o from ho)
      exact og_ld3 (hv 7 (by decide) rfl (he ⟨7, .data⟩ (by simp) rfl) : slot a 62 = .pointer (some ⟨g9, 3, none⟩)) k3 ⟨_, rfl, rfl, trivial, hM.step (by decide) (by decide) (by decide) (by decide) (by decide) (by decide)⟩
    · obtain rfl := Option.some.inj (show opsM7[9]? = some o from ho)
      exact og_mv f3 ⟨_, rfl, rfl, trivial, hM.step (by decide) (by decide) (by decide) (by decide) (by decide) (by decide)⟩
    · obtain rfl := Option.some.inj (show opsM7[10]? = some o from ho)
      obtain ⟨a1, a2, a3⟩ := hM
      have l6 := he ⟨6, .data⟩ (by simp) rfl
      have h1 : Nt 1 1 (slot a 61) w := (a2 l6).resolve_left hL
      refine og_c7 (by simp [go_sem]) (hv 0 (by decide) rfl (he ⟨0, .data⟩ (by simp) rfl) : slot a 55 = .int .i64 n) (hv 1 (by decide) rfl (he ⟨1, .data⟩ (by simp) rfl) : slot a 56 = .int .i64 d) (hv 3 (by decide) rfl (he ⟨3, .data⟩ (by simp) rfl) : slot a 58 = .bool us) (hv 5 (by decide) rfl (he ⟨5, .data⟩ (by simp) rfl) : slot a 60 = .slice (some ⟨g9, 4, none⟩) 4 4) rfl (hv 8 (by decide) rfl (he ⟨8, .data⟩ (by simp) rfl) : slot a 63 = .int .i64 ux) (hv 9 (by decide) rfl (he ⟨9, .data⟩ (by simp) rfl) : slot a 64 = .int .i64 y) ((cD w _ _ (hTT _ _ hTW hB) (uC.next hB) h1).mono ?_)
      rintro e w' ⟨rfl, hb⟩
      refine ⟨_, rfl, _, rfl, rfl, trivial, bnx hB hb, fun _ => Or.inl (Or.inr rfl), fun h15 => ?_⟩
      obtain ⟨g, cs, b1, b2, b3, b4⟩ := a3 (h15.resolve_right (by decide))
      exact ⟨g, cs, b1, b2, b3.next hb, fun h => b4 (h.resolve_right (by decide))⟩
    · obtain rfl := Option.some.inj (show opsM7[11]? = some o from ho)
      exact og_mv (hv 10 (by decide) rfl (he ⟨10, .data⟩ (by simp) rfl) : slot a 65 = .tuple #[DV vc vs vg vx vk, .int .i64 F, .int .i64 Er]) ⟨_, rfl, rfl, trivial, hM.step (by decide) (by decide) (by decide) (by decide) (by decide) (by decide)⟩
    · obtain rfl := Option.some.inj (show opsM7[12]? = some o from ho)
      exact og_ext (hv 11 (by decide) rfl (he ⟨11, .data⟩ (by simp) rfl) : slot a 54 = .tuple #[DV vc vs vg vx vk, .int .i64 F, .int .i64 Er]) rfl ⟨_, rfl, rfl, trivial, hM.step (by decide) (by decide) (by decide) (by decide) (by decide) (by decide)⟩
    · obtain rfl := Option.some.inj (show opsM7[13]? = some o from ho)
      exact og_ext (hv 11 (by decide) rfl (he ⟨11, .data⟩ (by simp) rfl) : slot a 54 = .tuple #[DV vc vs vg vx vk, .int .i64 F, .int .i64 Er]) rfl ⟨_, rfl, rfl, trivial, hM.step (by decide) (by decide) (by decide) (by decide) (by decide) (by decide)⟩
    · obtain rfl := Option.some.inj (show opsM7[14]? = some o from ho)
      exact og_ext (hv 11 (by decide) rfl (he ⟨11, .data⟩ (by simp) rfl) : slot a 54 = .tuple #[DV vc vs vg vx vk, .int .i64 F, .int .i64 Er]) rfl ⟨_, rfl, rfl, trivial, hM.step (by decide) (by decide) (by decide) (by decide) (by decide) (by decide)⟩
    · have hL16 : ¬ L 16 := fun h => hL (hcl 16 _ (show opsM7[16]? = some _ from rfl) h ⟨15, .data⟩ (by simp) rfl)
      obtain rfl := Option.some.inj (show opsM7[15]? = some o from ho)
      have hb := below1 w (.cells zd 28)
      obtain ⟨a1, a2, a3⟩ := hM
      refine od_alc ⟨_, rfl, trivial, trivial, bnx hB hb, fun h6 => ?_, fun _ => ⟨_, zd, rfl, hB.size, D8.new w, fun h => absurd (h.resolve_right (by decide)) hL16⟩⟩
      rcases a2 (h6.resolve_right (by decide)) with q | q
      · exact Or.inl (Or.inl q)
      · exact Or.inr (q.next hb)
    · obtain rfl := Option.some.inj (show opsM7[16]? = some o from ho)
      obtain ⟨a1, a2, a3⟩ := hM
      have l15 := he ⟨15, .data⟩ (by simp) rfl
      have l12 := he ⟨12, .data⟩ (by simp) rfl
      have l11 := hcl 12 _ (show opsM7[12]? = some _ from rfl) l12 ⟨11, .data⟩ (by simp) rfl
      have l10 := hcl 11 _ (show opsM7[11]? = some _ from rfl) l11 ⟨10, .data⟩ (by simp) rfl
      obtain ⟨g, cs, b1, b2, b3, b4⟩ := a3 l15
      exact od_st b1 (hv 12 (by decide) rfl l12 : slot a 66 = DV vc vs vg vx vk) b3 ⟨.bool false, rfl, trivial, trivial, below_cellsD b2 _ _ _ hB, fun _ => Or.inl (Or.inl l10), fun _ => ⟨g, _, b1, b2, b3.put rfl, fun _ => rfl⟩⟩
    · obtain rfl := Option.some.inj (show opsM7[17]? = some o from ho)
      exact og_as (hv 13 (by decide) rfl (he ⟨13, .data⟩ (by simp) rfl) : slot a 67 = .int .i64 F) ⟨_, rfl, rfl, trivial, hM.step (by decide) (by decide) (by decide) (by decide) (by decide) (by decide)⟩
  · intro L a w hL hM hsz hdf hF hv
    obtain ⟨hB, a2, a3⟩ := hM
    obtain ⟨g, cs, e14, hg, hD, hc⟩ := a3 (hL 15 (by decide))
    obtain rfl := hc (hL 16 (by decide))
    have h15 : slot a 15 = .int .i64 F := hv 17 (by decide) rfl
    have h68 : slot a 68 = .int .i64 Er := hv 14 (by decide) rfl
    refine BigFrame.wpList_want rfl fun K hK => og_as h68 (hK _ _ ?_)
    clear K hK
    refine hQ _ _ g ?_ ?_ (slot_put (by omega)) hg hD (by simp only [put_sizeV]; exact hsz) hdf (fun t ht => ?_) hB
    · rw [slot_put_ne (by decide)]; exact e14
    · rw [slot_put_ne (by decide)]; exact h15
    · rw [slot_put_ne (show 16 ≠ t from ht 18 (by decide))]
      exact hF t fun i hi => by
        have hor : i = 0 ∨ i = 1 ∨ i = 2 ∨ i = 3 ∨ i = 4 ∨ i = 5 ∨ i = 6 ∨ i = 7 ∨ i = 8 ∨ i = 9 ∨ i = 10 ∨ i = 11 ∨ i = 12 ∨ i = 13 ∨ i = 14 ∨ i = 15 ∨ i = 16 ∨ i = 17 := by omega
        rcases hor with rfl | rfl | rfl | rfl | rfl | rfl | rfl | rfl | rfl | rfl | rfl | rfl | rfl | rfl | rfl | rfl | rfl | rfl
        · exact ht 0 (by decide)
        · exact ht 1 (by decide)
        · exact ht 2 (by decide)
        · exact ht 3 (by decide)
        · exact ht 4 (by decide)
        · exact ht 5 (by decide)
        · exact ht 6 (by decide)
        · exact ht 7 (by decide)
        · exact ht 8 (by decide)
        · exact ht 9 (by decide)
        · exact ht 10 (by decide)
        · exact ht 11 (by decide)
        · exact ht 12 (by decide)
        · exact ht 13 (by decide)
        · exact ht 14 (by decide)
        · exact ht 15 (by decide)
        · exact ht 16 (by decide)
        · exact ht 17 (by decide)
end Go.Proofs.YtmommdhnogogdaaGreatDoor

namespace Go.Proofs.YtmommdhnogogdaaGreatDoor
open Go.RowKit
def TUD (A B : Nat) (v : Value) (w : World) : Prop := ∃ q r, v = .tuple #[q, r] ∧ NT 7000 A q w ∧ NT 7000 B r w
theorem TUD.next {A B : Nat} {v : Value} {w w' : World} (h : TUD A B v w) (hb : Below w.heap.size w w') : TUD A B v w' := by
  obtain ⟨q, r, e, hq, hr⟩ := h
  exact ⟨q, r, e, hq.next hb, hr.next hb⟩
attribute [local irreducible] W4 Nt NT
section
variable {a : Act} {w : World} {K : Act → World → Prop} {Q : Exit → Act → World → Prop} {d p q : Nat} {ty : TypeId} {pos : String} {after : Array Edge} {gd : Option (Nat × Bool)}
theorem od_un1 (hK : K (a.put (some d) (.slice (some ⟨w.heap.size, 0, none⟩) 1 1)) (w.alloc (.cells #[.int .u64 1] 22))) : Oper.wp Tryz.prog { dst := some d, op := Op.buildSlice 25 1 #[(0, Operand.const (.int .u64 1))], type := ty, pos := pos, after := after, guard := gd } a w K Q := by
  simp [go_sem]
  exact hK
theorem od_unt (hK : K (a.put (some d) (.slice (some ⟨w.heap.size, 0, none⟩) 1 1)) (w.alloc (.cells #[.int .u64 10] 22))) : Oper.wp Tryz.prog { dst := some d, op := Op.buildSlice 25 1 #[(0, Operand.const (.int .u64 10))], type := ty, pos := pos, after := after, guard := gd } a w K Q := by
  simp [go_sem]
  exact hK
theorem od_not {b : Bool} (h1 : slot a p = .bool b) (hK : K (a.put (some d) (.bool (!b))) w) : Oper.wp Tryz.prog { dst := some d, op := Op.unOp UnOp.not 4 (Operand.tmp p), type := ty, pos := pos, after := after, guard := gd } a w K Q := by
  unfold slot at h1
  simp [go_sem, h1]
  exact hK
theorem od_fi4 {g : Nat} (h1 : slot a p = .pointer (some ⟨g, 0, none⟩)) (hK : K (a.put (some d) (.pointer (some ⟨g, 4, none⟩))) w) : Oper.wp Tryz.prog { dst := some d, op := Op.fieldAddr 37 (Operand.tmp p) 4, type := ty, pos := pos, after := after, guard := gd } a w K Q := by
  unfold slot at h1
  simp [go_sem, h1]
  exact hK
theorem od_sb2 {x y z : Int} (h0 : -100000 ≤ z) (h1 : z ≤ 100000) (hz : x - y = z) (hx : slot a p = .int .i64 x) (hy : slot a q = .int .i64 y) (hK : K (a.put (some d) (.int .i64 z)) w) : Oper.wp Tryz.prog { dst := some d, op := Op.binOp BinOp.sub 3 (Operand.tmp p) (Operand.tmp q) 3, type := ty, pos := pos, after := after, guard := gd } a w K Q := by
  unfold slot at hx hy
  have e : IntKind.i64.wrap (x - y) = z := by rw [IntKind.wrap_i64]; omega
  simp [go_sem, hx, hy, e]
  exact hK
theorem od_c4s {F : Nat} {p0 p1 p3 : Nat} {u0 u1 u2 u3 : Value} {ts : Array TypeId} (hr : Sem.run Tryz.prog (callFunc F #[u0, u1, u2, u3]) w = .ok (.enter F #[u0, u1, u2, u3]) w) (h0 : slot a p0 = u0) (h1 : slot a p1 = u1) (h3 : slot a p3 = u3) (hc : Calls Tryz.prog F #[u0, u1, u2, u3] w fun e w' => ∃ v, e = .returned v ∧ K (a.put (some d) v) w') : Oper.wp Tryz.prog { dst := some d, op := Op.call { callee := Callee.value (Operand.func F), args := #[Operand.tmp p0, Operand.tmp p1, Operand.const u2, Operand.tmp p3], argTypes := ts }, type := ty, pos := pos, after := after, guard := gd } a w K Q := by
  unfold slot at h0 h1 h3
  simp [go_sem, h0, h1, h3, hr]
  refine hc.mono ?_
  rintro e w' ⟨v, rfl, hK⟩
  exact hK
theorem od_c3s {F : Nat} {p0 p2 : Nat} {u0 u1 u2 : Value} {ts : Array TypeId} (hr : Sem.run Tryz.prog (callFunc F #[u0, u1, u2]) w = .ok (.enter F #[u0, u1, u2]) w) (h0 : slot a p0 = u0) (h2 : slot a p2 = u2) (hc : Calls Tryz.prog F #[u0, u1, u2] w fun e w' => ∃ v, e = .returned v ∧ K (a.put (some d) v) w') : Oper.wp Tryz.prog { dst := some d, op := Op.call { callee := Callee.value (Operand.func F), args := #[Operand.tmp p0, Operand.const u1, Operand.tmp p2], argTypes := ts }, type := ty, pos := pos, after := after, guard := gd } a w K Q := by
  unfold slot at h0 h2
  simp [go_sem, h0, h2, hr]
  refine hc.mono ?_
  rintro e w' ⟨v, rfl, hK⟩
  exact hK
end
noncomputable def opsM10 : List Oper := (Tryz.f4.body.bind (findR 10)).getD []
def slotsM10 : List Nat := [83, 84, 85, 86, 87, 88, 89, 90, 91, 92]
def slotsAM10 : List Nat := [83, 84, 85, 86, 87, 88, 89, 90, 91, 92, 82, 93, 94, 17, 18]
set_option maxHeartbeats 2000000 in
theorem regM10 {g g2 k A B : Nat} {x x2 z : Int} {a0 : Act} {ws : World} {Q : Exit → Act → World → Prop} (hP : ∀ c a d v w, Q (.panic c) (Act.put a d v) w → Q (.panic c) a w) (hs : a0.tmps.size = 146) (gg : slot a0 14 = .pointer (some ⟨g, 0, none⟩)) (hlg : g < ws.heap.size) (gg2 : slot a0 9 = .pointer (some ⟨g2, 0, none⟩)) (hlg2 : g2 < ws.heap.size) (r3 : ws.cell? ⟨g2, 3, none⟩ = some (.int .i64 x2)) (hz0 : -100000 ≤ z) (hz1 : z ≤ 100000) (hz : x - x2 = z)
    (q3 : ws.cell? ⟨g, 3, none⟩ = some (.int .i64 x)) (q4 : ws.cell? ⟨g, 4, none⟩ = some (.int .u64 (W4 k 0))) (q5 : ws.cell? ⟨g, 5, none⟩ = some (.int .u64 (W4 k 1))) (q6 : ws.cell? ⟨g, 6, none⟩ = some (.int .u64 (W4 k 2))) (q7 : ws.cell? ⟨g, 7, none⟩ = some (.int .u64 (W4 k 3)))
    (c1 : ∀ W, Calls Tryz.prog 13 #[A4 k] W fun e w' => ∃ v, e = .returned v ∧ NT 7000 k v w' ∧ Below W.heap.size W w')
    (c2 : ∀ W u v, NT 7000 k u W → NT 7000 1 v W → Calls Tryz.prog 12 #[u, v, .int .u64 10, .int .i64 z] W fun e w' => ∃ p q, e = .returned (.tuple #[p, q]) ∧ NT 7000 A p w' ∧ NT 7000 B q w' ∧ Below W.heap.size W w')
    (hQ : ∀ (a : Act) (w : World) (u v : Value), slot a 17 = u → slot a 18 = v → NT 7000 A u w → NT 7000 B v w → a.tmps.size = 146 → a.defers = a0.defers → (∀ t, (∀ i, i < 15 → slotsAM10.getD i 0 ≠ t) → slot a t = slot a0 t) → Below ws.heap.size ws w → Q .normal a w) :
    (Code.region 10 opsM10.toArray true).wp Tryz.prog Q a0 ws := by
  refine wp_region_memr 10 146 slotsM10 [iW (.pointer (some ⟨g, 4, none⟩)), iW (A4 k), NT 7000 k, NT 7000 1, iW (.pointer (some ⟨g, 3, none⟩)), iW (.int .i64 x), iW (.pointer (some ⟨g2, 3, none⟩)), iW (.int .i64 x2), iW (.int .i64 z), TUD A B] (fun w w' => Below w.heap.size w w') (fun L f w => Below ws.heap.size ws w) (by kernel_rfl) (by kernel_rfl) hP (by kernel_rfl) hs ?_ (Below.refl _ _).drew ?_ ?_
  · intro p hp
    simp only [List.mem_cons, List.not_mem_nil, or_false] at hp
    rcases hp with rfl | rfl | rfl | rfl | rfl | rfl | rfl | rfl | rfl | rfl
    all_goals first | exact fun _ _ _ h _ => h | exact fun _ _ _ h hb => h.next hb
  · intro L i o a w hi ho hL hcl he hM hF hv
    have fg : slot a 14 = .pointer (some ⟨g, 0, none⟩) := (hF 14 (by decide)).trans gg
    have fg2 : slot a 9 = .pointer (some ⟨g2, 0, none⟩) := (hF 9 (by decide)).trans gg2
    have hor : i = 0 ∨ i = 1 ∨ i = 2 ∨ i = 3 ∨ i = 4 ∨ i = 5 ∨ i = 6 ∨ i = 7 ∨ i = 8 ∨ i = 9 := by omega
    rcases hor with rfl | rfl | rfl | rfl | rfl | rfl | rfl | rfl | rfl | rfl
    · obtain rfl := Option.some.inj (show opsM10[0]? = some o from ho)
      exact og_fad4 fg ⟨_, rfl, rfl, Below.refl _ _, hM⟩
    · obtain rfl := Option.some.inj (show opsM10[1]? = some o from ho)
      exact og_ldB (i := 4) (hv 0 (by decide) rfl (he ⟨0, .data⟩ (by simp) rfl) : slot a 83 = .pointer (some ⟨g, 4, none⟩)) ((hM.cell (p := ⟨g, 4, none⟩) hlg).trans q4) ((hM.cell (p := ⟨g, 5, none⟩) hlg).trans q5) ((hM.cell (p := ⟨g, 6, none⟩) hlg).trans q6) ((hM.cell (p := ⟨g, 7, none⟩) hlg).trans q7) ⟨_, rfl, rfl, Below.refl _ _, hM⟩
    · obtain rfl := Option.some.inj (show opsM10[2]? = some o from ho)
      refine og_c1 (by simp [go_sem]) (hv 1 (by decide) rfl (he ⟨1, .data⟩ (by simp) rfl) : slot a 84 = A4 k) ((c1 w).mono ?_)
      rintro e w' ⟨v, rfl, hSv, hb⟩
      exact ⟨v, rfl, _, rfl, hSv, hb, bnx hM hb⟩
    · obtain rfl := Option.some.inj (show opsM10[3]? = some o from ho)
      exact od_un1 ⟨_, rfl, (nt_un1 rfl rfl (by decide) (by decide)).more (by decide), below1 _ _, bnx hM (below1 _ _)⟩
    · obtain rfl := Option.some.inj (show opsM10[4]? = some o from ho)
      exact og_fad3 fg ⟨_, rfl, rfl, Below.refl _ _, hM⟩
    · obtain rfl := Option.some.inj (show opsM10[5]? = some o from ho)
      exact og_ld3 (hv 4 (by decide) rfl (he ⟨4, .data⟩ (by simp) rfl) : slot a 87 = .pointer (some ⟨g, 3, none⟩)) ((hM.cell (p := ⟨g, 3, none⟩) hlg).trans q3) ⟨_, rfl, rfl, Below.refl _ _, hM⟩
    · obtain rfl := Option.some.inj (show opsM10[6]? = some o from ho)
      exact og_fad3 fg2 ⟨_, rfl, rfl, Below.refl _ _, hM⟩
    · obtain rfl := Option.some.inj (show opsM10[7]? = some o from ho)
      exact og_ld3 (hv 6 (by decide) rfl (he ⟨6, .data⟩ (by simp) rfl) : slot a 89 = .pointer (some ⟨g2, 3, none⟩)) ((hM.cell (p := ⟨g2, 3, none⟩) hlg2).trans r3) ⟨_, rfl, rfl, Below.refl _ _, hM⟩
    · obtain rfl := Option.some.inj (show opsM10[8]? = some o from ho)
      exact od_sb2 hz0 hz1 hz (hv 5 (by decide) rfl (he ⟨5, .data⟩ (by simp) rfl) : slot a 88 = .int .i64 x) (hv 7 (by decide) rfl (he ⟨7, .data⟩ (by simp) rfl) : slot a 90 = .int .i64 x2) ⟨_, rfl, rfl, Below.refl _ _, hM⟩
    · obtain rfl := Option.some.inj (show opsM10[9]? = some o from ho)
      refine od_c4s (by simp [go_sem]) rfl rfl (hv 8 (by decide) rfl (he ⟨8, .data⟩ (by simp) rfl) : slot a 91 = .int .i64 z) ((c2 w _ _ (hv 2 (by decide) rfl (he ⟨2, .data⟩ (by simp) rfl)) (hv 3 (by decide) rfl (he ⟨3, .data⟩ (by simp) rfl))).mono ?_)
      rintro e w' ⟨u, v, rfl, hu, hv', hb⟩
      exact ⟨_, rfl, _, rfl, ⟨u, v, rfl, hu, hv'⟩, hb, bnx hM hb⟩
  · intro L a w hL hM hsz hdf hF hv
    obtain ⟨q, r, e, hq, hr⟩ := (hv 9 (by decide) rfl : TUD A B (slot a 92) w)
    refine BigFrame.wpList_want rfl fun K hK => og_mv e (hK _ _ ?_)
    clear K hK
    refine BigFrame.wpList_want rfl fun K hK => og_ext (slot_put (by omega)) rfl (hK _ _ ?_)
    clear K hK
    refine BigFrame.wpList_want rfl fun K hK => og_ext ((slot_put_ne (by decide)).trans (slot_put (by omega))) rfl (hK _ _ ?_)
    clear K hK
    refine BigFrame.wpList_want rfl fun K hK => og_as ((slot_put_ne (by decide)).trans (slot_put (by rw [put_sizeV]; omega))) (hK _ _ ?_)
    clear K hK
    refine BigFrame.wpList_want rfl fun K hK => og_as ((slot_put_ne (by decide)).trans (slot_put (by simp only [put_sizeV]; omega))) (hK _ _ ?_)
    clear K hK
    refine hQ _ _ q r ((slot_put_ne (by decide)).trans (slot_put (by simp only [put_sizeV]; omega))) (slot_put (by simp only [put_sizeV]; omega)) hq hr (by simp only [put_sizeV]; exact hsz) hdf (fun t ht => ?_) hM
    rw [slot_put_ne (show 18 ≠ t from ht 14 (by decide)), slot_put_ne (show 17 ≠ t from ht 13 (by decide)), slot_put_ne (show 94 ≠ t from ht 12 (by decide)), slot_put_ne (show 93 ≠ t from ht 11 (by decide)), slot_put_ne (show 82 ≠ t from ht 10 (by decide))]
    exact hF t fun i hi => by
      have := ht i (by omega)
      have hor : i = 0 ∨ i = 1 ∨ i = 2 ∨ i = 3 ∨ i = 4 ∨ i = 5 ∨ i = 6 ∨ i = 7 ∨ i = 8 ∨ i = 9 := by omega
      rcases hor with rfl | rfl | rfl | rfl | rfl | rfl | rfl | rfl | rfl | rfl <;> exact this
noncomputable def opsM17 : List Oper := (Tryz.f4.body.bind (findR 17)).getD []
def slotsM17 : List Nat := [136, 137, 138, 139, 140, 141, 142, 143, 144]
def slotsAM17 : List Nat := [136, 137, 138, 139, 140, 141, 142, 143, 144, 145, 8]
set_option maxHeartbeats 2000000 in
theorem regM17 {g gi k T : Nat} {pr : Int} {R : Bool} {a0 : Act} {ws : World} {Q : Exit → Act → World → Prop} (hP : ∀ c a d v w, Q (.panic c) (Act.put a d v) w → Q (.panic c) a w) (hs : a0.tmps.size = 146) (gg : slot a0 14 = .pointer (some ⟨g, 0, none⟩)) (hlg : g < ws.heap.size) (ggi : slot a0 12 = .pointer (some ⟨gi, 0, none⟩)) (hlgi : gi < ws.heap.size)
    (i4 : ws.cell? ⟨gi, 4, none⟩ = some (.int .i64 pr)) (q4 : ws.cell? ⟨g, 4, none⟩ = some (.int .u64 (W4 k 0))) (q5 : ws.cell? ⟨g, 5, none⟩ = some (.int .u64 (W4 k 1))) (q6 : ws.cell? ⟨g, 6, none⟩ = some (.int .u64 (W4 k 2))) (q7 : ws.cell? ⟨g, 7, none⟩ = some (.int .u64 (W4 k 3)))
    (c1 : ∀ W, Calls Tryz.prog 13 #[A4 k] W fun e w' => ∃ v, e = .returned v ∧ NT 7000 k v w' ∧ Below W.heap.size W w')
    (c2 : ∀ W u v, NT 7000 k u W → NT 7000 10 v W → Calls Tryz.prog 15 #[u, v] W fun e w' => ∃ p, e = .returned p ∧ NT 7000 T p w' ∧ Below W.heap.size W w')
    (c3 : ∀ W u, NT 7000 T u W → Calls Tryz.prog 18 #[u] W fun e w' => e = .returned (A4 T) ∧ Below W.heap.size W w')
    (c4 : ∀ W, Calls Tryz.prog 17 #[A4 T, .int .i64 10, .int .i64 pr] W fun e w' => e = .returned (.bool R) ∧ Below W.heap.size W w')
    (hQ : ∀ (a : Act) (w : World), slot a 8 = .bool (!R) → a.tmps.size = 146 → a.defers = a0.defers → (∀ t, (∀ i, i < 11 → slotsAM17.getD i 0 ≠ t) → slot a t = slot a0 t) → Below ws.heap.size ws w → Q .normal a w) :
    (Code.region 17 opsM17.toArray true).wp Tryz.prog Q a0 ws := by
  refine wp_region_memr 9 146 slotsM17 [iW (.pointer (some ⟨g, 4, none⟩)), iW (A4 k), NT 7000 k, NT 7000 10, NT 7000 T, iW (A4 T), iW (.pointer (some ⟨gi, 4, none⟩)), iW (.int .i64 pr), iW (.bool R)] (fun w w' => Below w.heap.size w w') (fun L f w => Below ws.heap.size ws w) (by kernel_rfl) (by kernel_rfl) hP (by kernel_rfl) hs ?_ (Below.refl _ _).drew ?_ ?_
  · intro p hp
    simp only [List.mem_cons, List.not_mem_nil, or_false] at hp
    rcases hp with rfl | rfl | rfl | rfl | rfl | rfl | rfl | rfl | rfl
    all_goals first | exact fun _ _ _ h _ => h | exact fun _ _ _ h hb => h.next hb
  · intro L i o a w hi ho hL hcl he hM hF hv
    have fg : slot a 14 = .pointer (some ⟨g, 0, none⟩) := (hF 14 (by decide)).trans gg
    have fi : slot a 12 = .pointer (some ⟨gi, 0, none⟩) := (hF 12 (by decide)).trans ggi
    have hor : i = 0 ∨ i = 1 ∨ i = 2 ∨ i = 3 ∨ i = 4 ∨ i = 5 ∨ i = 6 ∨ i = 7 ∨ i = 8 := by omega
    rcases hor with rfl | rfl | rfl | rfl | rfl | rfl | rfl | rfl | rfl
    · obtain rfl := Option.some.inj (show opsM17[0]? = some o from ho)
      exact og_fad4 fg ⟨_, rfl, rfl, Below.refl _ _, hM⟩
    · obtain rfl := Option.some.inj (show opsM17[1]? = some o from ho)
      exact og_ldB (i := 4) (hv 0 (by decide) rfl (he ⟨0, .data⟩ (by simp) rfl) : slot a 136 = .pointer (some ⟨g, 4, none⟩)) ((hM.cell (p := ⟨g, 4, none⟩) hlg).trans q4) ((hM.cell (p := ⟨g, 5, none⟩) hlg).trans q5) ((hM.cell (p := ⟨g, 6, none⟩) hlg).trans q6) ((hM.cell (p := ⟨g, 7, none⟩) hlg).trans q7) ⟨_, rfl, rfl, Below.refl _ _, hM⟩
    · obtain rfl := Option.some.inj (show opsM17[2]? = some o from ho)
      refine og_c1 (by simp [go_sem]) (hv 1 (by decide) rfl (he ⟨1, .data⟩ (by simp) rfl) : slot a 137 = A4 k) ((c1 w).mono ?_)
      rintro e w' ⟨v, rfl, hSv, hb⟩
      exact ⟨v, rfl, _, rfl, hSv, hb, bnx hM hb⟩
    · obtain rfl := Option.some.inj (show opsM17[3]? = some o from ho)
      exact od_unt ⟨_, rfl, (nt_un1 rfl rfl (by decide) (by decide)).more (by decide), below1 _ _, bnx hM (below1 _ _)⟩
    · obtain rfl := Option.some.inj (show opsM17[4]? = some o from ho)
      refine og_c2 (by simp [go_sem]) rfl rfl ((c2 w _ _ (hv 2 (by decide) rfl (he ⟨2, .data⟩ (by simp) rfl)) (hv 3 (by decide) rfl (he ⟨3, .data⟩ (by simp) rfl))).mono ?_)
      rintro e w' ⟨v, rfl, hSv, hb⟩
      exact ⟨v, rfl, _, rfl, hSv, hb, bnx hM hb⟩
    · obtain rfl := Option.some.inj (show opsM17[5]? = some o from ho)
      refine og_c1 (by simp [go_sem]) rfl ((c3 w _ (hv 4 (by decide) rfl (he ⟨4, .data⟩ (by simp) rfl))).mono ?_)
      rintro e w' ⟨rfl, hb⟩
      exact ⟨_, rfl, _, rfl, rfl, hb, bnx hM hb⟩
    · obtain rfl := Option.some.inj (show opsM17[6]? = some o from ho)
      exact od_fi4 fi ⟨_, rfl, rfl, Below.refl _ _, hM⟩
    · obtain rfl := Option.some.inj (show opsM17[7]? = some o from ho)
      exact og_ld3 (hv 6 (by decide) rfl (he ⟨6, .data⟩ (by simp) rfl) : slot a 142 = .pointer (some ⟨gi, 4, none⟩)) ((hM.cell (p := ⟨gi, 4, none⟩) hlgi).trans i4) ⟨_, rfl, rfl, Below.refl _ _, hM⟩
    · obtain rfl := Option.some.inj (show opsM17[8]? = some o from ho)
      refine od_c3s (by simp [go_sem]) (hv 5 (by decide) rfl (he ⟨5, .data⟩ (by simp) rfl) : slot a 141 = A4 T) (hv 7 (by decide) rfl (he ⟨7, .data⟩ (by simp) rfl) : slot a 143 = .int .i64 pr) ((c4 w).mono ?_)
      rintro e w' ⟨rfl, hb⟩
      exact ⟨_, rfl, _, rfl, rfl, hb, bnx hM hb⟩
  · intro L a w hL hM hsz hdf hF hv
    have h144 : slot a 144 = .bool R := hv 8 (by decide) rfl
    refine BigFrame.wpList_want rfl fun K hK => od_not h144 (hK _ _ ?_)
    clear K hK
    refine BigFrame.wpList_want rfl fun K hK => og_as (slot_put (by omega)) (hK _ _ ?_)
    clear K hK
    refine hQ _ _ (slot_put (by simp only [put_sizeV]; omega)) (by simp only [put_sizeV]; exact hsz) hdf (fun t ht => ?_) hM
    rw [slot_put_ne (show 8 ≠ t from ht 10 (by decide)), slot_put_ne (show 145 ≠ t from ht 9 (by decide))]
    exact hF t fun i hi => by
      have := ht i (by omega)
      have hor : i = 0 ∨ i = 1 ∨ i = 2 ∨ i = 3 ∨ i = 4 ∨ i = 5 ∨ i = 6 ∨ i = 7 ∨ i = 8 := by omega
      rcases hor with rfl | rfl | rfl | rfl | rfl | rfl | rfl | rfl | rfl <;> exact this
end Go.Proofs.YtmommdhnogogdaaGreatDoor
