/-
  Texts that the proof leans on.
-/
import Derived.Test.YtgknbdehlmlipabGreatDoorJ40
import Derived.Test.YtgknbdehlmlipabGreatDoorJ11
import Derived.Test.YtgknbdehlmlipabGreatDoorJ27
import Derived.Test.YtgknbdehlmlipabGreatDoorJ12
import Derived.Test.YtgknbdehlmlipabGreatDoorJ31
import Derived.Test.YtgknbdehlmlipabGreatDoorJ26
import Derived.Test.YtgknbdehlmlipabGreatDoorJ29
import Derived.Deep.Cut
import Derived.Deep.CutRange
import Derived.Deep.MidRow
set_option linter.unusedVariables false
set_option linter.unusedSectionVars false
set_option linter.unusedSimpArgs false
set_option maxRecDepth 20000
namespace Go.Proofs.YtgknbdehlmlipabGreatDoor
open Go.RowKit
/-- a datum's cells -/
abbrev zd : Array Value := #[.int .i64 0, .bool false, .bool false, .int .i64 0, .int .u64 0, .int .u64 0, .int .u64 0, .int .u64 0]
theorem below_cellsD {n b : Nat} {a : World} (hb : n ≤ b) : ∀ (vs : List Value) (o : Nat) (W : World), Below n a W → Below n a (W.setCells b o vs)
  | [], _, _, h => h
  | v :: r, o, W, h => below_cellsD hb r (o + 1) _ (h.setCell hb v)
/-- a block that holds a datum -/
def D8 (g : Nat) (cs : Array Value) (w : World) : Prop := g < w.heap.size ∧ cs.size = 8 ∧ (∀ i, i < 8 → w.cell? ⟨g, i, none⟩ = cs[i]?) ∧ ∀ i, w.frozen? ⟨g, i, none⟩ = false
theorem D8.next {g : Nat} {cs : Array Value} {w w' : World} (h : D8 g cs w) (hb : Below w.heap.size w w') : D8 g cs w' :=
  ⟨Nat.lt_of_lt_of_le h.1 hb.size, h.2.1, fun i hi => (hb.cell (p := ⟨g, i, none⟩) h.1).trans (h.2.2.1 i hi), fun i => (hb.frozen (p := ⟨g, i, none⟩) h.1).trans (h.2.2.2 i)⟩
theorem D8.new (w : World) : D8 w.heap.size zd (w.alloc (.cells zd 48)) := by
  refine ⟨by simp, rfl, fun i hi => ?_, fun i => ?_⟩
  · rw [World.cell?_alloc_new]
  · simp [go_sem]
theorem D8.put {g : Nat} {cs cs' : Array Value} {w : World} (h : D8 g cs w) (hs : cs'.size = 8) : D8 g cs' (w.setCells g 0 cs'.toList) := by
  have hin := World.cell?_setCells_in g cs'.toList 0 w (fun j hj => by
    rw [Nat.zero_add, h.2.2.1 j (by simpa [hs] using hj), Array.getElem?_eq_getElem (by rw [h.2.1]; simpa [hs] using hj)]; rfl)
  refine ⟨Nat.lt_of_lt_of_le h.1 (below_cellsD (n := 0) (Nat.zero_le _) _ _ _ (Below.refl 0 w)).size, hs, fun i hi => ?_, fun i => ?_⟩
  · have := hin i (by simpa [hs] using hi)
    rw [Nat.zero_add] at this
    rw [this, Array.getElem?_eq_getElem (by rw [hs]; exact hi)]
    simp
  · rw [World.frozen?_setCells]; exact h.2.2.2 i
attribute [local irreducible] W4 Nt NT
section
variable {a : Act} {w : World} {K : Act → World → Prop} {Q : Exit → Act → World → Prop} {d p q : Nat} {ty : TypeId} {pos : String} {after : Array Edge} {gd : Option (Nat × Bool)}
end
/-- what stands while the statement is under way -/
def M7 (ws : World) (cv : Array Value) (L : Nat → Prop) (f : Nat → Value) (w : World) : Prop :=
  Below ws.heap.size ws w ∧ (L 6 → L 10 ∨ Nt 1 1 (f 61) w) ∧ (L 15 → ∃ g cs, f 14 = .pointer (some ⟨g, 0, none⟩) ∧ ws.heap.size ≤ g ∧ D8 g cs w ∧ (L 16 → cs = cv))
theorem M7.step {ws w : World} {cv : Array Value} {k t : Nat} {L : Nat → Prop} {f : Nat → Value} {v : Value} (h : M7 ws cv L f w) (h1 : t ≠ 61) (h2 : t ≠ 14) (h3 : k ≠ 6) (h4 : k ≠ 15) (h5 : k ≠ 16) (h6 : k ≠ 10) : M7 ws cv (fun j => L j ∨ j = k) (fun u => if some t = some u then v else f u) w := by
  obtain ⟨a1, a2, a3⟩ := h
  have e61 : (if some t = some 61 then v else f 61) = f 61 := if_neg (fun e => h1 (Option.some.inj e))
  have e14 : (if some t = some 14 then v else f 14) = f 14 := if_neg (fun e => h2 (Option.some.inj e))
  refine ⟨a1, fun h => ?_, fun h => ?_⟩
  · rcases a2 (h.resolve_right (fun e => h3 e.symm)) with q | q
    · exact Or.inl (Or.inl q)
    · right; show Nt 1 1 (if some t = some 61 then v else f 61) w; rw [e61]; exact q
  · obtain ⟨g, cs, b1, b2, b3, b4⟩ := a3 (h.resolve_right (fun e => h4 e.symm))
    exact ⟨g, cs, e14.trans b1, b2, b3, fun h => b4 (h.resolve_right (fun e => h5 e.symm))⟩
end Go.Proofs.YtgknbdehlmlipabGreatDoor

namespace Go.Proofs.YtgknbdehlmlipabGreatDoor
open Go.RowKit
/-- a block of four words -/
structure WBk (g : Nat) (f : Nat → Int) (w : World) : Prop where
  lt : g < w.heap.size
  c : ∀ i, i < 4 → w.cell? ⟨g, i, none⟩ = some (.int .u64 (f i))
  z : ∀ i, i < 4 → w.frozen? ⟨g, i, none⟩ = false
theorem four_cases {i : Nat} (h : i < 4) : i = 0 ∨ i = 1 ∨ i = 2 ∨ i = 3 := by omega
theorem WBk.next {g : Nat} {f : Nat → Int} {w w' : World} (h : WBk g f w) (hb : Below w.heap.size w w') : WBk g f w' :=
  ⟨Nat.lt_of_lt_of_le h.lt hb.size, fun i hi => (hb.cell (p := ⟨g, i, none⟩) h.lt).trans (h.c i hi), fun i hi => (hb.frozen (p := ⟨g, i, none⟩) h.lt).trans (h.z i hi)⟩
theorem WBk.set {g j : Nat} {f : Nat → Int} {w : World} {x : Int} (h : WBk g f w) (hj : j < 4) : WBk g (fun i => if i = j then x else f i) (w.setCell ⟨g, j, none⟩ (.int .u64 x)) := by
  obtain ⟨h1, h2, h3⟩ := h
  have hsm := cell_set_map
  have c0 := h2 0 (by decide)
  have c1 := h2 1 (by decide)
  have c2 := h2 2 (by decide)
  have c3 := h2 3 (by decide)
  have z0 := h3 0 (by decide)
  have z1 := h3 1 (by decide)
  have z2 := h3 2 (by decide)
  have z3 := h3 3 (by decide)
  clear h2 h3
  refine ⟨by simp; exact h1, fun i hi => ?_, fun i hi => ?_⟩
  · rcases four_cases hi with rfl | rfl | rfl | rfl <;> rcases four_cases hj with rfl | rfl | rfl | rfl <;> go_simp
  · rcases four_cases hi with rfl | rfl | rfl | rfl <;> rcases four_cases hj with rfl | rfl | rfl | rfl <;> go_simp
theorem WBk.other {g k j : Nat} {f : Nat → Int} {w : World} {v : Value} (h : WBk g f w) (hne : g ≠ k) : WBk g f (w.setCell ⟨k, j, none⟩ v) := by
  obtain ⟨h1, h2, h3⟩ := h
  have hsm := cell_set_map
  refine ⟨by simp; exact h1, fun i hi => ?_, fun i hi => ?_⟩
  · have := h2 i hi
    go_simp
  · have := h3 i hi
    go_simp
theorem WBk.same {g : Nat} {f f' : Nat → Int} {w : World} (h : WBk g f w) (he : ∀ i, i < 4 → f i = f' i) : WBk g f' w := ⟨h.lt, fun i hi => by rw [← he i hi]; exact h.c i hi, h.z⟩
section
variable {a : Act} {w : World} {K : Act → World → Prop} {Q : Exit → Act → World → Prop} {d p q : Nat} {ty : TypeId} {pos : String} {after : Array Edge} {gd : Option (Nat × Bool)}
theorem og_iaW {g j : Nat} (hj : j < 4) (h1 : slot a p = .pointer (some ⟨g, 0, none⟩)) (h2 : slot a q = .int .i64 (j : Int)) (hK : K (a.put (some d) (.pointer (some ⟨g, j, none⟩))) w) : Oper.wp Tryz.prog { dst := some d, op := Op.indexAddr 24 (Operand.tmp p) (Operand.tmp q), type := ty, pos := pos, after := after, guard := gd } a w K Q := by
  unfold slot at h1 h2
  rcases four_cases hj with rfl | rfl | rfl | rfl
  all_goals
    simp [go_sem, h1, h2]
    exact hK
theorem og_ldW {g j : Nat} {x : Int} (h1 : slot a p = .pointer (some ⟨g, j, none⟩)) (h2 : w.cell? ⟨g, j, none⟩ = some (.int .u64 x)) (hK : K (a.put (some d) (.int .u64 x)) w) : Oper.wp Tryz.prog { dst := some d, op := Op.load 22 (Operand.tmp p), type := ty, pos := pos, after := after, guard := gd } a w K Q := by
  unfold slot at h1
  simp [go_sem, h1, h2]
  exact hK
theorem og_xorW {x y : Int} (h1 : slot a p = .int .u64 x) (h2 : slot a q = .int .u64 y) (hK : K (a.put (some d) (.int .u64 (bits .xor .u64 x y))) w) : Oper.wp Tryz.prog { dst := some d, op := Op.binOp BinOp.xor 22 (Operand.tmp p) (Operand.tmp q) 22, type := ty, pos := pos, after := after, guard := gd } a w K Q := by
  unfold slot at h1 h2
  simp [go_sem, h1, h2]
  exact hK
theorem og_stW {g j : Nat} {x y : Int} (h1 : slot a p = .pointer (some ⟨g, j, none⟩)) (h2 : slot a q = .int .u64 x) (hc : w.cell? ⟨g, j, none⟩ = some (.int .u64 y)) (hz : w.frozen? ⟨g, j, none⟩ = false) (hK : K (a.put none undef) (w.setCell ⟨g, j, none⟩ (.int .u64 x))) : Oper.wp Tryz.prog { dst := none, op := Op.store 22 (Operand.tmp p) (Operand.tmp q), type := ty, pos := pos, after := after, guard := gd } a w K Q := by
  unfold slot at h1 h2
  have hsm := cell_set_map
  simp [go_sem, h1, h2, hc, hz]
  exact hK
end
/-- what stands while both words are turned -/
structure MX9 (b : Nat) (w0 : World) (j ga gb gs gp gq : Nat) (fa fb fs fp fq : Nat → Int) (L : Nat → Prop) (w : World) : Prop where
  bel : Below b w0 w
  lep : b ≤ gp
  leq : b ≤ gq
  wa : WBk ga fa w
  wb : WBk gb fb w
  ws : WBk gs fs w
  wp : ¬ L 17 → WBk gp fp w
  wp' : L 17 → WBk gp (fun i => if i = j then bits .xor .u64 (fp j) (fs j) else fp i) w
  wq : WBk gq fq w
  n1 : ga ≠ gp ∧ ga ≠ gq ∧ gb ≠ gp ∧ gb ≠ gq ∧ gs ≠ gp ∧ gs ≠ gq ∧ gp ≠ gq
section
variable {b : Nat} {w0 w : World} {j k ga gb gs gp gq : Nat} {fa fb fs fp fq : Nat → Int} {L : Nat → Prop}
theorem MX9.step (h : MX9 b w0 j ga gb gs gp gq fa fb fs fp fq L w) (h1 : k ≠ 17) (h2 : k ≠ 17) : MX9 b w0 j ga gb gs gp gq fa fb fs fp fq (fun i => L i ∨ i = k) w :=
  ⟨h.bel, h.lep, h.leq, h.wa, h.wb, h.ws, fun q => h.wp fun r => q (Or.inl r), fun q => h.wp' (q.resolve_right fun e => h1 e.symm), h.wq, h.n1⟩
theorem MX9.stp (h : MX9 b w0 j ga gb gs gp gq fa fb fs fp fq L w) (hL : ¬ L 17) (hj : j < 4) : MX9 b w0 j ga gb gs gp gq fa fb fs fp fq (fun i => L i ∨ i = 17) (w.setCell ⟨gp, j, none⟩ (.int .u64 (bits .xor .u64 (fp j) (fs j)))) := by
  obtain ⟨n1, n2, n3, n4, n5, n6, n7⟩ := h.n1
  exact ⟨h.bel.setCell h.lep _, h.lep, h.leq, h.wa.other n1, h.wb.other n3, h.ws.other n5, fun q => absurd (Or.inr rfl) q, fun _ => (h.wp hL).set hj, h.wq.other (Ne.symm n7), h.n1⟩
end
/-- what stands while one word is turned -/
structure MX20 (b : Nat) (w0 : World) (j gu gs gp : Nat) (fu fs fp : Nat → Int) (L : Nat → Prop) (w : World) : Prop where
  bel : Below b w0 w
  lep : b ≤ gp
  wu : WBk gu fu w
  ws : WBk gs fs w
  wp : WBk gp fp w
  n1 : gu ≠ gp ∧ gs ≠ gp
section
variable {b : Nat} {w0 w : World} {j k gu gs gp : Nat} {fu fs fp : Nat → Int} {L : Nat → Prop}
theorem MX20.step (h : MX20 b w0 j gu gs gp fu fs fp L w) (h1 : k ≠ 9) (h2 : k ≠ 9) : MX20 b w0 j gu gs gp fu fs fp (fun i => L i ∨ i = k) w :=
  ⟨h.bel, h.lep, h.wu, h.ws, h.wp, h.n1⟩
end
noncomputable def opsT9 : List Oper := (Tryz.f3.body.bind (findR 9)).getD []
def slotsT9 : List Nat := [61, 62, 63, 64, 65, 66, 67, 68, 69, 70, 71, 72, 73, 74, 75, 76, 77, 79, 78]
set_option maxHeartbeats 4000000 in
theorem regT9 {b j ga gb gs gp gq : Nat} {fa fb fs fp fq : Nat → Int} {w0 ws : World} {a0 : Act} {Q : Exit → Act → World → Prop} (hs : a0.tmps.size = 170) (hj : j < 4)
    (g9 : slot a0 9 = .pointer (some ⟨gs, 0, none⟩)) (g10 : slot a0 10 = .pointer (some ⟨gp, 0, none⟩)) (g11 : slot a0 11 = .pointer (some ⟨gq, 0, none⟩)) (g12 : slot a0 12 = .int .i64 (j : Int))
    (hbe : Below b w0 ws) (hlp : b ≤ gp) (hlq : b ≤ gq) (ha : WBk ga fa ws) (hb : WBk gb fb ws) (hws : WBk gs fs ws) (hp : WBk gp fp ws) (hq : WBk gq fq ws) (hn : ga ≠ gp ∧ ga ≠ gq ∧ gb ≠ gp ∧ gb ≠ gq ∧ gs ≠ gp ∧ gs ≠ gq ∧ gp ≠ gq)
    (hQ : ∀ (a : Act) (w : World), Below b w0 w → WBk ga fa w → WBk gb fb w → WBk gs fs w → WBk gp (fun i => if i = j then bits .xor .u64 (fp j) (fs j) else fp i) w → WBk gq (fun i => if i = j then bits .xor .u64 (fq j) (fs j) else fq i) w → a.tmps.size = 170 → a.defers = a0.defers → (∀ t, (∀ i, i < 19 → slotsT9.getD i 0 ≠ t) → slot a t = slot a0 t) → Q .normal a w) :
    (Code.region 9 opsT9.toArray true).wp Tryz.prog Q a0 ws := by
  refine wp_region_memg 19 170 slotsT9 [iW (.int .i64 (j : Int)), iW (.int .i64 (j : Int)), iW (.int .i64 (j : Int)), iW (.pointer (some ⟨gp, j, none⟩)), iW (.int .u64 (fp j)), iW (.int .i64 (j : Int)), iW (.pointer (some ⟨gs, j, none⟩)), iW (.int .u64 (fs j)), iW (.int .u64 (bits .xor .u64 (fp j) (fs j))), iW (.int .i64 (j : Int)), iW (.pointer (some ⟨gq, j, none⟩)), iW (.int .u64 (fq j)), iW (.int .i64 (j : Int)), iW (.pointer (some ⟨gs, j, none⟩)), iW (.int .u64 (fs j)), iW (.int .u64 (bits .xor .u64 (fq j) (fs j))), iW (.pointer (some ⟨gp, j, none⟩)), (fun _ _ => True), iW (.pointer (some ⟨gq, j, none⟩))] (fun _ _ => True) (fun L _ w => MX9 b w0 j ga gb gs gp gq fa fb fs fp fq L w) [] [] (by kernel_rfl) (by kernel_rfl) (by kernel_rfl) (by kernel_rfl) hs ?_ (fun _ => trivial) ?_ ?_ ⟨hbe.drew, hlp, hlq, ha.next (Below.refl _ _).drew, hb.next (Below.refl _ _).drew, hws.next (Below.refl _ _).drew, fun _ => hp.next (Below.refl _ _).drew, fun h => h.elim, hq.next (Below.refl _ _).drew, hn⟩ ?_ ?_ ?_
  · intro j c hj hc
    cases hc
  · intro p hp
    simp only [List.mem_cons, List.not_mem_nil, or_false] at hp
    rcases hp with rfl | rfl | rfl | rfl | rfl | rfl | rfl | rfl | rfl | rfl | rfl | rfl | rfl | rfl | rfl | rfl | rfl | rfl | rfl
    all_goals exact fun _ _ _ h _ => h
  · intro i hi hG
    cases hG
  · intro L i o a w hi ho hG
    cases hG
  · intro L i o a w hi ho hG hL hcl he hM hF hv
    have f9 : slot a 9 = .pointer (some ⟨gs, 0, none⟩) := (hF 9 (by decide)).trans g9
    have f10 : slot a 10 = .pointer (some ⟨gp, 0, none⟩) := (hF 10 (by decide)).trans g10
    have f11 : slot a 11 = .pointer (some ⟨gq, 0, none⟩) := (hF 11 (by decide)).trans g11
    have f12 : slot a 12 = .int .i64 (j : Int) := (hF 12 (by decide)).trans g12
    have hor : i = 0 ∨ i = 1 ∨ i = 2 ∨ i = 3 ∨ i = 4 ∨ i = 5 ∨ i = 6 ∨ i = 7 ∨ i = 8 ∨ i = 9 ∨ i = 10 ∨ i = 11 ∨ i = 12 ∨ i = 13 ∨ i = 14 ∨ i = 15 ∨ i = 16 ∨ i = 17 ∨ i = 18 := by omega
    rcases hor with rfl | rfl | rfl | rfl | rfl | rfl | rfl | rfl | rfl | rfl | rfl | rfl | rfl | rfl | rfl | rfl | rfl | rfl | rfl
    · obtain rfl := Option.some.inj (show opsT9[0]? = some o from ho)
      exact og_mv f12 ⟨_, rfl, rfl, trivial, hM.step (by decide) (by decide)⟩
    · obtain rfl := Option.some.inj (show opsT9[1]? = some o from ho)
      exact og_mv f12 ⟨_, rfl, rfl, trivial, hM.step (by decide) (by decide)⟩
    · obtain rfl := Option.some.inj (show opsT9[2]? = some o from ho)
      exact og_mv f12 ⟨_, rfl, rfl, trivial, hM.step (by decide) (by decide)⟩
    · obtain rfl := Option.some.inj (show opsT9[3]? = some o from ho)
      exact og_iaW hj f10 (hv 2 (by decide) rfl (he ⟨2, .data⟩ (by simp) rfl) : slot a 63 = .int .i64 (j : Int)) ⟨_, rfl, rfl, trivial, hM.step (by decide) (by decide)⟩
    · obtain rfl := Option.some.inj (show opsT9[4]? = some o from ho)
      have hLs : ¬ L 17 := fun h => hL (hcl 17 _ (show opsT9[17]? = some _ from rfl) h ⟨4, .phase⟩ (by simp) rfl)
      exact og_ldW (hv 3 (by decide) rfl (he ⟨3, .data⟩ (by simp) rfl) : slot a 64 = .pointer (some ⟨gp, j, none⟩)) ((hM.wp hLs).c j hj) ⟨_, rfl, rfl, trivial, hM.step (by decide) (by decide)⟩
    · obtain rfl := Option.some.inj (show opsT9[5]? = some o from ho)
      exact og_mv f12 ⟨_, rfl, rfl, trivial, hM.step (by decide) (by decide)⟩
    · obtain rfl := Option.some.inj (show opsT9[6]? = some o from ho)
      exact og_iaW hj f9 (hv 5 (by decide) rfl (he ⟨5, .data⟩ (by simp) rfl) : slot a 66 = .int .i64 (j : Int)) ⟨_, rfl, rfl, trivial, hM.step (by decide) (by decide)⟩
    · obtain rfl := Option.some.inj (show opsT9[7]? = some o from ho)
      exact og_ldW (hv 6 (by decide) rfl (he ⟨6, .data⟩ (by simp) rfl) : slot a 67 = .pointer (some ⟨gs, j, none⟩)) (hM.ws.c j hj) ⟨_, rfl, rfl, trivial, hM.step (by decide) (by decide)⟩
    · obtain rfl := Option.some.inj (show opsT9[8]? = some o from ho)
      exact og_xorW (hv 4 (by decide) rfl (he ⟨4, .data⟩ (by simp) rfl) : slot a 65 = .int .u64 (fp j)) (hv 7 (by decide) rfl (he ⟨7, .data⟩ (by simp) rfl) : slot a 68 = .int .u64 (fs j)) ⟨_, rfl, rfl, trivial, hM.step (by decide) (by decide)⟩
    · obtain rfl := Option.some.inj (show opsT9[9]? = some o from ho)
      exact og_mv f12 ⟨_, rfl, rfl, trivial, hM.step (by decide) (by decide)⟩
    · obtain rfl := Option.some.inj (show opsT9[10]? = some o from ho)
      exact og_iaW hj f11 (hv 9 (by decide) rfl (he ⟨9, .data⟩ (by simp) rfl) : slot a 70 = .int .i64 (j : Int)) ⟨_, rfl, rfl, trivial, hM.step (by decide) (by decide)⟩
    · obtain rfl := Option.some.inj (show opsT9[11]? = some o from ho)
      exact og_ldW (hv 10 (by decide) rfl (he ⟨10, .data⟩ (by simp) rfl) : slot a 71 = .pointer (some ⟨gq, j, none⟩)) (hM.wq.c j hj) ⟨_, rfl, rfl, trivial, hM.step (by decide) (by decide)⟩
    · obtain rfl := Option.some.inj (show opsT9[12]? = some o from ho)
      exact og_mv f12 ⟨_, rfl, rfl, trivial, hM.step (by decide) (by decide)⟩
    · obtain rfl := Option.some.inj (show opsT9[13]? = some o from ho)
      exact og_iaW hj f9 (hv 12 (by decide) rfl (he ⟨12, .data⟩ (by simp) rfl) : slot a 73 = .int .i64 (j : Int)) ⟨_, rfl, rfl, trivial, hM.step (by decide) (by decide)⟩
    · obtain rfl := Option.some.inj (show opsT9[14]? = some o from ho)
      exact og_ldW (hv 13 (by decide) rfl (he ⟨13, .data⟩ (by simp) rfl) : slot a 74 = .pointer (some ⟨gs, j, none⟩)) (hM.ws.c j hj) ⟨_, rfl, rfl, trivial, hM.step (by decide) (by decide)⟩
    · obtain rfl := Option.some.inj (show opsT9[15]? = some o from ho)
      exact og_xorW (hv 11 (by decide) rfl (he ⟨11, .data⟩ (by simp) rfl) : slot a 72 = .int .u64 (fq j)) (hv 14 (by decide) rfl (he ⟨14, .data⟩ (by simp) rfl) : slot a 75 = .int .u64 (fs j)) ⟨_, rfl, rfl, trivial, hM.step (by decide) (by decide)⟩
    · obtain rfl := Option.some.inj (show opsT9[16]? = some o from ho)
      exact og_iaW hj f10 (hv 0 (by decide) rfl (he ⟨0, .data⟩ (by simp) rfl) : slot a 61 = .int .i64 (j : Int)) ⟨_, rfl, rfl, trivial, hM.step (by decide) (by decide)⟩
    · obtain rfl := Option.some.inj (show opsT9[17]? = some o from ho)
      have hw := hM.wp hL
      exact og_stW (hv 16 (by decide) rfl (he ⟨16, .data⟩ (by simp) rfl) : slot a 77 = .pointer (some ⟨gp, j, none⟩)) (hv 8 (by decide) rfl (he ⟨8, .data⟩ (by simp) rfl) : slot a 69 = .int .u64 (bits .xor .u64 (fp j) (fs j))) (hw.c j hj) (hw.z j hj) ⟨_, rfl, trivial, trivial, hM.stp hL hj⟩
    · obtain rfl := Option.some.inj (show opsT9[18]? = some o from ho)
      exact og_iaW hj f11 (hv 1 (by decide) rfl (he ⟨1, .data⟩ (by simp) rfl) : slot a 62 = .int .i64 (j : Int)) ⟨_, rfl, rfl, trivial, hM.step (by decide) (by decide)⟩
  · intro L a w hL hM hsz hdf hF hv
    have h78 : slot a 78 = .pointer (some ⟨gq, j, none⟩) := hv 18 (by decide) rfl
    have h76 : slot a 76 = .int .u64 (bits .xor .u64 (fq j) (fs j)) := hv 15 (by decide) rfl
    have n1 := hM.n1
    refine BigFrame.wpList_want rfl fun K hK => og_stW h78 h76 (hM.wq.c j hj) (hM.wq.z j hj) (hK _ _ ?_)
    clear K hK
    exact hQ a _ (hM.bel.setCell hM.leq _) (hM.wa.other n1.2.1) (hM.wb.other n1.2.2.2.1) (hM.ws.other n1.2.2.2.2.2.1) ((hM.wp' (hL 17 (by decide))).other n1.2.2.2.2.2.2) (hM.wq.set hj) hsz hdf hF
noncomputable def opsT20 : List Oper := (Tryz.f3.body.bind (findR 20)).getD []
def slotsT20 : List Nat := [127, 128, 129, 130, 131, 132, 133, 134, 135]
set_option maxHeartbeats 4000000 in
theorem regT20 {b j gu gs gp : Nat} {fu fs fp : Nat → Int} {w0 ws : World} {a0 : Act} {Q : Exit → Act → World → Prop} (hs : a0.tmps.size = 170) (hj : j < 4)
    (g9 : slot a0 9 = .pointer (some ⟨gs, 0, none⟩)) (g26 : slot a0 26 = .pointer (some ⟨gp, 0, none⟩)) (g29 : slot a0 29 = .int .i64 (j : Int))
    (hbe : Below b w0 ws) (hlp : b ≤ gp) (hu : WBk gu fu ws) (hws : WBk gs fs ws) (hp : WBk gp fp ws) (hn : gu ≠ gp ∧ gs ≠ gp)
    (hQ : ∀ (a : Act) (w : World), Below b w0 w → WBk gu fu w → WBk gs fs w → WBk gp (fun i => if i = j then bits .xor .u64 (fp j) (fs j) else fp i) w → a.tmps.size = 170 → a.defers = a0.defers → (∀ t, (∀ i, i < 9 → slotsT20.getD i 0 ≠ t) → slot a t = slot a0 t) → Q .normal a w) :
    (Code.region 20 opsT20.toArray true).wp Tryz.prog Q a0 ws := by
  refine wp_region_memg 9 170 slotsT20 [iW (.int .i64 (j : Int)), iW (.int .i64 (j : Int)), iW (.pointer (some ⟨gp, j, none⟩)), iW (.int .u64 (fp j)), iW (.int .i64 (j : Int)), iW (.pointer (some ⟨gs, j, none⟩)), iW (.int .u64 (fs j)), iW (.int .u64 (bits .xor .u64 (fp j) (fs j))), iW (.pointer (some ⟨gp, j, none⟩))] (fun _ _ => True) (fun L _ w => MX20 b w0 j gu gs gp fu fs fp L w) [] [] (by kernel_rfl) (by kernel_rfl) (by kernel_rfl) (by kernel_rfl) hs ?_ (fun _ => trivial) ?_ ?_ ⟨hbe.drew, hlp, hu.next (Below.refl _ _).drew, hws.next (Below.refl _ _).drew, hp.next (Below.refl _ _).drew, hn⟩ ?_ ?_ ?_
  · intro j c hj hc
    cases hc
  · intro p hp
    simp only [List.mem_cons, List.not_mem_nil, or_false] at hp
    rcases hp with rfl | rfl | rfl | rfl | rfl | rfl | rfl | rfl | rfl
    all_goals exact fun _ _ _ h _ => h
  · intro i hi hG
    cases hG
  · intro L i o a w hi ho hG
    cases hG
  · intro L i o a w hi ho hG hL hcl he hM hF hv
    have f9 : slot a 9 = .pointer (some ⟨gs, 0, none⟩) := (hF 9 (by decide)).trans g9
    have f26 : slot a 26 = .pointer (some ⟨gp, 0, none⟩) := (hF 26 (by decide)).trans g26
    have f29 : slot a 29 = .int .i64 (j : Int) := (hF 29 (by decide)).trans g29
    have hor : i = 0 ∨ i = 1 ∨ i = 2 ∨ i = 3 ∨ i = 4 ∨ i = 5 ∨ i = 6 ∨ i = 7 ∨ i = 8 := by omega
    rcases hor with rfl | rfl | rfl | rfl | rfl | rfl | rfl | rfl | rfl
    · obtain rfl := Option.some.inj (show opsT20[0]? = some o from ho)
      exact og_mv f29 ⟨_, rfl, rfl, trivial, hM.step (by decide) (by decide)⟩
    · obtain rfl := Option.some.inj (show opsT20[1]? = some o from ho)
      exact og_mv f29 ⟨_, rfl, rfl, trivial, hM.step (by decide) (by decide)⟩
    · obtain rfl := Option.some.inj (show opsT20[2]? = some o from ho)
      exact og_iaW hj f26 (hv 1 (by decide) rfl (he ⟨1, .data⟩ (by simp) rfl) : slot a 128 = .int .i64 (j : Int)) ⟨_, rfl, rfl, trivial, hM.step (by decide) (by decide)⟩
    · obtain rfl := Option.some.inj (show opsT20[3]? = some o from ho)
      exact og_ldW (hv 2 (by decide) rfl (he ⟨2, .data⟩ (by simp) rfl) : slot a 129 = .pointer (some ⟨gp, j, none⟩)) (hM.wp.c j hj) ⟨_, rfl, rfl, trivial, hM.step (by decide) (by decide)⟩
    · obtain rfl := Option.some.inj (show opsT20[4]? = some o from ho)
      exact og_mv f29 ⟨_, rfl, rfl, trivial, hM.step (by decide) (by decide)⟩
    · obtain rfl := Option.some.inj (show opsT20[5]? = some o from ho)
      exact og_iaW hj f9 (hv 4 (by decide) rfl (he ⟨4, .data⟩ (by simp) rfl) : slot a 131 = .int .i64 (j : Int)) ⟨_, rfl, rfl, trivial, hM.step (by decide) (by decide)⟩
    · obtain rfl := Option.some.inj (show opsT20[6]? = some o from ho)
      exact og_ldW (hv 5 (by decide) rfl (he ⟨5, .data⟩ (by simp) rfl) : slot a 132 = .pointer (some ⟨gs, j, none⟩)) (hM.ws.c j hj) ⟨_, rfl, rfl, trivial, hM.step (by decide) (by decide)⟩
    · obtain rfl := Option.some.inj (show opsT20[7]? = some o from ho)
      exact og_xorW (hv 3 (by decide) rfl (he ⟨3, .data⟩ (by simp) rfl) : slot a 130 = .int .u64 (fp j)) (hv 6 (by decide) rfl (he ⟨6, .data⟩ (by simp) rfl) : slot a 133 = .int .u64 (fs j)) ⟨_, rfl, rfl, trivial, hM.step (by decide) (by decide)⟩
    · obtain rfl := Option.some.inj (show opsT20[8]? = some o from ho)
      exact og_iaW hj f26 (hv 0 (by decide) rfl (he ⟨0, .data⟩ (by simp) rfl) : slot a 127 = .int .i64 (j : Int)) ⟨_, rfl, rfl, trivial, hM.step (by decide) (by decide)⟩
  · intro L a w hL hM hsz hdf hF hv
    have h135 : slot a 135 = .pointer (some ⟨gp, j, none⟩) := hv 8 (by decide) rfl
    have h134 : slot a 134 = .int .u64 (bits .xor .u64 (fp j) (fs j)) := hv 7 (by decide) rfl
    refine BigFrame.wpList_want rfl fun K hK => og_stW h135 h134 (hM.wp.c j hj) (hM.wp.z j hj) (hK _ _ ?_)
    clear K hK
    exact hQ a _ (hM.bel.setCell hM.lep _) (hM.wu.other hM.n1.1) (hM.ws.other hM.n1.2) (hM.wp.set hj) hsz hdf hF
theorem B4.wbk {g X : Nat} {w : World} (h : B4 g X w) : WBk g (W4 X) w := by
  obtain ⟨h0, c0, c1, c2, c3, f0, f1, f2, f3⟩ := h
  refine ⟨h0, fun i hi => ?_, fun i hi => ?_⟩
  · rcases four_cases hi with rfl | rfl | rfl | rfl <;> assumption
  · rcases four_cases hi with rfl | rfl | rfl | rfl <;> assumption
noncomputable def opsO5 : List Oper := (Tryz.f3.body.bind (findR 5)).getD []
def slotsO5 : List Nat := [56, 57, 10, 11, 166]
/-- what stands while the two copies are made -/
def MX5 (ws : World) (X4 : Nat) (L : Nat → Prop) (f : Nat → Value) (w : World) : Prop :=
  Below ws.heap.size ws w ∧ (L 2 → ∃ g X, f 10 = .pointer (some ⟨g, 0, none⟩) ∧ ws.heap.size ≤ g ∧ B4 g X w ∧ (L 4 → X = X4)) ∧ (L 3 → ∃ h, f 11 = .pointer (some ⟨h, 0, none⟩) ∧ ws.heap.size ≤ h ∧ B4 h 0 w) ∧ (L 2 → L 3 → f 10 ≠ f 11)
theorem MX5.step {ws w : World} {X4 k t : Nat} {L : Nat → Prop} {f : Nat → Value} {v : Value} (h : MX5 ws X4 L f w) (h1 : t ≠ 10) (h2 : t ≠ 11) (h3 : k ≠ 2) (h4 : k ≠ 3) (h5 : k ≠ 4) : MX5 ws X4 (fun j => L j ∨ j = k) (fun u => if some t = some u then v else f u) w := by
  obtain ⟨a1, a2, a3, a4⟩ := h
  have e17 : (if some t = some 10 then v else f 10) = f 10 := if_neg (fun e => h1 (Option.some.inj e))
  have e18 : (if some t = some 11 then v else f 11) = f 11 := if_neg (fun e => h2 (Option.some.inj e))
  have l4 : ∀ {p : Prop}, (p ∨ 2 = k) → p := fun h => h.resolve_right (fun e => h3 e.symm)
  have l5 : ∀ {p : Prop}, (p ∨ 3 = k) → p := fun h => h.resolve_right (fun e => h4 e.symm)
  have l6 : ∀ {p : Prop}, (p ∨ 4 = k) → p := fun h => h.resolve_right (fun e => h5 e.symm)
  refine ⟨a1, fun h => ?_, fun h => ?_, fun h h' => ?_⟩
  · obtain ⟨g, X, b1, b2, b3, b4⟩ := a2 (l4 h)
    exact ⟨g, X, e17.trans b1, b2, b3, fun h => b4 (l6 h)⟩
  · obtain ⟨g, b1, b2, b3⟩ := a3 (l5 h)
    exact ⟨g, e18.trans b1, b2, b3⟩
  · show (if some t = some 10 then v else f 10) ≠ (if some t = some 11 then v else f 11)
    rw [e17, e18]
    exact a4 (l4 h) (l5 h')
set_option maxHeartbeats 4000000 in
theorem regT5o {ga gb X4 X3 : Nat} {a0 : Act} {ws : World} {Q : Exit → Act → World → Prop} (hs : a0.tmps.size = 170) (g4 : slot a0 4 = .pointer (some ⟨ga, 0, none⟩)) (g5 : slot a0 5 = .pointer (some ⟨gb, 0, none⟩)) (ha : WBk ga (W4 X4) ws) (hb : WBk gb (W4 X3) ws)
    (hQ : ∀ (a : Act) (w : World) (g h : Nat), slot a 10 = .pointer (some ⟨g, 0, none⟩) → slot a 11 = .pointer (some ⟨h, 0, none⟩) → g ≠ h → ws.heap.size ≤ g → ws.heap.size ≤ h → B4 g X4 w → B4 h X3 w → a.tmps.size = 170 → a.defers = a0.defers → (∀ t, (∀ i, i < 5 → slotsO5.getD i 0 ≠ t) → slot a t = slot a0 t) → Below ws.heap.size ws w → Q .normal a w) :
    (Code.region 5 opsO5.toArray true).wp Tryz.prog Q a0 ws := by
  refine wp_region_memg 5 170 slotsO5 [iW (A4 X4), iW (A4 X3), (fun _ _ => True), (fun _ _ => True), (fun _ _ => True)] (fun _ _ => True) (MX5 ws X4) [] [] (by kernel_rfl) (by kernel_rfl) (by kernel_rfl) (by kernel_rfl) hs ?_ (fun _ => trivial) ?_ ?_ ⟨(Below.refl _ _).drew, fun h => h.elim, fun h => h.elim, fun h _ => h.elim⟩ ?_ ?_ ?_
  · intro j c hj hc
    cases hc
  · intro p hp
    simp only [List.mem_cons, List.not_mem_nil, or_false] at hp
    rcases hp with rfl | rfl | rfl | rfl | rfl
    all_goals exact fun _ _ _ h _ => h
  · intro i hi hG
    cases hG
  · intro L i o a w hi ho hG
    cases hG
  · intro L i o a w hi ho hG hL hcl he hM hF hv
    have f4 : slot a 4 = .pointer (some ⟨ga, 0, none⟩) := (hF 4 (by decide)).trans g4
    have f5 : slot a 5 = .pointer (some ⟨gb, 0, none⟩) := (hF 5 (by decide)).trans g5
    have hB := hM.1
    have wa := ha.next hB
    have wb := hb.next hB
    have hor : i = 0 ∨ i = 1 ∨ i = 2 ∨ i = 3 ∨ i = 4 := by omega
    rcases hor with rfl | rfl | rfl | rfl | rfl
    · obtain rfl := Option.some.inj (show opsO5[0]? = some o from ho)
      exact og_ldB f4 (wa.c 0 (by decide)) (wa.c 1 (by decide)) (wa.c 2 (by decide)) (wa.c 3 (by decide)) ⟨_, rfl, rfl, trivial, hM.step (by decide) (by decide) (by decide) (by decide) (by decide)⟩
    · obtain rfl := Option.some.inj (show opsO5[1]? = some o from ho)
      exact og_ldB f5 (wb.c 0 (by decide)) (wb.c 1 (by decide)) (wb.c 2 (by decide)) (wb.c 3 (by decide)) ⟨_, rfl, rfl, trivial, hM.step (by decide) (by decide) (by decide) (by decide) (by decide)⟩
    · have hL6 : ¬ L 4 := fun h => hL (hcl 4 _ (show opsO5[4]? = some _ from rfl) h ⟨2, .data⟩ (by simp) rfl)
      obtain rfl := Option.some.inj (show opsO5[2]? = some o from ho)
      have hb := below1 w (.cells #[.int .u64 0, .int .u64 0, .int .u64 0, .int .u64 0] 24)
      obtain ⟨a1, a2, a3, a4⟩ := hM
      refine og_alB ⟨_, rfl, trivial, trivial, bnx hB hb, fun _ => ⟨_, 0, rfl, hB.size, B4.new w _, fun h => absurd (h.resolve_right (by decide)) hL6⟩, fun h5 => ?_, fun _ h5 => ?_⟩
      · obtain ⟨h, b1, b2, b3⟩ := a3 (h5.resolve_right (by decide))
        exact ⟨h, b1, b2, b3.next hb⟩
      · obtain ⟨h, b1, b2, b3⟩ := a3 (h5.resolve_right (by decide))
        show Value.pointer (some ⟨w.heap.size, 0, none⟩) ≠ slot a 11
        rw [b1]
        have := b3.lt
        exact ptr_ne (by omega)
    · obtain rfl := Option.some.inj (show opsO5[3]? = some o from ho)
      have hb := below1 w (.cells #[.int .u64 0, .int .u64 0, .int .u64 0, .int .u64 0] 24)
      obtain ⟨a1, a2, a3, a4⟩ := hM
      refine og_alB ⟨_, rfl, trivial, trivial, bnx hB hb, fun h4 => ?_, fun _ => ⟨_, rfl, hB.size, B4.new w _⟩, fun h4 _ => ?_⟩
      · obtain ⟨g, X, b1, b2, b3, b4⟩ := a2 (h4.resolve_right (by decide))
        exact ⟨g, X, b1, b2, b3.next hb, fun h => b4 (h.resolve_right (by decide))⟩
      · obtain ⟨g, X, b1, b2, b3, b4⟩ := a2 (h4.resolve_right (by decide))
        show slot a 10 ≠ Value.pointer (some ⟨w.heap.size, 0, none⟩)
        rw [b1]
        have := b3.lt
        exact ptr_ne (by omega)
    · obtain rfl := Option.some.inj (show opsO5[4]? = some o from ho)
      obtain ⟨a1, a2, a3, a4⟩ := hM
      have l4 := he ⟨2, .data⟩ (by simp) rfl
      obtain ⟨g, X, b1, b2, b3, b4⟩ := a2 l4
      refine og_stB b1 (hv 0 (by decide) rfl (he ⟨0, .data⟩ (by simp) rfl) : slot a 56 = A4 X4) b3 ⟨.bool false, rfl, trivial, trivial, put4B_below hB b2, fun _ => ⟨g, X4, b1, b2, b3.put, fun _ => rfl⟩, fun h5 => ?_, fun _ h5 => ?_⟩
      · obtain ⟨h, d1, d2, d3⟩ := a3 (h5.resolve_right (by decide))
        refine ⟨h, d1, d2, d3.other fun e => ?_⟩
        have := a4 l4 (h5.resolve_right (by decide))
        rw [b1, d1, e] at this
        exact this rfl
      · exact a4 l4 (h5.resolve_right (by decide))
  · intro L a w hL hM hsz hdf hF hv
    obtain ⟨hB, a2, a3, a4⟩ := hM
    obtain ⟨g, X, e17, hg, hB1, hX⟩ := a2 (hL 2 (by decide))
    obtain ⟨h, e18, hh, hB2⟩ := a3 (hL 3 (by decide))
    obtain rfl := hX (hL 4 (by decide))
    have hne : g ≠ h := fun e => a4 (hL 2 (by decide)) (hL 3 (by decide)) (by rw [e17, e18, e])
    refine BigFrame.wpList_want rfl fun K hK => og_stB e18 (hv 1 (by decide) rfl : slot a 57 = A4 X3) hB2 (hK _ _ ?_)
    clear K hK
    exact hQ a _ g h e17 e18 hne hg hh (hB1.other hne) hB2.put hsz hdf hF (put4B_below hB hh)
end Go.Proofs.YtgknbdehlmlipabGreatDoor
