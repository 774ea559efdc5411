/-
  Texts that the proof leans on, joined: Uo, Ur.
-/
import Derived.Test.YtmommdhnogogdaaDoorJ32
import Derived.Test.YtmommdhnogogdaaDoorJ28
import Derived.Test.YtmommdhnogogdaaDoorJ34
import Derived.Deep.MidRow
import Derived.Test.YtmommdhnogogdaaDoorJ19
import Derived.Test.YtmommdhnogogdaaDoorJ17
set_option linter.unusedVariables false
set_option linter.unusedSectionVars false
set_option linter.unusedSimpArgs false
set_option maxRecDepth 20000
namespace Go.Proofs.YtmommdhnogogdaaDoor
open Go.RowKit
/-- a datum's cells -/
abbrev zd : Array Value := #[.int .i64 0, .bool false, .bool false, .int .i64 0, .int .u64 0, .int .u64 0, .int .u64 0, .int .u64 0]
abbrev dvc (c : Int) (s g : Bool) (x : Int) (k : Nat) : Array Value := #[.int .i64 c, .bool s, .bool g, .int .i64 x, .int .u64 (W4 k 0), .int .u64 (W4 k 1), .int .u64 (W4 k 2), .int .u64 (W4 k 3)]
theorem below_cellsD {n b : Nat} {a : World} (hb : n ≤ b) : ∀ (vs : List Value) (o : Nat) (W : World), Below n a W → Below n a (W.setCells b o vs)
  | [], _, _, h => h
  | v :: r, o, W, h => below_cellsD hb r (o + 1) _ (h.setCell hb v)
/-- a block that holds a datum -/
def D8 (g : Nat) (cs : Array Value) (w : World) : Prop := g < w.heap.size ∧ cs.size = 8 ∧ (∀ i, i < 8 → w.cell? ⟨g, i, none⟩ = cs[i]?) ∧ ∀ i, w.frozen? ⟨g, i, none⟩ = false
theorem D8.next {g : Nat} {cs : Array Value} {w w' : World} (h : D8 g cs w) (hb : Below w.heap.size w w') : D8 g cs w' :=
  ⟨Nat.lt_of_lt_of_le h.1 hb.size, h.2.1, fun i hi => (hb.cell (p := ⟨g, i, none⟩) h.1).trans (h.2.2.1 i hi), fun i => (hb.frozen (p := ⟨g, i, none⟩) h.1).trans (h.2.2.2 i)⟩
theorem D8.new (w : World) : D8 w.heap.size zd (w.alloc (.cells zd 30)) := by
  refine ⟨by simp, rfl, fun i hi => ?_, fun i => ?_⟩
  · rw [World.cell?_alloc_new]
  · simp [go_sem]
theorem D8.put {g : Nat} {cs cs' : Array Value} {w : World} (h : D8 g cs w) (hs : cs'.size = 8) : D8 g cs' (w.setCells g 0 cs'.toList) := by
  have hin := World.cell?_setCells_in g cs'.toList 0 w (fun j hj => by
    rw [Nat.zero_add, h.2.2.1 j (by simpa [hs] using hj), Array.getElem?_eq_getElem (by rw [h.2.1]; simpa [hs] using hj)]; rfl)
  refine ⟨Nat.lt_of_lt_of_le h.1 (below_cellsD (n := 0) (Nat.zero_le _) _ _ _ (Below.refl 0 w)).size, hs, fun i hi => ?_, fun i => ?_⟩
  · have := hin i (by simpa [hs] using hi)
    rw [Nat.zero_add] at this
    rw [this, Array.getElem?_eq_getElem (by rw [hs]; exact hi)]
    simp
  · rw [World.frozen?_setCells]; exact h.2.2.2 i
attribute [local irreducible] W4 Nt NT
section
variable {a : Act} {w : World} {K : Act → World → Prop} {Q : Exit → Act → World → Prop} {d p q : Nat} {ty : TypeId} {pos : String} {after : Array Edge} {gd : Option (Nat × Bool)}
theorem od_alc (hK : K (a.put (some d) (.pointer (some ⟨w.heap.size, 0, none⟩))) (w.alloc (.cells zd 30))) : Oper.wp Tryd.prog { dst := some d, op := Op.alloc 30, type := ty, pos := pos, after := after, guard := gd } a w K Q := by
  simp [go_sem]
  exact hK
theorem od_st {g : Nat} {c x : Int} {s b : Bool} {k : Nat} {cs : Array Value} (h1 : slot a p = .pointer (some ⟨g, 0, none⟩)) (h2 : slot a q = DV c s b x k) (hB : D8 g cs w) (hK : K (a.put none undef) (w.setCells g 0 (dvc c s b x k).toList)) : Oper.wp Tryd.prog { dst := none, op := Op.store 30 (Operand.tmp p) (Operand.tmp q), type := ty, pos := pos, after := after, guard := gd } a w K Q := by
  refine wp_store_mid 30 (.tmp p) (.tmp q) rfl g 0 (dvc c s b x k) (by unfold slot at h1; simp [go_sem, h1]) (by unfold slot at h2; simp [go_sem, h2]) (fun j hj => ?_) (by kernel_rfl) (by simp [Value.oneCell']) hK
  rw [Nat.zero_add, hB.2.2.1 j hj, Array.getElem?_eq_getElem (by rw [hB.2.1]; exact hj)]
  exact ⟨rfl, hB.2.2.2 j⟩
end
/-- what stands while the statement is under way -/
def M7 (ws : World) (cv : Array Value) (L : Nat → Prop) (f : Nat → Value) (w : World) : Prop :=
  Below ws.heap.size ws w ∧ (L 6 → L 10 ∨ Nt 1 1 (f 61) w) ∧ (L 15 → ∃ g cs, f 14 = .pointer (some ⟨g, 0, none⟩) ∧ ws.heap.size ≤ g ∧ D8 g cs w ∧ (L 16 → cs = cv))
theorem M7.step {ws w : World} {cv : Array Value} {k t : Nat} {L : Nat → Prop} {f : Nat → Value} {v : Value} (h : M7 ws cv L f w) (h1 : t ≠ 61) (h2 : t ≠ 14) (h3 : k ≠ 6) (h4 : k ≠ 15) (h5 : k ≠ 16) (h6 : k ≠ 10) : M7 ws cv (fun j => L j ∨ j = k) (fun u => if some t = some u then v else f u) w := by
  obtain ⟨a1, a2, a3⟩ := h
  have e61 : (if some t = some 61 then v else f 61) = f 61 := if_neg (fun e => h1 (Option.some.inj e))
  have e14 : (if some t = some 14 then v else f 14) = f 14 := if_neg (fun e => h2 (Option.some.inj e))
  refine ⟨a1, fun h => ?_, fun h => ?_⟩
  · rcases a2 (h.resolve_right (fun e => h3 e.symm)) with q | q
    · exact Or.inl (Or.inl q)
    · right; show Nt 1 1 (if some t = some 61 then v else f 61) w; rw [e61]; exact q
  · obtain ⟨g, cs, b1, b2, b3, b4⟩ := a3 (h.resolve_right (fun e => h4 e.symm))
    exact ⟨g, cs, e14.trans b1, b2, b3, fun h => b4 (h.resolve_right (fun e => h5 e.symm))⟩
end Go.Proofs.YtmommdhnogogdaaDoor

namespace Go.Proofs.YtmommdhnogogdaaDoor
open Go.RowKit
def TUD (A B : Nat) (v : Value) (w : World) : Prop := ∃ q r, v = .tuple #[q, r] ∧ NT 7000 A q w ∧ NT 7000 B r w
theorem TUD.next {A B : Nat} {v : Value} {w w' : World} (h : TUD A B v w) (hb : Below w.heap.size w w') : TUD A B v w' := by
  obtain ⟨q, r, e, hq, hr⟩ := h
  exact ⟨q, r, e, hq.next hb, hr.next hb⟩
attribute [local irreducible] W4 Nt NT
section
variable {a : Act} {w : World} {K : Act → World → Prop} {Q : Exit → Act → World → Prop} {d p q : Nat} {ty : TypeId} {pos : String} {after : Array Edge} {gd : Option (Nat × Bool)}
theorem od_un1 (hK : K (a.put (some d) (.slice (some ⟨w.heap.size, 0, none⟩) 1 1)) (w.alloc (.cells #[.int .u64 1] 26))) : Oper.wp Tryd.prog { dst := some d, op := Op.buildSlice 22 1 #[(0, Operand.const (.int .u64 1))], type := ty, pos := pos, after := after, guard := gd } a w K Q := by
  simp [go_sem]
  exact hK
theorem od_c4s {F : Nat} {p0 p1 p3 : Nat} {u0 u1 u2 u3 : Value} {ts : Array TypeId} (hr : Sem.run Tryd.prog (callFunc F #[u0, u1, u2, u3]) w = .ok (.enter F #[u0, u1, u2, u3]) w) (h0 : slot a p0 = u0) (h1 : slot a p1 = u1) (h3 : slot a p3 = u3) (hc : Calls Tryd.prog F #[u0, u1, u2, u3] w fun e w' => ∃ v, e = .returned v ∧ K (a.put (some d) v) w') : Oper.wp Tryd.prog { dst := some d, op := Op.call { callee := Callee.value (Operand.func F), args := #[Operand.tmp p0, Operand.tmp p1, Operand.const u2, Operand.tmp p3], argTypes := ts }, type := ty, pos := pos, after := after, guard := gd } a w K Q := by
  unfold slot at h0 h1 h3
  simp [go_sem, h0, h1, h3, hr]
  refine hc.mono ?_
  rintro e w' ⟨v, rfl, hK⟩
  exact hK
end
noncomputable def opsR9 : List Oper := (Tryd.f6.body.bind (findR 9)).getD []
def slotsR9 : List Nat := [84, 85, 86, 87, 88, 89, 90]
def slotsAR9 : List Nat := [84, 85, 86, 87, 88, 89, 90, 83, 91, 92, 19, 20]
set_option maxHeartbeats 2000000 in
theorem regR9 {g k A B : Nat} {x : Int} {a0 : Act} {ws : World} {Q : Exit → Act → World → Prop} (hP : ∀ c a d v w, Q (.panic c) (Act.put a d v) w → Q (.panic c) a w) (hs : a0.tmps.size = 111) (gg : slot a0 13 = .pointer (some ⟨g, 0, none⟩)) (hlg : g < ws.heap.size) 
    (q3 : ws.cell? ⟨g, 3, none⟩ = some (.int .i64 x)) (q4 : ws.cell? ⟨g, 4, none⟩ = some (.int .u64 (W4 k 0))) (q5 : ws.cell? ⟨g, 5, none⟩ = some (.int .u64 (W4 k 1))) (q6 : ws.cell? ⟨g, 6, none⟩ = some (.int .u64 (W4 k 2))) (q7 : ws.cell? ⟨g, 7, none⟩ = some (.int .u64 (W4 k 3)))
    (c1 : ∀ W, Calls Tryd.prog 14 #[A4 k] W fun e w' => ∃ v, e = .returned v ∧ NT 7000 k v w' ∧ Below W.heap.size W w')
    (c2 : ∀ W u v, NT 7000 k u W → NT 7000 1 v W → Calls Tryd.prog 13 #[u, v, .int .u64 10, .int .i64 x] W fun e w' => ∃ p q, e = .returned (.tuple #[p, q]) ∧ NT 7000 A p w' ∧ NT 7000 B q w' ∧ Below W.heap.size W w')
    (hQ : ∀ (a : Act) (w : World) (u v : Value), slot a 19 = u → slot a 20 = v → NT 7000 A u w → NT 7000 B v w → a.tmps.size = 111 → a.defers = a0.defers → (∀ t, (∀ i, i < 12 → slotsAR9.getD i 0 ≠ t) → slot a t = slot a0 t) → Below ws.heap.size ws w → Q .normal a w) :
    (Code.region 9 opsR9.toArray true).wp Tryd.prog Q a0 ws := by
  refine wp_region_memr 7 111 slotsR9 [iW (.pointer (some ⟨g, 4, none⟩)), iW (A4 k), NT 7000 k, NT 7000 1, iW (.pointer (some ⟨g, 3, none⟩)), iW (.int .i64 x), TUD A B] (fun w w' => Below w.heap.size w w') (fun L f w => Below ws.heap.size ws w) (by kernel_rfl) (by kernel_rfl) hP (by kernel_rfl) hs ?_ (Below.refl _ _).drew ?_ ?_
  · intro p hp
    simp only [List.mem_cons, List.not_mem_nil, or_false] at hp
    rcases hp with rfl | rfl | rfl | rfl | rfl | rfl | rfl
    all_goals first | exact fun _ _ _ h _ => h | exact fun _ _ _ h hb => h.next hb
  · intro L i o a w hi ho hL hcl he hM hF hv
    have fg : slot a 13 = .pointer (some ⟨g, 0, none⟩) := (hF 13 (by decide)).trans gg
    have hor : i = 0 ∨ i = 1 ∨ i = 2 ∨ i = 3 ∨ i = 4 ∨ i = 5 ∨ i = 6 := by omega
    rcases hor with rfl | rfl | rfl | rfl | rfl | rfl | rfl
    · obtain rfl := Option.some.inj (show opsR9[0]? = some o from ho)
      exact og_fad4 fg ⟨_, rfl, rfl, Below.refl _ _, hM⟩
    · obtain rfl := Option.some.inj (show opsR9[1]? = some o from ho)
      exact og_ldB (i := 4) (hv 0 (by decide) rfl (he ⟨0, .data⟩ (by simp) rfl) : slot a 84 = .pointer (some ⟨g, 4, none⟩)) ((hM.cell (p := ⟨g, 4, none⟩) hlg).trans q4) ((hM.cell (p := ⟨g, 5, none⟩) hlg).trans q5) ((hM.cell (p := ⟨g, 6, none⟩) hlg).trans q6) ((hM.cell (p := ⟨g, 7, none⟩) hlg).trans q7) ⟨_, rfl, rfl, Below.refl _ _, hM⟩
    · obtain rfl := Option.some.inj (show opsR9[2]? = some o from ho)
      refine og_c1 (by simp [go_sem]) (hv 1 (by decide) rfl (he ⟨1, .data⟩ (by simp) rfl) : slot a 85 = A4 k) ((c1 w).mono ?_)
      rintro e w' ⟨v, rfl, hSv, hb⟩
      exact ⟨v, rfl, _, rfl, hSv, hb, bnx hM hb⟩
    · obtain rfl := Option.some.inj (show opsR9[3]? = some o from ho)
      exact od_un1 ⟨_, rfl, (nt_un1 rfl rfl (by decide) (by decide)).more (by decide), below1 _ _, bnx hM (below1 _ _)⟩
    · obtain rfl := Option.some.inj (show opsR9[4]? = some o from ho)
      exact og_fad3 fg ⟨_, rfl, rfl, Below.refl _ _, hM⟩
    · obtain rfl := Option.some.inj (show opsR9[5]? = some o from ho)
      exact og_ld3 (hv 4 (by decide) rfl (he ⟨4, .data⟩ (by simp) rfl) : slot a 88 = .pointer (some ⟨g, 3, none⟩)) ((hM.cell (p := ⟨g, 3, none⟩) hlg).trans q3) ⟨_, rfl, rfl, Below.refl _ _, hM⟩
    · obtain rfl := Option.some.inj (show opsR9[6]? = some o from ho)
      refine od_c4s (by simp [go_sem]) rfl rfl (hv 5 (by decide) rfl (he ⟨5, .data⟩ (by simp) rfl) : slot a 89 = .int .i64 x) ((c2 w _ _ (hv 2 (by decide) rfl (he ⟨2, .data⟩ (by simp) rfl)) (hv 3 (by decide) rfl (he ⟨3, .data⟩ (by simp) rfl))).mono ?_)
      rintro e w' ⟨u, v, rfl, hu, hv', hb⟩
      exact ⟨_, rfl, _, rfl, ⟨u, v, rfl, hu, hv'⟩, hb, bnx hM hb⟩
  · intro L a w hL hM hsz hdf hF hv
    obtain ⟨q, r, e, hq, hr⟩ := (hv 6 (by decide) rfl : TUD A B (slot a 90) w)
    refine BigFrame.wpList_want rfl fun K hK => og_mv e (hK _ _ ?_)
    clear K hK
    refine BigFrame.wpList_want rfl fun K hK => og_ext (slot_put (by omega)) rfl (hK _ _ ?_)
    clear K hK
    refine BigFrame.wpList_want rfl fun K hK => og_ext ((slot_put_ne (by decide)).trans (slot_put (by omega))) rfl (hK _ _ ?_)
    clear K hK
    refine BigFrame.wpList_want rfl fun K hK => og_as ((slot_put_ne (by decide)).trans (slot_put (by rw [put_sizeV]; omega))) (hK _ _ ?_)
    clear K hK
    refine BigFrame.wpList_want rfl fun K hK => og_as ((slot_put_ne (by decide)).trans (slot_put (by simp only [put_sizeV]; omega))) (hK _ _ ?_)
    clear K hK
    refine hQ _ _ q r ((slot_put_ne (by decide)).trans (slot_put (by simp only [put_sizeV]; omega))) (slot_put (by simp only [put_sizeV]; omega)) hq hr (by simp only [put_sizeV]; exact hsz) hdf (fun t ht => ?_) hM
    rw [slot_put_ne (show 20 ≠ t from ht 11 (by decide)), slot_put_ne (show 19 ≠ t from ht 10 (by decide)), slot_put_ne (show 92 ≠ t from ht 9 (by decide)), slot_put_ne (show 91 ≠ t from ht 8 (by decide)), slot_put_ne (show 83 ≠ t from ht 7 (by decide))]
    exact hF t fun i hi => by
      have := ht i (by omega)
      have hor : i = 0 ∨ i = 1 ∨ i = 2 ∨ i = 3 ∨ i = 4 ∨ i = 5 ∨ i = 6 := by omega
      rcases hor with rfl | rfl | rfl | rfl | rfl | rfl | rfl <;> exact this
noncomputable def opsR10 : List Oper := (Tryd.f6.body.bind (findR 10)).getD []
def slotsR10 : List Nat := [94, 95, 96, 97, 98, 99, 100]
def slotsAR10 : List Nat := [94, 95, 96, 97, 98, 99, 100, 93, 101, 102, 21, 22]
set_option maxHeartbeats 2000000 in
theorem regR10 {g k A B : Nat} {x : Int} {a0 : Act} {ws : World} {Q : Exit → Act → World → Prop} (hP : ∀ c a d v w, Q (.panic c) (Act.put a d v) w → Q (.panic c) a w) (hs : a0.tmps.size = 111) (gg : slot a0 16 = .pointer (some ⟨g, 0, none⟩)) (hlg : g < ws.heap.size) 
    (q3 : ws.cell? ⟨g, 3, none⟩ = some (.int .i64 x)) (q4 : ws.cell? ⟨g, 4, none⟩ = some (.int .u64 (W4 k 0))) (q5 : ws.cell? ⟨g, 5, none⟩ = some (.int .u64 (W4 k 1))) (q6 : ws.cell? ⟨g, 6, none⟩ = some (.int .u64 (W4 k 2))) (q7 : ws.cell? ⟨g, 7, none⟩ = some (.int .u64 (W4 k 3)))
    (c1 : ∀ W, Calls Tryd.prog 14 #[A4 k] W fun e w' => ∃ v, e = .returned v ∧ NT 7000 k v w' ∧ Below W.heap.size W w')
    (c2 : ∀ W u v, NT 7000 k u W → NT 7000 1 v W → Calls Tryd.prog 13 #[u, v, .int .u64 10, .int .i64 x] W fun e w' => ∃ p q, e = .returned (.tuple #[p, q]) ∧ NT 7000 A p w' ∧ NT 7000 B q w' ∧ Below W.heap.size W w')
    (hQ : ∀ (a : Act) (w : World) (u v : Value), slot a 21 = u → slot a 22 = v → NT 7000 A u w → NT 7000 B v w → a.tmps.size = 111 → a.defers = a0.defers → (∀ t, (∀ i, i < 12 → slotsAR10.getD i 0 ≠ t) → slot a t = slot a0 t) → Below ws.heap.size ws w → Q .normal a w) :
    (Code.region 10 opsR10.toArray true).wp Tryd.prog Q a0 ws := by
  refine wp_region_memr 7 111 slotsR10 [iW (.pointer (some ⟨g, 4, none⟩)), iW (A4 k), NT 7000 k, NT 7000 1, iW (.pointer (some ⟨g, 3, none⟩)), iW (.int .i64 x), TUD A B] (fun w w' => Below w.heap.size w w') (fun L f w => Below ws.heap.size ws w) (by kernel_rfl) (by kernel_rfl) hP (by kernel_rfl) hs ?_ (Below.refl _ _).drew ?_ ?_
  · intro p hp
    simp only [List.mem_cons, List.not_mem_nil, or_false] at hp
    rcases hp with rfl | rfl | rfl | rfl | rfl | rfl | rfl
    all_goals first | exact fun _ _ _ h _ => h | exact fun _ _ _ h hb => h.next hb
  · intro L i o a w hi ho hL hcl he hM hF hv
    have fg : slot a 16 = .pointer (some ⟨g, 0, none⟩) := (hF 16 (by decide)).trans gg
    have hor : i = 0 ∨ i = 1 ∨ i = 2 ∨ i = 3 ∨ i = 4 ∨ i = 5 ∨ i = 6 := by omega
    rcases hor with rfl | rfl | rfl | rfl | rfl | rfl | rfl
    · obtain rfl := Option.some.inj (show opsR10[0]? = some o from ho)
      exact og_fad4 fg ⟨_, rfl, rfl, Below.refl _ _, hM⟩
    · obtain rfl := Option.some.inj (show opsR10[1]? = some o from ho)
      exact og_ldB (i := 4) (hv 0 (by decide) rfl (he ⟨0, .data⟩ (by simp) rfl) : slot a 94 = .pointer (some ⟨g, 4, none⟩)) ((hM.cell (p := ⟨g, 4, none⟩) hlg).trans q4) ((hM.cell (p := ⟨g, 5, none⟩) hlg).trans q5) ((hM.cell (p := ⟨g, 6, none⟩) hlg).trans q6) ((hM.cell (p := ⟨g, 7, none⟩) hlg).trans q7) ⟨_, rfl, rfl, Below.refl _ _, hM⟩
    · obtain rfl := Option.some.inj (show opsR10[2]? = some o from ho)
      refine og_c1 (by simp [go_sem]) (hv 1 (by decide) rfl (he ⟨1, .data⟩ (by simp) rfl) : slot a 95 = A4 k) ((c1 w).mono ?_)
      rintro e w' ⟨v, rfl, hSv, hb⟩
      exact ⟨v, rfl, _, rfl, hSv, hb, bnx hM hb⟩
    · obtain rfl := Option.some.inj (show opsR10[3]? = some o from ho)
      exact od_un1 ⟨_, rfl, (nt_un1 rfl rfl (by decide) (by decide)).more (by decide), below1 _ _, bnx hM (below1 _ _)⟩
    · obtain rfl := Option.some.inj (show opsR10[4]? = some o from ho)
      exact og_fad3 fg ⟨_, rfl, rfl, Below.refl _ _, hM⟩
    · obtain rfl := Option.some.inj (show opsR10[5]? = some o from ho)
      exact og_ld3 (hv 4 (by decide) rfl (he ⟨4, .data⟩ (by simp) rfl) : slot a 98 = .pointer (some ⟨g, 3, none⟩)) ((hM.cell (p := ⟨g, 3, none⟩) hlg).trans q3) ⟨_, rfl, rfl, Below.refl _ _, hM⟩
    · obtain rfl := Option.some.inj (show opsR10[6]? = some o from ho)
      refine od_c4s (by simp [go_sem]) rfl rfl (hv 5 (by decide) rfl (he ⟨5, .data⟩ (by simp) rfl) : slot a 99 = .int .i64 x) ((c2 w _ _ (hv 2 (by decide) rfl (he ⟨2, .data⟩ (by simp) rfl)) (hv 3 (by decide) rfl (he ⟨3, .data⟩ (by simp) rfl))).mono ?_)
      rintro e w' ⟨u, v, rfl, hu, hv', hb⟩
      exact ⟨_, rfl, _, rfl, ⟨u, v, rfl, hu, hv'⟩, hb, bnx hM hb⟩
  · intro L a w hL hM hsz hdf hF hv
    obtain ⟨q, r, e, hq, hr⟩ := (hv 6 (by decide) rfl : TUD A B (slot a 100) w)
    refine BigFrame.wpList_want rfl fun K hK => og_mv e (hK _ _ ?_)
    clear K hK
    refine BigFrame.wpList_want rfl fun K hK => og_ext (slot_put (by omega)) rfl (hK _ _ ?_)
    clear K hK
    refine BigFrame.wpList_want rfl fun K hK => og_ext ((slot_put_ne (by decide)).trans (slot_put (by omega))) rfl (hK _ _ ?_)
    clear K hK
    refine BigFrame.wpList_want rfl fun K hK => og_as ((slot_put_ne (by decide)).trans (slot_put (by rw [put_sizeV]; omega))) (hK _ _ ?_)
    clear K hK
    refine BigFrame.wpList_want rfl fun K hK => og_as ((slot_put_ne (by decide)).trans (slot_put (by simp only [put_sizeV]; omega))) (hK _ _ ?_)
    clear K hK
    refine hQ _ _ q r ((slot_put_ne (by decide)).trans (slot_put (by simp only [put_sizeV]; omega))) (slot_put (by simp only [put_sizeV]; omega)) hq hr (by simp only [put_sizeV]; exact hsz) hdf (fun t ht => ?_) hM
    rw [slot_put_ne (show 22 ≠ t from ht 11 (by decide)), slot_put_ne (show 21 ≠ t from ht 10 (by decide)), slot_put_ne (show 102 ≠ t from ht 9 (by decide)), slot_put_ne (show 101 ≠ t from ht 8 (by decide)), slot_put_ne (show 93 ≠ t from ht 7 (by decide))]
    exact hF t fun i hi => by
      have := ht i (by omega)
      have hor : i = 0 ∨ i = 1 ∨ i = 2 ∨ i = 3 ∨ i = 4 ∨ i = 5 ∨ i = 6 := by omega
      rcases hor with rfl | rfl | rfl | rfl | rfl | rfl | rfl <;> exact this
end Go.Proofs.YtmommdhnogogdaaDoor
