/-
  Texts that the proof leans on, joined: Xg, Tc, Xf.
-/
import Derived.Test.YtplocajjfoiklaaGreatDoorR44
import Derived.Test.YtplocajjfoiklaaGreatDoorR43
import Derived.Test.YtplocajjfoiklaaGreatDoorR38
import Derived.Test.YtplocajjfoiklaaGreatDoorR48
import Derived.Test.YtplocajjfoiklaaGreatDoorR1
import Derived.Test.YtplocajjfoiklaaGreatDoorR34
import Derived.Test.YtplocajjfoiklaaGreatDoorR30
import Derived.Test.YtplocajjfoiklaaGreatDoorR41
import Derived.Test.YtplocajjfoiklaaGreatDoorR29
set_option maxHeartbeats 8000000
set_option linter.unusedVariables false
set_option linter.unusedSectionVars false
set_option linter.unusedSimpArgs false
set_option maxRecDepth 20000
namespace Go.Proofs.YtplocajjfoiklaaGreatDoor
open Go.RowKit
section
noncomputable def ops11 : List Oper := match Tryz.f41.body with
 | some (.seq _ (.seq _ (.seq _ (.seq _ (.seq (.seq _ (.block _ (.seq _ (.cond _ _ (.seq _ (.cond _ (.seq (.region _ o _) _) _)))))) _))))) => o.toList
 | _ => []
def slots11 : List Nat := [53, 54, 55, 56, 57, 58, 59, 60, 61, 62, 63, 64, 52, 65, 66, 13]
section
variable {a : Act} {w : World} {K : Act → World → Prop} {Q : Exit → Act → World → Prop} {d p q p2 p3 : Nat} {ty : TypeId} {pos : String} {after : Array Edge} {gd : Option (Nat × Bool)}
theorem op_asc {v : Value} (hK : K (a.put (some d) v) w) : Oper.wp Tryz.prog { dst := some d, op := Op.assign (Operand.const v), type := ty, pos := pos, after := after, guard := gd } a w K Q := by
 simp [go_sem]
 exact hK
theorem op_fa1 {g : Nat} (h1 : slot a p = .pointer (some ⟨g, 0, none⟩)) (hK : K (a.put (some d) (.pointer (some ⟨g, 1, none⟩))) w) : Oper.wp Tryz.prog { dst := some d, op := Op.fieldAddr 70 (Operand.tmp p) 1, type := ty, pos := pos, after := after, guard := gd } a w K Q := by
 unfold slot at h1
 simp [go_sem, h1]
 exact hK
theorem op_fa2 {g : Nat} (h1 : slot a p = .pointer (some ⟨g, 0, none⟩)) (hK : K (a.put (some d) (.pointer (some ⟨g, 2, none⟩))) w) : Oper.wp Tryz.prog { dst := some d, op := Op.fieldAddr 70 (Operand.tmp p) 2, type := ty, pos := pos, after := after, guard := gd } a w K Q := by
 unfold slot at h1
 simp [go_sem, h1]
 exact hK
theorem op_fa8 {g : Nat} (h1 : slot a p = .pointer (some ⟨g, 0, none⟩)) (hK : K (a.put (some d) (.pointer (some ⟨g, 8, none⟩))) w) : Oper.wp Tryz.prog { dst := some d, op := Op.fieldAddr 97 (Operand.tmp p) 8, type := ty, pos := pos, after := after, guard := gd } a w K Q := by
 unfold slot at h1
 simp [go_sem, h1]
 exact hK
theorem op_ldb {g i : Nat} {x : Bool} (h1 : slot a p = .pointer (some ⟨g, i, none⟩)) (h2 : w.cell? ⟨g, i, none⟩ = some (.bool x)) (hK : K (a.put (some d) (.bool x)) w) : Oper.wp Tryz.prog { dst := some d, op := Op.load 4 (Operand.tmp p), type := ty, pos := pos, after := after, guard := gd } a w K Q := by
 unfold slot at h1
 simp [go_sem, h1, h2]
 exact hK
theorem op_ldi {g i : Nat} {x : Int} (h1 : slot a p = .pointer (some ⟨g, i, none⟩)) (h2 : w.cell? ⟨g, i, none⟩ = some (.int .i64 x)) (hK : K (a.put (some d) (.int .i64 x)) w) : Oper.wp Tryz.prog { dst := some d, op := Op.load 3 (Operand.tmp p), type := ty, pos := pos, after := after, guard := gd } a w K Q := by
 unfold slot at h1
 simp [go_sem, h1, h2]
 exact hK
theorem op_ldp {g : Nat} {v0 v1 v2 v3 v4 : Value} (h1 : slot a p = .pointer (some ⟨g, 0, none⟩)) (c0 : w.cell? ⟨g, 0, none⟩ = some v0) (c1 : w.cell? ⟨g, 1, none⟩ = some v1) (c2 : w.cell? ⟨g, 2, none⟩ = some v2) (c3 : w.cell? ⟨g, 3, none⟩ = some v3) (c4 : w.cell? ⟨g, 4, none⟩ = some v4) (hK : K (a.put (some d) (.agg #[v0, v1, v2, v3, v4])) w) : Oper.wp Tryz.prog { dst := some d, op := Op.load 70 (Operand.tmp p), type := ty, pos := pos, after := after, guard := gd } a w K Q := by
 unfold slot at h1
 simp [go_sem, h1, c0, c1, c2, c3, c4]
 exact hK
theorem op_ld4 {g : Nat} {v0 v1 v2 v3 : Value} (h1 : slot a p = .pointer (some ⟨g, 0, none⟩)) (c0 : w.cell? ⟨g, 0, none⟩ = some v0) (c1 : w.cell? ⟨g, 1, none⟩ = some v1) (c2 : w.cell? ⟨g, 2, none⟩ = some v2) (c3 : w.cell? ⟨g, 3, none⟩ = some v3) (hK : K (a.put (some d) (.agg #[v0, v1, v2, v3])) w) : Oper.wp Tryz.prog { dst := some d, op := Op.load 24 (Operand.tmp p), type := ty, pos := pos, after := after, guard := gd } a w K Q := by
 unfold slot at h1
 simp [go_sem, h1, c0, c1, c2, c3]
 exact hK
theorem op_c19 {x : Int} {ts : Array TypeId} (h1 : slot a p = .int .i64 x) (hc : Calls Tryz.prog 61 #[.int .u64 2, .int .i64 x] w fun e w' => ∃ v, e = .returned v ∧ K (a.put (some d) v) w') : Oper.wp Tryz.prog { dst := some d, op := Op.call { callee := Callee.value (Operand.func 61), args := #[Operand.const (.int .u64 2), Operand.tmp p], argTypes := ts }, type := ty, pos := pos, after := after, guard := gd } a w K Q := by
 unfold slot at h1
 simp [go_sem, h1]
 refine hc.mono ?_
 rintro e w' ⟨v, rfl, hK⟩
 exact hK
theorem op_c37 {u u' : Value} {ts : Array TypeId} (h1 : slot a p = u) (h2 : slot a q = u') (hc : Calls Tryz.prog 97 #[u, u'] w fun e w' => ∃ v, e = .returned v ∧ K (a.put (some d) v) w') : Oper.wp Tryz.prog { dst := some d, op := Op.call { callee := Callee.value (Operand.func 97), args := #[Operand.tmp p, Operand.tmp q], argTypes := ts }, type := ty, pos := pos, after := after, guard := gd } a w K Q := by
 unfold slot at h1 h2
 simp [go_sem, h1, h2]
 refine hc.mono ?_
 rintro e w' ⟨v, rfl, hK⟩
 exact hK
theorem op_c36 {u u' : Value} {ts : Array TypeId} (h1 : slot a p = u) (h2 : slot a q = u') (hc : Calls Tryz.prog 96 #[u, u'] w fun e w' => ∃ v, e = .returned v ∧ K (a.put (some d) v) w') : Oper.wp Tryz.prog { dst := some d, op := Op.call { callee := Callee.value (Operand.func 96), args := #[Operand.tmp p, Operand.tmp q], argTypes := ts }, type := ty, pos := pos, after := after, guard := gd } a w K Q := by
 unfold slot at h1 h2
 simp [go_sem, h1, h2]
 refine hc.mono ?_
 rintro e w' ⟨v, rfl, hK⟩
 exact hK
theorem op_bd {s g : Bool} {P : Nat} (h1 : slot a p = .bool s) (h2 : slot a p2 = .bool g) (h3 : slot a p3 = A4 P) (hK : K (a.put (some d) (DV 3 s g 0 P)) w) : Oper.wp Tryz.prog { dst := some d, op := Op.build 43 #[(0, Operand.const (.int .i64 3)), (1, Operand.tmp p), (2, Operand.tmp p2), (4, Operand.tmp p3)], type := ty, pos := pos, after := after, guard := gd } a w K Q := by
 unfold slot at h1 h2 h3
 simp [go_sem, h1, h2, h3]
 exact hK
theorem op_ex0 {u v : Value} (h1 : slot a p = .tuple #[u, v]) (hK : K (a.put (some d) u) w) : Oper.wp Tryz.prog { dst := some d, op := Op.extract (Operand.tmp p) 0, type := ty, pos := pos, after := after, guard := gd } a w K Q := by
 unfold slot at h1
 simp [go_sem, h1]
 exact hK
theorem op_ex1 {u v : Value} (h1 : slot a p = .tuple #[u, v]) (hK : K (a.put (some d) v) w) : Oper.wp Tryz.prog { dst := some d, op := Op.extract (Operand.tmp p) 1, type := ty, pos := pos, after := after, guard := gd } a w K Q := by
 unfold slot at h1
 simp [go_sem, h1]
 exact hK
theorem op_al (hK : K (a.put (some d) (.pointer (some ⟨w.heap.size, 0, none⟩))) (w.alloc (.cells #[.int .u64 0, .int .u64 0, .int .u64 0, .int .u64 0] 24))) : Oper.wp Tryz.prog { dst := some d, op := Op.alloc 24, type := ty, pos := pos, after := after, guard := gd } a w K Q := by
 simp [go_sem]
 exact hK
theorem op_st {g : Nat} {u0 u1 u2 u3 v0 v1 v2 v3 : Int} (h1 : slot a p = .pointer (some ⟨g, 0, none⟩)) (h2 : slot a q = .agg #[.int .u64 v0, .int .u64 v1, .int .u64 v2, .int .u64 v3]) (c0 : w.cell? ⟨g, 0, none⟩ = some (.int .u64 u0)) (c1 : w.cell? ⟨g, 1, none⟩ = some (.int .u64 u1)) (c2 : w.cell? ⟨g, 2, none⟩ = some (.int .u64 u2)) (c3 : w.cell? ⟨g, 3, none⟩ = some (.int .u64 u3)) (f : ∀ i, w.frozen? ⟨g, i, none⟩ = false)
  (hK : K a ((((w.setCell ⟨g, 0, none⟩ (.int .u64 v0)).setCell ⟨g, 1, none⟩ (.int .u64 v1)).setCell ⟨g, 2, none⟩ (.int .u64 v2)).setCell ⟨g, 3, none⟩ (.int .u64 v3))) : Oper.wp Tryz.prog { dst := none, op := Op.store 24 (Operand.tmp p) (Operand.tmp q), type := ty, pos := pos, after := after, guard := gd } a w K Q := by
 unfold slot at h1 h2
 have f0 := f 0
 have f1 := f 1
 have f2 := f 2
 have f3 := f 3
 simp [go_sem, h1, h2, c0, c1, c2, c3, f0, f1, f2, f3]
 exact hK
end
abbrev val11 (n x E : Int) (s g : Bool) (l : List UInt8) (f P R g5 g9 : Nat) : List (Nat × Nat × Value) :=
  [(0, 53, .int .i64 n), (1, 54, .pointer (some ⟨g5, 1, none⟩)), (2, 55, .bool s), (3, 56, .pointer (some ⟨g5, 2, none⟩)), (4, 57, .bool g), (5, 58, PV 3 s g l x), (6, 59, .pointer (some ⟨g9, 8, none⟩)), (7, 60, .int .i64 ((f : Int) - 1)),
   (9, 62, A4 P), (10, 63, DV 3 s g 0 P), (11, 64, .tuple #[A4 R, .int .i64 E]), (12, 52, .tuple #[A4 R, .int .i64 E]), (13, 65, A4 R), (14, 66, .int .i64 E)]
structure B11 (V : List (Nat × Nat × Value)) (R K0 M : Nat) (a0 : Act) (ws : World) (L : Nat → Prop) (a : Act) (w : World) : Prop where
 sz : a.tmps.size = 97
 df : a.defers = a0.defers
 fr : ∀ t, slots11.contains t = false → slot a t = slot a0 t
 bel : Below ws.heap.size ws w
 vals : ∀ e ∈ V, L e.1 → slot a e.2.1 = e.2.2
 pow : L 8 → ¬ L 9 → NV K0 M (slot a 61) w
 box : L 15 → ∃ q, slot a 13 = .pointer (some ⟨q, 0, none⟩) ∧ ws.heap.size ≤ q ∧ q < w.heap.size ∧ (∀ i, w.frozen? ⟨q, i, none⟩ = false) ∧ (¬ L 16 → ∀ i, i < 4 → w.cell? ⟨q, i, none⟩ = some (.int .u64 0)) ∧ (L 16 → Four w q 0 R)
theorem b11_put {V : List (Nat × Nat × Value)} {R K0 M : Nat} {a0 : Act} {ws : World} {L : Nat → Prop} {a : Act} {w w' : World} (i t : Nat) (u : Value) (hB : B11 V R K0 M a0 ws L a w) (h15 : i ≠ 15) (h16 : i ≠ 16) (hc : slots11.contains t = true) (h97 : t < 97) (hb : Below w.heap.size w w') (h13 : t ≠ 13)
  (hV : ∀ e ∈ V, (e.1 = i → e.2.1 = t ∧ e.2.2 = u) ∧ (e.1 ≠ i → e.2.1 ≠ t)) (h8 : (i = 8 → t = 61 ∧ NV K0 M u w') ∧ (i ≠ 8 → t ≠ 61)) : B11 V R K0 M a0 ws (fun j => L j ∨ j = i) (a.put (some t) u) w' := by
 obtain ⟨b1, b2, b3, b4, b5, b6, b7⟩ := hB
 have hput : slot (a.put (some t) u) t = u := slot_put (by rw [b1]; exact h97)
 refine ⟨by simp [Act.put, b1], b2, fun t' ht' => ?_, b4.trans (hb.mono b4.size), fun e he hL => ?_, fun h h9 => ?_, fun h => ?_⟩
 ·rw [slot_put_ne (fun e => by rw [e] at hc; rw [hc] at ht'; cases ht')]
  exact b3 t' ht'
 ·by_cases hi : e.1 = i
  ·obtain ⟨e1, e2⟩ := (hV e he).1 hi
   rw [e1, e2]; exact hput
  ·rw [slot_put_ne (fun h => (hV e he).2 hi h.symm)]
   exact b5 e he (hL.resolve_right hi)
 ·by_cases hi : i = 8
  ·obtain ⟨e1, e2⟩ := h8.1 hi
   subst e1
   rw [hput]; exact e2
  ·rw [slot_put_ne (h8.2 hi)]
   exact (b6 (h.resolve_right fun e => hi e.symm) (fun h9' => h9 (Or.inl h9'))).next hb
 ·obtain ⟨q, c1, c2, c3, c4, c5, c6⟩ := b7 (h.resolve_right fun e => h15 e.symm)
  obtain ⟨kc, kf⟩ := bcell hb
  refine ⟨q, by rw [slot_put_ne h13]; exact c1, c2, Nat.lt_of_lt_of_le c3 hb.size, fun i => (kf q i c3).trans (c4 i), fun hn i hi => (kc q i c3).trans (c5 (fun h => hn (Or.inl h)) i hi), fun h => (c6 (h.resolve_right fun e => h16 e.symm)).next c3 hb⟩
theorem reg11 {n x E : Int} {s g : Bool} {l : List UInt8} {f P R K0 M g5 g9 : Nat} {a0 : Act} {ws : World} {Q : Exit → Act → World → Prop} (hs : a0.tmps.size = 97)
  (h0 : slot a0 0 = .int .i64 n) (h5 : slot a0 5 = .pointer (some ⟨g5, 0, none⟩)) (h9 : slot a0 9 = .pointer (some ⟨g9, 0, none⟩)) (hg5 : g5 < ws.heap.size) (hg9 : g9 < ws.heap.size)
  (k0 : ws.cell? ⟨g5, 0, none⟩ = some (.int .i64 3)) (k1 : ws.cell? ⟨g5, 1, none⟩ = some (.bool s)) (k2 : ws.cell? ⟨g5, 2, none⟩ = some (.bool g)) (k3 : ws.cell? ⟨g5, 3, none⟩ = some (.string (B l))) (k4 : ws.cell? ⟨g5, 4, none⟩ = some (.int .i64 x)) (k8 : ws.cell? ⟨g9, 8, none⟩ = some (.int .i64 ((f : Int) - 1)))
  (c19 : ∀ W, Calls Tryz.prog 61 #[.int .u64 2, .int .i64 ((f : Int) - 1)] W fun r w' => ∃ v, r = .returned v ∧ NV K0 M v w' ∧ Below W.heap.size W w')
  (c37 : ∀ W v, NV K0 M v W → Calls Tryz.prog 97 #[PV 3 s g l x, v] W fun r w' => r = .returned (A4 P) ∧ Below W.heap.size W w')
  (c36 : ∀ W, Calls Tryz.prog 96 #[.int .i64 n, DV 3 s g 0 P] W fun r w' => r = .returned (.tuple #[A4 R, .int .i64 E]) ∧ Below W.heap.size W w')
  (hQ : ∀ (a : Act) (w : World) (q : Nat), slot a 13 = .pointer (some ⟨q, 0, none⟩) → slot a 6 = slot a0 6 → Four w q 0 R → ws.heap.size ≤ q → a.tmps.size = 97 → a.defers = a0.defers → Below ws.heap.size ws w → Q .normal a w) :
  (Code.region 11 ops11.toArray true).wp Tryz.prog Q a0 ws := by
 refine wp_region_inv3 17 (B11 (val11 n x E s g l f P R g5 g9) R K0 M a0 ws) (by kernel_rfl) (by kernel_rfl) ⟨hs, rfl, fun _ _ => rfl, (Below.refl _ _).drew, fun _ _ h => h.elim, fun h => h.elim, fun h => h.elim⟩ ?_ ?_
 ·intro L i o' a w hi ho hL hcl he hB
  have f0 : slot a 0 = .int .i64 n := (hB.fr 0 rfl).trans h0
  have f5 : slot a 5 = .pointer (some ⟨g5, 0, none⟩) := (hB.fr 5 rfl).trans h5
  have f9 : slot a 9 = .pointer (some ⟨g9, 0, none⟩) := (hB.fr 9 rfl).trans h9
  have hC := hB.bel
  have y0 := (hC.cell (p := ⟨g5, 0, none⟩) hg5).trans k0
  have y1 := (hC.cell (p := ⟨g5, 1, none⟩) hg5).trans k1
  have y2 := (hC.cell (p := ⟨g5, 2, none⟩) hg5).trans k2
  have y3 := (hC.cell (p := ⟨g5, 3, none⟩) hg5).trans k3
  have y4 := (hC.cell (p := ⟨g5, 4, none⟩) hg5).trans k4
  have y8 := (hC.cell (p := ⟨g9, 8, none⟩) hg9).trans k8
  have hbr : Below w.heap.size w w := Below.refl _ _
  have hor : i = 0 ∨ i = 1 ∨ i = 2 ∨ i = 3 ∨ i = 4 ∨ i = 5 ∨ i = 6 ∨ i = 7 ∨ i = 8 ∨ i = 9 ∨ i = 10 ∨ i = 11 ∨ i = 12 ∨ i = 13 ∨ i = 14 ∨ i = 15 ∨ i = 16 := by omega
  unfold wpOp
  have ho' : ops11.toArray[i]? = some o' := by simpa using ho
  simp only [ho']
  rcases hor with rfl | rfl | rfl | rfl | rfl | rfl | rfl | rfl | rfl | rfl | rfl | rfl | rfl | rfl | rfl | rfl | rfl
  ·obtain rfl := Option.some.inj (show ops11[0]? = some o' from ho)
   rw [if_pos (show Region.wanted _ _ = true from rfl)]
   refine Or.inl ?_
   refine op_mv f0 ?_
   exact b11_put 0 53 _ hB (by decide) (by decide) rfl (by decide) hbr (by decide) (by
     intro e he
     simp only [List.mem_cons, List.not_mem_nil, or_false] at he
     rcases he with rfl | rfl | rfl | rfl | rfl | rfl | rfl | rfl | rfl | rfl | rfl | rfl | rfl | rfl
     all_goals exact ⟨fun h => by first | exact ⟨rfl, rfl⟩ | (dsimp only at h; omega), fun h => by dsimp only at h ⊢; omega⟩) ⟨fun h => absurd h (by decide), fun _ => by decide⟩
  ·obtain rfl := Option.some.inj (show ops11[1]? = some o' from ho)
   rw [if_pos (show Region.wanted _ _ = true from rfl)]
   refine Or.inl ?_
   refine op_fa1 f5 ?_
   exact b11_put 1 54 _ hB (by decide) (by decide) rfl (by decide) hbr (by decide) (by
     intro e he
     simp only [List.mem_cons, List.not_mem_nil, or_false] at he
     rcases he with rfl | rfl | rfl | rfl | rfl | rfl | rfl | rfl | rfl | rfl | rfl | rfl | rfl | rfl
     all_goals exact ⟨fun h => by first | exact ⟨rfl, rfl⟩ | (dsimp only at h; omega), fun h => by dsimp only at h ⊢; omega⟩) ⟨fun h => absurd h (by decide), fun _ => by decide⟩
  ·obtain rfl := Option.some.inj (show ops11[2]? = some o' from ho)
   rw [if_pos (show Region.wanted _ _ = true from rfl)]
   refine Or.inl ?_
   have V1 := hB.vals _ (List.Mem.tail _ (List.Mem.head _)) (he ⟨1, .data⟩ (by simp) rfl)
   refine op_ldb (V1 : slot a 54 = _) y1 ?_
   exact b11_put 2 55 _ hB (by decide) (by decide) rfl (by decide) hbr (by decide) (by
     intro e he
     simp only [List.mem_cons, List.not_mem_nil, or_false] at he
     rcases he with rfl | rfl | rfl | rfl | rfl | rfl | rfl | rfl | rfl | rfl | rfl | rfl | rfl | rfl
     all_goals exact ⟨fun h => by first | exact ⟨rfl, rfl⟩ | (dsimp only at h; omega), fun h => by dsimp only at h ⊢; omega⟩) ⟨fun h => absurd h (by decide), fun _ => by decide⟩
  ·obtain rfl := Option.some.inj (show ops11[3]? = some o' from ho)
   rw [if_pos (show Region.wanted _ _ = true from rfl)]
   refine Or.inl ?_
   refine op_fa2 f5 ?_
   exact b11_put 3 56 _ hB (by decide) (by decide) rfl (by decide) hbr (by decide) (by
     intro e he
     simp only [List.mem_cons, List.not_mem_nil, or_false] at he
     rcases he with rfl | rfl | rfl | rfl | rfl | rfl | rfl | rfl | rfl | rfl | rfl | rfl | rfl | rfl
     all_goals exact ⟨fun h => by first | exact ⟨rfl, rfl⟩ | (dsimp only at h; omega), fun h => by dsimp only at h ⊢; omega⟩) ⟨fun h => absurd h (by decide), fun _ => by decide⟩
  ·obtain rfl := Option.some.inj (show ops11[4]? = some o' from ho)
   rw [if_pos (show Region.wanted _ _ = true from rfl)]
   refine Or.inl ?_
   have V3 := hB.vals _ (List.Mem.tail _ (List.Mem.tail _ (List.Mem.tail _ (List.Mem.head _)))) (he ⟨3, .data⟩ (by simp) rfl)
   refine op_ldb (V3 : slot a 56 = _) y2 ?_
   exact b11_put 4 57 _ hB (by decide) (by decide) rfl (by decide) hbr (by decide) (by
     intro e he
     simp only [List.mem_cons, List.not_mem_nil, or_false] at he
     rcases he with rfl | rfl | rfl | rfl | rfl | rfl | rfl | rfl | rfl | rfl | rfl | rfl | rfl | rfl
     all_goals exact ⟨fun h => by first | exact ⟨rfl, rfl⟩ | (dsimp only at h; omega), fun h => by dsimp only at h ⊢; omega⟩) ⟨fun h => absurd h (by decide), fun _ => by decide⟩
  ·obtain rfl := Option.some.inj (show ops11[5]? = some o' from ho)
   rw [if_pos (show Region.wanted _ _ = true from rfl)]
   refine Or.inl ?_
   refine op_ldp f5 y0 y1 y2 y3 y4 ?_
   exact b11_put 5 58 _ hB (by decide) (by decide) rfl (by decide) hbr (by decide) (by
     intro e he
     simp only [List.mem_cons, List.not_mem_nil, or_false] at he
     rcases he with rfl | rfl | rfl | rfl | rfl | rfl | rfl | rfl | rfl | rfl | rfl | rfl | rfl | rfl
     all_goals exact ⟨fun h => by first | exact ⟨rfl, rfl⟩ | (dsimp only at h; omega), fun h => by dsimp only at h ⊢; omega⟩) ⟨fun h => absurd h (by decide), fun _ => by decide⟩
  ·obtain rfl := Option.some.inj (show ops11[6]? = some o' from ho)
   rw [if_pos (show Region.wanted _ _ = true from rfl)]
   refine Or.inl ?_
   refine op_fa8 f9 ?_
   exact b11_put 6 59 _ hB (by decide) (by decide) rfl (by decide) hbr (by decide) (by
     intro e he
     simp only [List.mem_cons, List.not_mem_nil, or_false] at he
     rcases he with rfl | rfl | rfl | rfl | rfl | rfl | rfl | rfl | rfl | rfl | rfl | rfl | rfl | rfl
     all_goals exact ⟨fun h => by first | exact ⟨rfl, rfl⟩ | (dsimp only at h; omega), fun h => by dsimp only at h ⊢; omega⟩) ⟨fun h => absurd h (by decide), fun _ => by decide⟩
  ·obtain rfl := Option.some.inj (show ops11[7]? = some o' from ho)
   rw [if_pos (show Region.wanted _ _ = true from rfl)]
   refine Or.inl ?_
   have V6 := hB.vals _ (List.Mem.tail _ (List.Mem.tail _ (List.Mem.tail _ (List.Mem.tail _ (List.Mem.tail _ (List.Mem.tail _ (List.Mem.head _))))))) (he ⟨6, .data⟩ (by simp) rfl)
   refine op_ldi (V6 : slot a 59 = _) y8 ?_
   exact b11_put 7 60 _ hB (by decide) (by decide) rfl (by decide) hbr (by decide) (by
     intro e he
     simp only [List.mem_cons, List.not_mem_nil, or_false] at he
     rcases he with rfl | rfl | rfl | rfl | rfl | rfl | rfl | rfl | rfl | rfl | rfl | rfl | rfl | rfl
     all_goals exact ⟨fun h => by first | exact ⟨rfl, rfl⟩ | (dsimp only at h; omega), fun h => by dsimp only at h ⊢; omega⟩) ⟨fun h => absurd h (by decide), fun _ => by decide⟩
  ·obtain rfl := Option.some.inj (show ops11[8]? = some o' from ho)
   rw [if_pos (show Region.wanted _ _ = true from rfl)]
   refine Or.inl ?_
   have V7 := hB.vals _ (List.Mem.tail _ (List.Mem.tail _ (List.Mem.tail _ (List.Mem.tail _ (List.Mem.tail _ (List.Mem.tail _ (List.Mem.tail _ (List.Mem.head _)))))))) (he ⟨7, .data⟩ (by simp) rfl)
   refine op_c19 (V7 : slot a 60 = _) ((c19 w).mono ?_)
   rintro e w' ⟨v, rfl, hv, hb⟩
   exact ⟨_, rfl, b11_put 8 61 _ hB (by decide) (by decide) rfl (by decide) hb (by decide) (by
     intro e he
     simp only [List.mem_cons, List.not_mem_nil, or_false] at he
     rcases he with rfl | rfl | rfl | rfl | rfl | rfl | rfl | rfl | rfl | rfl | rfl | rfl | rfl | rfl
     all_goals exact ⟨fun h => by first | exact ⟨rfl, rfl⟩ | (dsimp only at h; omega), fun h => by dsimp only at h ⊢; omega⟩) ⟨fun _ => ⟨rfl, hv⟩, fun h => absurd rfl h⟩⟩
  ·obtain rfl := Option.some.inj (show ops11[9]? = some o' from ho)
   rw [if_pos (show Region.wanted _ _ = true from rfl)]
   refine Or.inl ?_
   have V5 := hB.vals _ (List.Mem.tail _ (List.Mem.tail _ (List.Mem.tail _ (List.Mem.tail _ (List.Mem.tail _ (List.Mem.head _)))))) (he ⟨5, .data⟩ (by simp) rfl)
   have hv : NV K0 M (slot a 61) w := hB.pow (he ⟨8, .data⟩ (by simp) rfl) hL
   refine op_c37 (V5 : slot a 58 = _) rfl ((c37 w _ hv).mono ?_)
   rintro e w' ⟨rfl, hb⟩
   exact ⟨_, rfl, b11_put 9 62 _ hB (by decide) (by decide) rfl (by decide) hb (by decide) (by
     intro e he
     simp only [List.mem_cons, List.not_mem_nil, or_false] at he
     rcases he with rfl | rfl | rfl | rfl | rfl | rfl | rfl | rfl | rfl | rfl | rfl | rfl | rfl | rfl
     all_goals exact ⟨fun h => by first | exact ⟨rfl, rfl⟩ | (dsimp only at h; omega), fun h => by dsimp only at h ⊢; omega⟩) ⟨fun h => absurd h (by decide), fun _ => by decide⟩⟩
  ·obtain rfl := Option.some.inj (show ops11[10]? = some o' from ho)
   rw [if_pos (show Region.wanted _ _ = true from rfl)]
   refine Or.inl ?_
   have V2 := hB.vals _ (List.Mem.tail _ (List.Mem.tail _ (List.Mem.head _))) (he ⟨2, .data⟩ (by simp) rfl)
   have V4 := hB.vals _ (List.Mem.tail _ (List.Mem.tail _ (List.Mem.tail _ (List.Mem.tail _ (List.Mem.head _))))) (he ⟨4, .data⟩ (by simp) rfl)
   have V9 := hB.vals _ (List.Mem.tail _ (List.Mem.tail _ (List.Mem.tail _ (List.Mem.tail _ (List.Mem.tail _ (List.Mem.tail _ (List.Mem.tail _ (List.Mem.tail _ (List.Mem.head _))))))))) (he ⟨9, .data⟩ (by simp) rfl)
   refine op_bd (V2 : slot a 55 = _) (V4 : slot a 57 = _) (V9 : slot a 62 = _) ?_
   exact b11_put 10 63 _ hB (by decide) (by decide) rfl (by decide) hbr (by decide) (by
     intro e he
     simp only [List.mem_cons, List.not_mem_nil, or_false] at he
     rcases he with rfl | rfl | rfl | rfl | rfl | rfl | rfl | rfl | rfl | rfl | rfl | rfl | rfl | rfl
     all_goals exact ⟨fun h => by first | exact ⟨rfl, rfl⟩ | (dsimp only at h; omega), fun h => by dsimp only at h ⊢; omega⟩) ⟨fun h => absurd h (by decide), fun _ => by decide⟩
  ·obtain rfl := Option.some.inj (show ops11[11]? = some o' from ho)
   rw [if_pos (show Region.wanted _ _ = true from rfl)]
   refine Or.inl ?_
   have V0 := hB.vals _ (List.Mem.head _) (he ⟨0, .data⟩ (by simp) rfl)
   have V10 := hB.vals _ (List.Mem.tail _ (List.Mem.tail _ (List.Mem.tail _ (List.Mem.tail _ (List.Mem.tail _ (List.Mem.tail _ (List.Mem.tail _ (List.Mem.tail _ (List.Mem.tail _ (List.Mem.head _)))))))))) (he ⟨10, .data⟩ (by simp) rfl)
   refine op_c36 (V0 : slot a 53 = _) (V10 : slot a 63 = _) ((c36 w).mono ?_)
   rintro e w' ⟨rfl, hb⟩
   exact ⟨_, rfl, b11_put 11 64 _ hB (by decide) (by decide) rfl (by decide) hb (by decide) (by
     intro e he
     simp only [List.mem_cons, List.not_mem_nil, or_false] at he
     rcases he with rfl | rfl | rfl | rfl | rfl | rfl | rfl | rfl | rfl | rfl | rfl | rfl | rfl | rfl
     all_goals exact ⟨fun h => by first | exact ⟨rfl, rfl⟩ | (dsimp only at h; omega), fun h => by dsimp only at h ⊢; omega⟩) ⟨fun h => absurd h (by decide), fun _ => by decide⟩⟩
  ·obtain rfl := Option.some.inj (show ops11[12]? = some o' from ho)
   rw [if_pos (show Region.wanted _ _ = true from rfl)]
   refine Or.inl ?_
   have V11 := hB.vals _ (List.Mem.tail _ (List.Mem.tail _ (List.Mem.tail _ (List.Mem.tail _ (List.Mem.tail _ (List.Mem.tail _ (List.Mem.tail _ (List.Mem.tail _ (List.Mem.tail _ (List.Mem.tail _ (List.Mem.head _))))))))))) (he ⟨11, .data⟩ (by simp) rfl)
   refine op_mv (V11 : slot a 64 = _) ?_
   exact b11_put 12 52 _ hB (by decide) (by decide) rfl (by decide) hbr (by decide) (by
     intro e he
     simp only [List.mem_cons, List.not_mem_nil, or_false] at he
     rcases he with rfl | rfl | rfl | rfl | rfl | rfl | rfl | rfl | rfl | rfl | rfl | rfl | rfl | rfl
     all_goals exact ⟨fun h => by first | exact ⟨rfl, rfl⟩ | (dsimp only at h; omega), fun h => by dsimp only at h ⊢; omega⟩) ⟨fun h => absurd h (by decide), fun _ => by decide⟩
  ·obtain rfl := Option.some.inj (show ops11[13]? = some o' from ho)
   rw [if_pos (show Region.wanted _ _ = true from rfl)]
   refine Or.inl ?_
   have V12 := hB.vals _ (List.Mem.tail _ (List.Mem.tail _ (List.Mem.tail _ (List.Mem.tail _ (List.Mem.tail _ (List.Mem.tail _ (List.Mem.tail _ (List.Mem.tail _ (List.Mem.tail _ (List.Mem.tail _ (List.Mem.tail _ (List.Mem.head _)))))))))))) (he ⟨12, .data⟩ (by simp) rfl)
   refine op_ex0 (V12 : slot a 52 = _) ?_
   exact b11_put 13 65 _ hB (by decide) (by decide) rfl (by decide) hbr (by decide) (by
     intro e he
     simp only [List.mem_cons, List.not_mem_nil, or_false] at he
     rcases he with rfl | rfl | rfl | rfl | rfl | rfl | rfl | rfl | rfl | rfl | rfl | rfl | rfl | rfl
     all_goals exact ⟨fun h => by first | exact ⟨rfl, rfl⟩ | (dsimp only at h; omega), fun h => by dsimp only at h ⊢; omega⟩) ⟨fun h => absurd h (by decide), fun _ => by decide⟩
  ·obtain rfl := Option.some.inj (show ops11[14]? = some o' from ho)
   rw [if_pos (show Region.wanted _ _ = true from rfl)]
   refine Or.inl ?_
   have V12 := hB.vals _ (List.Mem.tail _ (List.Mem.tail _ (List.Mem.tail _ (List.Mem.tail _ (List.Mem.tail _ (List.Mem.tail _ (List.Mem.tail _ (List.Mem.tail _ (List.Mem.tail _ (List.Mem.tail _ (List.Mem.tail _ (List.Mem.head _)))))))))))) (he ⟨12, .data⟩ (by simp) rfl)
   refine op_ex1 (V12 : slot a 52 = _) ?_
   exact b11_put 14 66 _ hB (by decide) (by decide) rfl (by decide) hbr (by decide) (by
     intro e he
     simp only [List.mem_cons, List.not_mem_nil, or_false] at he
     rcases he with rfl | rfl | rfl | rfl | rfl | rfl | rfl | rfl | rfl | rfl | rfl | rfl | rfl | rfl
     all_goals exact ⟨fun h => by first | exact ⟨rfl, rfl⟩ | (dsimp only at h; omega), fun h => by dsimp only at h ⊢; omega⟩) ⟨fun h => absurd h (by decide), fun _ => by decide⟩
  ·obtain rfl := Option.some.inj (show ops11[15]? = some o' from ho)
   rw [if_pos (show Region.wanted _ _ = true from rfl)]
   refine Or.inl ?_
   refine op_al ?_
   have h16 : ¬ L 16 := fun h => hL (hcl 16 _ rfl h ⟨15, .data⟩ (by simp) rfl)
   obtain ⟨b1, b2, b3, b4, b5, b6, b7⟩ := hB
   have hb := below1 w (.cells #[.int .u64 0, .int .u64 0, .int .u64 0, .int .u64 0] 24)
   refine ⟨by simp [Act.put, b1], b2, fun t' ht' => ?_, b4.trans (hb.mono b4.size), fun e he' hL' => ?_, fun h h9' => ?_, fun _ => ?_⟩
   ·rw [slot_put_ne (fun e => by rw [← e] at ht'; cases ht')]
    exact b3 t' ht'
   ·have hne : e.1 ≠ 15 ∧ e.2.1 ≠ 13 := by
     simp only [List.mem_cons, List.not_mem_nil, or_false] at he'
     rcases he' with rfl | rfl | rfl | rfl | rfl | rfl | rfl | rfl | rfl | rfl | rfl | rfl | rfl | rfl
     all_goals exact ⟨by dsimp only; omega, by dsimp only; omega⟩
    rw [slot_put_ne (fun h => hne.2 h.symm)]
    exact b5 e he' (hL'.resolve_right hne.1)
   ·rw [slot_put_ne (by decide)]
    exact (b6 (h.resolve_right (by decide)) (fun h' => h9' (Or.inl h'))).next hb
   ·refine ⟨w.heap.size, slot_put (by rw [b1]; decide), b4.size, by simp, fun i => by go_simp, fun _ => zeros4 (by go_simp) (by go_simp) (by go_simp) (by go_simp), fun h => ?_⟩
    rcases h with h | h
    ·exact absurd h h16
    ·cases h
  ·obtain rfl := Option.some.inj (show ops11[16]? = some o' from ho)
   rw [if_pos (show Region.wanted _ _ = true from rfl)]
   refine Or.inl ?_
   have V13 := hB.vals _ (List.Mem.tail _ (List.Mem.tail _ (List.Mem.tail _ (List.Mem.tail _ (List.Mem.tail _ (List.Mem.tail _ (List.Mem.tail _ (List.Mem.tail _ (List.Mem.tail _ (List.Mem.tail _ (List.Mem.tail _ (List.Mem.tail _ (List.Mem.head _))))))))))))) (he ⟨13, .data⟩ (by simp) rfl)
   have L15 := he ⟨15, .data⟩ (by simp) rfl
   have L11 := he ⟨11, .chain⟩ (by simp) rfl
   have L10 := hcl 11 _ rfl L11 ⟨10, .data⟩ (by simp) rfl
   have L9 := hcl 10 _ rfl L10 ⟨9, .data⟩ (by simp) rfl
   obtain ⟨b1, b2, b3, b4, b5, b6, b7⟩ := hB
   obtain ⟨q, c1, c2, c3, c4, c5, c6⟩ := b7 L15
   have z := c5 hL
   have z0 := z 0 (by decide)
   have z1 := z 1 (by decide)
   have z2 := z 2 (by decide)
   have z3 := z 3 (by decide)
   refine op_st (v0 := W4 R 0) (v1 := W4 R 1) (v2 := W4 R 2) (v3 := W4 R 3) c1 V13 z0 z1 z2 z3 c4 ?_
   have hb4 : Below ws.heap.size ws ((((w.setCell ⟨q, 0, none⟩ (.int .u64 (W4 R 0))).setCell ⟨q, 1, none⟩ (.int .u64 (W4 R 1))).setCell ⟨q, 2, none⟩ (.int .u64 (W4 R 2))).setCell ⟨q, 3, none⟩ (.int .u64 (W4 R 3))) := (((b4.setCell c2 _).setCell c2 _).setCell c2 _).setCell c2 _
   have hsm := cell_set_map
   refine ⟨b1, b2, b3, hb4, fun e he' hL' => ?_, fun _ h9' => absurd (Or.inl L9) h9', fun _ => ⟨q, c1, c2, by simp; exact c3, fun i => by go_simp, fun h => absurd (Or.inr rfl) h, fun _ => .of (by go_simp) (by go_simp) (by go_simp) (by go_simp)⟩⟩
   have hne : e.1 ≠ 16 := by
    simp only [List.mem_cons, List.not_mem_nil, or_false] at he'
    rcases he' with rfl | rfl | rfl | rfl | rfl | rfl | rfl | rfl | rfl | rfl | rfl | rfl | rfl | rfl
    all_goals (dsimp only; omega)
   exact b5 e he' (hL'.resolve_right hne)
 ·intro L a w hall hB
  have v66 : slot a 66 = .int .i64 E := hB.vals (14, 66, .int .i64 E) (by simp) (hall 14 (by decide))
  obtain ⟨q, c1, c2, c3, c4, c5, c6⟩ := hB.box (hall 15 (by decide))
  have f6 : slot a 6 = slot a0 6 := hB.fr 6 rfl
  refine BigFrame.wpList_want rfl fun K hK => op_as v66 (hK _ _ ?_)
  clear K hK
  refine hQ _ _ q ?_ ?_ (c6 (hall 16 (by decide))) c2 (by simp [Act.put, hB.sz]) hB.df hB.bel
  ·rw [slot_put_ne (by decide)]; exact c1
  ·rw [slot_put_ne (by decide)]; exact f6
attribute [local irreducible] W4 NT NV
section
variable (n d : Int) (c : Int) (s g : Bool) (l : List UInt8) (x : Int) (nm : ByteArray) (wd : Int) (f e : Nat) (lo m : Int) (w : World)
variable (c22 : ∀ W, Calls Tryz.prog 14 #[.int .i64 n] W fun r w' => r = .returned (.bool true) ∧ W = w')
variable (c15 : ∀ W, Calls Tryz.prog 15 #[.int .i64 d] W fun r w' => r = .returned (.bool true) ∧ W = w')
variable (c35 : ∀ W, Below w.heap.size w W → Calls Tryz.prog 95 #[PV c s g l x] W fun r w' => r = .returned (.bool true) ∧ Below W.heap.size W w')
 (c25 : ∀ W, Calls Tryz.prog 58 #[.int .i64 n] W fun r w' => r = .returned (.tuple #[IV n nm wd f e lo m, .int .i64 0]) ∧ Below W.heap.size W w')
include c22 c15 c35 c25
theorem rmk_3 (hc : c = 3) (K P M R : Nat) (E : Int) (c19 : ∀ W, Calls Tryz.prog 61 #[.int .u64 2, .int .i64 ((f : Int) - 1)] W fun r w' => ∃ v, r = .returned v ∧ NV K M v w' ∧ Below W.heap.size W w')
  (c37 : ∀ W v, NV K M v W → Calls Tryz.prog 97 #[PV 3 s g l x, v] W fun r w' => r = .returned (A4 P) ∧ Below W.heap.size W w')
  (c36 : ∀ W, Calls Tryz.prog 96 #[.int .i64 n, DV 3 s g 0 P] W fun r w' => r = .returned (.tuple #[A4 R, .int .i64 E]) ∧ Below W.heap.size W w') :
  Calls Tryz.prog 41 #[.int .i64 n, .int .i64 d, PV c s g l x] w fun r w' => r = .returned (.tuple #[A4 R, .int .i64 0, .int .i64 0]) ∧ Below w.heap.size w w' := by
 subst hc
 have hsm := cell_set_map
 have c35' : ∀ W, Below w.heap.size w W → Calls Tryz.prog 95 #[.agg #[.int .i64 3, .bool s, .bool g, .string (B l), .int .i64 x]] W fun r w' => r = .returned (.bool true) ∧ Below W.heap.size W w' := c35
 show Calls Tryz.prog 41 #[.int .i64 n, .int .i64 d, .agg #[.int .i64 3, .bool s, .bool g, .string (B l), .int .i64 x]] w _
 go_enter Tryz.func41, Tryz.ntmps41
 go_upto_region 11 with (first
  | (go_at_call 14; refine (c22 _).mono ?_; rintro r w1 ⟨rfl, rfl⟩)
  | (go_at_call 15; refine (c15 _).mono ?_; rintro r w1 ⟨rfl, rfl⟩)
  | (go_at_call 95; refine (c35' _ bgo).mono ?_; rintro r w2 ⟨rfl, hb2⟩; obtain ⟨hc2, hf2, hz2_0, hl2_0, hA2, hs2⟩ := wz w hb2 w.heap.size; obtain ⟨hz2_1, hl2_1⟩ := zf hb2 (w.heap.size + 1); clear hb2)
  | (go_at_call 58; refine (c25 _).mono ?_; rintro r w3 ⟨rfl, hb3⟩; obtain ⟨hc3, hf3, hz3_0, hl3_0, hA3, hs3⟩ := wz w hb3 w.heap.size; obtain ⟨hz3_1, hl3_1⟩ := zf hb3 (w.heap.size + 1); clear hb3))
 refine reg11 (n := n) (x := x) (E := E) (s := s) (g := g) (l := l) (f := f) (P := P) (R := R) (K0 := K) (M := M) (g5 := w.heap.size) (g9 := w3.heap.size) rfl rfl rfl rfl (by simp; omega) (by simp) (by go_simp) (by go_simp) (by go_simp) (by go_simp) (by go_simp) (by go_simp) c19 c37 c36 ?_
 intro a w4 q e13 e6 hF hq hsz hdf hb4
 have hA4 : Below w.heap.size w w4 := bnext bgo hb4
 have e6' : slot a 6 = .pointer (some ⟨w.heap.size + 1, 0, none⟩) := e6
 obtain ⟨kc4, kf4⟩ := bcell hb4
 have hlt : w.heap.size + 1 < w3.heap.size + 1 := by omega
 have z0 : w4.cell? ⟨w.heap.size + 1, 0, none⟩ = some (.int .u64 0) := by rw [kc4 _ _ (by simp; omega)]; go_simp
 have z1 : w4.cell? ⟨w.heap.size + 1, 1, none⟩ = some (.int .u64 0) := by rw [kc4 _ _ (by simp; omega)]; go_simp
 have z2 : w4.cell? ⟨w.heap.size + 1, 2, none⟩ = some (.int .u64 0) := by rw [kc4 _ _ (by simp; omega)]; go_simp
 have z3 : w4.cell? ⟨w.heap.size + 1, 3, none⟩ = some (.int .u64 0) := by rw [kc4 _ _ (by simp; omega)]; go_simp
 have zf : ∀ i, w4.frozen? ⟨w.heap.size + 1, i, none⟩ = false := fun i => by rw [kf4 _ _ (by simp; omega)]; go_simp
 have p0 := hF.cell 0 (by decide)
 have p1 := hF.cell 1 (by decide)
 have p2 := hF.cell 2 (by decide)
 have p3 := hF.cell 3 (by decide)
 simp only [Nat.zero_add, Nat.add_zero] at p0 p1 p2 p3
 go_upto_region 12 with fail
 refine wp_region_lit ?_
 refine BigFrame.wpList_want rfl fun K hK => op_ld4 e13 p0 p1 p2 p3 (hK _ _ ?_)
 clear K hK
 have v67 : slot (a.put (some 67) (.agg #[.int .u64 (W4 R 0), .int .u64 (W4 R 1), .int .u64 (W4 R 2), .int .u64 (W4 R 3)])) 67 = .agg #[.int .u64 (W4 R 0), .int .u64 (W4 R 1), .int .u64 (W4 R 2), .int .u64 (W4 R 3)] := slot_put (by rw [hsz]; decide)
 have v6 : slot (a.put (some 67) (.agg #[.int .u64 (W4 R 0), .int .u64 (W4 R 1), .int .u64 (W4 R 2), .int .u64 (W4 R 3)])) 6 = .pointer (some ⟨w.heap.size + 1, 0, none⟩) := by rw [slot_put_ne (by decide)]; exact e6'
 have hs1 : (a.put (some 67) (.agg #[.int .u64 (W4 R 0), .int .u64 (W4 R 1), .int .u64 (W4 R 2), .int .u64 (W4 R 3)])).tmps.size = 97 := by simp [Act.put, hsz]
 have hd1 : (a.put (some 67) (.agg #[.int .u64 (W4 R 0), .int .u64 (W4 R 1), .int .u64 (W4 R 2), .int .u64 (W4 R 3)])).defers = [] := hdf
 generalize a.put (some 67) (.agg #[.int .u64 (W4 R 0), .int .u64 (W4 R 1), .int .u64 (W4 R 2), .int .u64 (W4 R 3)]) = a1 at *
 refine BigFrame.wpList_want rfl fun K hK => op_st v6 v67 z0 z1 z2 z3 zf (hK _ _ ?_)
 clear K hK
 refine BigFrame.wpList_want rfl fun K hK => op_asc (hK _ _ ?_)
 clear K hK
 refine BigFrame.wpList_want rfl fun K hK => op_asc (hK _ _ ?_)
 clear K hK
 have u8 : slot ((a1.put (some 7) (.int .i64 0)).put (some 8) (.int .i64 0)) 8 = .int .i64 0 := slot_put (by simp [Act.put, hs1])
 have u7 : slot ((a1.put (some 7) (.int .i64 0)).put (some 8) (.int .i64 0)) 7 = .int .i64 0 := by rw [slot_put_ne (by decide)]; exact slot_put (by rw [hs1]; decide)
 have u6 : slot ((a1.put (some 7) (.int .i64 0)).put (some 8) (.int .i64 0)) 6 = .pointer (some ⟨w.heap.size + 1, 0, none⟩) := by rw [slot_put_ne (by decide), slot_put_ne (by decide)]; exact v6
 have ud : ((a1.put (some 7) (.int .i64 0)).put (some 8) (.int .i64 0)).defers = [] := hd1
 generalize (a1.put (some 7) (.int .i64 0)).put (some 8) (.int .i64 0) = a2 at *
 go_wp2
 refine bodyPost_ret (v := .tuple #[A4 R, .int .i64 0, .int .i64 0]) ?_ ud ⟨rfl, bgo⟩
 unfold slot at u6 u7 u8
 simp only [results, Tryz.results41]
 go_simp
end
end
section
theorem A4_self (B : Nat) (w : World) : Sem.run Tryz.prog (Op.equalIn 10000 24 (A4 B) (A4 B)) w = .ok true w := by
 have := eq24 (W4 B 0) (W4 B 1) (W4 B 2) (W4 B 3) (W4 B 0) (W4 B 1) (W4 B 2) (W4 B 3) w
 rw [decide_eq_true ⟨rfl, rfl, rfl, rfl⟩] at this
 exact this
attribute [local irreducible] W4 Nt
end
theorem cut_dlen {l : List UInt8} {p : Prt} (h : cutP l = some p) : p.dig.length ≤ 8000 := by
 unfold cutP at h
 split at h
 ·cases h
 ·rename_i hl
  have hs := sgR_le l
  unfold bodP at h
  split at h
  ·cases h
   show (finD (sgR l)).length ≤ 8000
   unfold finD
   have h1 := bar_le (dgs (sgR l) ++ frac (sgR l))
   have h2 := dgs_le (sgR l)
   have h3 := frac_le (sgR l)
   rw [List.length_append] at h1
   omega
  ·split at h
   ·cases h
    exact Nat.zero_le _
   ·split at h
    ·cases h
     show (bar (paD (nanR (sml (sgR l))))).length ≤ 8000
     have h1 := bar_le (paD (nanR (sml (sgR l))))
     have h2 : (paD (nanR (sml (sgR l)))).length ≤ (nanR (sml (sgR l))).length := by
      unfold paD
      split
      ·exact Nat.le_trans (dgs_le _) (trimPre_le _ _)
      ·exact Nat.zero_le _
     have h3 : (nanR (sml (sgR l))).length ≤ (sml (sgR l)).length := by
      unfold nanR
      exact Nat.le_trans (trimPre_le _ _) (trimPre_le _ _)
     rw [sml_len] at h3
     omega
    ·cases h
theorem bin_true {n : Int} (hb : binN n) (W : World) : Calls Tryz.prog 14 #[.int .i64 n] W fun r w' => r = .returned (.bool true) ∧ W = w' := by
 have := rbinary_any n W
 rw [decide_eq_true hb] at this
 exact this.mono fun _ _ ⟨h1, h2⟩ => ⟨h1, h2.symm⟩
theorem dir_true {d : Int} (hk : knB d) (W : World) : Calls Tryz.prog 15 #[.int .i64 d] W fun r w' => r = .returned (.bool true) ∧ W = w' := by
 have := rdir_any d W
 rw [decide_eq_true hk] at this
 exact this
theorem pl_isD {f : Nat} {l m : Int} (s g : Bool) (A : Nat) (hf : 2 ≤ f) : isD f l m ⟨3, s, g, 0, plV f g A⟩ := by
 refine Or.inr (Or.inr ⟨rfl, rfl, ?_, ?_⟩)
 ·show plV f g A < 2 ^ (f - 1)
  have h : plA f A < 2 ^ (f - 1) := by
   unfold plA
   split
   ·exact Nat.two_pow_pos _
   ·rename_i h
    exact bl_le.1 (by omega)
  unfold plV
  split
  ·exact Nat.one_lt_two_pow (by omega)
  ·exact h
 ·show plV f g A ≠ 0 ∨ g = false
  cases g
  ·exact Or.inr rfl
  ·left
   unfold plV
   split
   ·decide
   ·rename_i h
    intro h2
    exact h ⟨rfl, h2⟩
theorem fN_ge {n : Int} (hb : binN n) : 2 ≤ fN n := by
 rcases bin_cases hb with rfl | rfl | rfl | rfl | rfl | rfl <;> decide
end Go.Proofs.YtplocajjfoiklaaGreatDoor
