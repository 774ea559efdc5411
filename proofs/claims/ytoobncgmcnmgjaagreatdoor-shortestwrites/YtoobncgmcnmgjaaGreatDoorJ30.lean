/-
  Texts that the proof leans on, joined: Sh9, Si9, Sj9, Dec, Dig.
-/
import Derived.Test.YtoobncgmcnmgjaaGreatDoorJ29
import Derived.Test.YtoobncgmcnmgjaaGreatDoorJ1
import Derived.Test.YtoobncgmcnmgjaaGreatDoorJ8
import Derived.Laws.BytesArg
set_option linter.unusedVariables false
set_option linter.unusedSectionVars false
set_option linter.unusedSimpArgs false
set_option maxRecDepth 20000
namespace Go.Proofs.YtoobncgmcnmgjaaGreatDoor
open Go.RowKit

theorem bl_mono {a b : Nat} (h : a ≤ b) : bl a ≤ bl b := bl_le.2 (Nat.lt_of_le_of_lt h (bl_le.1 (Nat.le_refl _)))
def nxLow (c : Bool) (R dn Z : Nat) : Bool := wiN c (R % Z) dn
def nxHigh (c : Bool) (R up Z : Nat) : Bool := wiN c (Z - R % Z) up
def nxSide (R Z : Nat) : Bool := decide (Z < 2 * (R % Z)) || (decide (2 * (R % Z) = Z) && decide (R / Z % 2 = 1))
def nxUp (c : Bool) (R dn up Z : Nat) : Bool := if nxLow c R dn Z && nxHigh c R up Z then nxSide R Z else nxHigh c R up Z
def nxLa (c : Bool) (R dn up Z : Nat) : Nat := if nxUp c R dn up Z then R / Z + 1 else R / Z
def nxSt (c : Bool) (R dn up Z : Nat) : Bool := nxLow c R dn Z || nxHigh c R up Z
theorem wi_high {c : Bool} {r up Z : Nat} (h : r < Z) : wiN c Z (r + up) = wiN c (Z - r) up := by
  unfold wiN
  have h1 : (Z < r + up) ↔ (Z - r < up) := by omega
  have h2 : (Z = r + up) ↔ (Z - r = up) := by omega
  simp only [h1, h2]
theorem fa_side {R Z : Nat} (hZ : 0 < Z) (o : Bool) (ho : o = decide (R / Z % 2 = 1)) : faB 0 false o (R % Z) Z = nxSide R Z := by
  subst ho
  unfold faB nxSide
  by_cases h : R % Z = 0
  · rw [if_pos h, h]
    have h1 : ¬ Z < 2 * 0 := by omega
    have h2 : ¬ 2 * 0 = Z := by omega
    simp [h1, h2]
  · rw [if_neg h, if_pos rfl, Nat.two_mul]
theorem odd_and {D : Nat} (hD : D ≤ 9) : (bits BinOp.and IntKind.u64 (D : Int) 1 == 1) = decide (D % 2 = 1) := by
  rw [show (1 : Int) = 2 ^ 1 - 1 by decide, and_mask (by omega) (by decide)]
  rcases Nat.mod_two_eq_zero_or_one D with e | e
  · rw [decide_eq_false (by omega), beq_eq_false_iff_ne]; omega
  · rw [decide_eq_true e, beq_iff_eq]; omega
/-- one digit is taken off -/
theorem next_v {g : Nat} {vn vb va vw : Value} {c : Bool} {w : World} {R dn up Z : Nat} (hR : Rch g vn vb va vw c w) (hn : NT 2001 R vn w) (hb : NT 2001 dn vb w) (ha : NT 2001 up va w) (hw : NT 2001 Z vw w) (hZ : 0 < Z) (hN : R < 10 * Z)
    (b1 : bl R ≤ 60000) (b2 : bl dn ≤ 60000) (b3 : bl up ≤ 60000) (b4 : bl Z ≤ 60000) :
    Calls Tryz.prog 64 #[.pointer (some ⟨g, 0, none⟩)] w fun r w' => ∃ v0 v1 v2, r = .returned (.tuple #[.int .u64 ((nxLa c R dn up Z : Nat) : Int), .bool (nxSt c R dn up Z)]) ∧ Rch g v0 v1 v2 vw c w' ∧ NT 2001 (R % Z * 10) v0 w' ∧ NT 2001 (dn * 10) v1 w' ∧ NT 2001 (up * 10) v2 w' ∧ Mut g w w' := by
  have hD : R / Z ≤ 9 := by have := (Nat.div_lt_iff_lt_mul hZ).2 hN; omega
  have hm := Nat.mod_lt R hZ
  have hbm : bl (R % Z) ≤ 60000 := Nat.le_trans (bl_mono (Nat.le_of_lt hm)) b4
  have c99 := split_v g vn vb va vw c w hR hn.nt hw.nt hZ hN (by omega) (by omega)
  have c101 : ∀ W v, Below w.heap.size w W → Nz 2001 (R % Z) v W → Calls Tryz.prog 102 #[v, va] W fun e w' => ∃ v, e = .returned v ∧ Nz 4003 (R % Z + up) v w' ∧ Below W.heap.size W w' := fun W v hW hv => nadd_v (by decide) (by decide) hv.nt (ha.next hW).nt
  have c97r : ∀ W v, Nz 2001 (R % Z) v W → Calls Tryz.prog 98 #[v, .int .u64 10] W fun e w' => ∃ v, e = .returned v ∧ NT 2001 (R % Z * 10) v w' ∧ Below W.heap.size W w' := fun W v hv => times_v 10 (by decide) hv.nt (by omega)
  have c97b : ∀ W, Mut g w W → Calls Tryz.prog 98 #[vb, .int .u64 10] W fun e w' => ∃ v, e = .returned v ∧ NT 2001 (dn * 10) v w' ∧ Below W.heap.size W w' := fun W hW => times_v 10 (by decide) (hb.mut hR hW).nt (by omega)
  have c97a : ∀ W, Mut g w W → Calls Tryz.prog 98 #[va, .int .u64 10] W fun e w' => ∃ v, e = .returned v ∧ NT 2001 (up * 10) v w' ∧ Below W.heap.size W w' := fun W hW => times_v 10 (by decide) (ha.mut hR hW).nt (by omega)
  have c100l : ∀ W v, Below w.heap.size w W → Nz 2001 (R % Z) v W → Calls Tryz.prog 101 #[.pointer (some ⟨g, 0, none⟩), v, vb] W fun e w' => e = .returned (.bool (nxLow c R dn Z)) ∧ Below W.heap.size W w' := fun W v hW hv => within_v g vn vb va vw c W (hR.next hW) (hv.nt.more (by decide)) ((hb.next hW).nt.more (by decide))
  have c100h : ∀ W v, Below w.heap.size w W → Nz 4003 (R % Z + up) v W → Calls Tryz.prog 101 #[.pointer (some ⟨g, 0, none⟩), vw, v] W fun e w' => ∃ u, e = .returned u ∧ u = .bool (nxHigh c R up Z) ∧ Below W.heap.size W w' := fun W v hW hv =>
    (within_v g vn vb va vw c W (hR.next hW) ((hw.next hW).nt.more (by decide)) (hv.nt.more (by decide))).mono fun e w' ⟨h1, h2⟩ => ⟨_, h1, by rw [wi_high hm]; rfl, h2⟩
  have c102 : ∀ W v, Below w.heap.size w W → Nz 2001 (R % Z) v W → Calls Tryz.prog 103 #[.int .i64 0, .bool false, .bool (decide (R / Z % 2 = 1)), v, vw] W fun e w' => e = .returned (.bool (nxSide R Z)) ∧ Below W.heap.size W w' := fun W v hW hv => by
    have := farther_v 0 false (decide (R / Z % 2 = 1)) (w := W) (by decide) (by decide) hv.nt (hw.next hW).nt
    rw [fa_side hZ _ rfl] at this
    exact this
  unfold nxLa nxUp nxSt
  generalize nxLow c R dn Z = low at *
  generalize nxHigh c R up Z = high at *
  generalize nxSide R Z = side at *
  cases low <;> cases high
  · exact next_ff g vn vb va vw c w hR (R / Z) (R % Z) (R % Z + up) _ _ _ hD c99 c101 c97r c97b c97a c100l c100h
  · exact next_ft g vn vb va vw c w hR (R / Z) (R % Z) (R % Z + up) _ _ _ hD c99 c101 c97r c97b c97a c100l c100h
  · exact next_tf g vn vb va vw c w hR (R / Z) (R % Z) (R % Z + up) _ _ _ hD c99 c101 c97r c97b c97a c100l c100h
  · cases side
    · exact next_tt0 g vn vb va vw c w hR (R / Z) (R % Z) (R % Z + up) _ _ _ hD c99 c101 c97r c97b c97a c100l c100h _ (odd_and hD) c102
    · exact next_tt1 g vn vb va vw c w hR (R / Z) (R % Z) (R % Z + up) _ _ _ hD c99 c101 c97r c97b c97a c100l c100h _ (odd_and hD) c102
attribute [local irreducible] W4 Nz Nt NT
section
variable {a : Act} {w : World} {K : Act → World → Prop} {Q : Exit → Act → World → Prop} {d p q : Nat} {ty : TypeId} {pos : String} {after : Array Edge} {gd : Option (Nat × Bool)}
theorem oq_B3_0 {v : Value} (h1 : slot a p = v) (hK : K (a.put (some d) v) w) : Oper.wp Tryz.prog { dst := some d, op := Op.move (Operand.tmp p), type := ty, pos := pos, after := after, guard := gd } a w K Q := by
  unfold slot at h1
  simp [go_sem, h1]
  exact hK
theorem oq_B3_1 {p0 : Nat} {u0 : Value} {ts : Array TypeId} (h0 : slot a p0 = u0) (hc : Calls Tryz.prog 98 #[u0, (Value.int IntKind.u64 4)] w fun e w' => ∃ v, e = .returned v ∧ K (a.put (some d) v) w') : Oper.wp Tryz.prog { dst := some d, op := Op.call { callee := Callee.value (Operand.func 98), args := #[Operand.tmp p0, Operand.const (Value.int IntKind.u64 4)], argTypes := ts }, type := ty, pos := pos, after := after, guard := gd } a w K Q := by
  unfold slot at h0
  simp [go_sem, h0]
  refine hc.mono ?_
  rintro e w' ⟨v, rfl, hK⟩
  exact hK
theorem oq_B3_2 {p0 : Nat} {u0 : Value} {ts : Array TypeId} (h0 : slot a p0 = u0) (hc : Calls Tryz.prog 98 #[u0, (Value.int IntKind.u64 2)] w fun e w' => ∃ v, e = .returned v ∧ K (a.put (some d) v) w') : Oper.wp Tryz.prog { dst := some d, op := Op.call { callee := Callee.value (Operand.func 98), args := #[Operand.tmp p0, Operand.const (Value.int IntKind.u64 2)], argTypes := ts }, type := ty, pos := pos, after := after, guard := gd } a w K Q := by
  unfold slot at h0
  simp [go_sem, h0]
  refine hc.mono ?_
  rintro e w' ⟨v, rfl, hK⟩
  exact hK
theorem oq_B3_3 {g : Nat} (h1 : slot a p = .pointer (some ⟨g, 0, none⟩)) (hK : K (a.put (some d) (.pointer (some ⟨g, 4, none⟩))) w) : Oper.wp Tryz.prog { dst := some d, op := Op.fieldAddr 35 (Operand.tmp p) 4, type := ty, pos := pos, after := after, guard := gd } a w K Q := by
  unfold slot at h1
  simp [go_sem, h1]
  exact hK
theorem oq_B3_4 {g i : Nat} {v : Value} (h1 : slot a p = .pointer (some ⟨g, i, none⟩)) (h2 : w.cell? ⟨g, i, none⟩ = some v) (hK : K (a.put (some d) v) w) : Oper.wp Tryz.prog { dst := some d, op := Op.load 22 (Operand.tmp p), type := ty, pos := pos, after := after, guard := gd } a w K Q := by
  unfold slot at h1
  simp [go_sem, h1, h2]
  exact hK
end
noncomputable def opsB3 : List Oper := match Tryz.f97.body with
  | some (.seq _ (.seq _ (.seq _ (.seq (.region _ o _) _)))) => o.toList
  | _ => []
def slotsB3 : List Nat := [27, 28, 29, 30, 31, 32, 33, 34, 35, 36, 37, 38, 39, 40]
def slotsAB3 : List Nat := [27, 28, 29, 30, 31, 32, 33, 34, 35, 36, 37, 38, 39, 40, 11]
section
variable {a : Act} {w : World} {K : Act → World → Prop} {Q : Exit → Act → World → Prop} {d p q p2 p3 p4 : Nat} {ty : TypeId} {pos : String} {after : Array Edge} {gd : Option (Nat × Bool)}
theorem oq_ia {g i : Nat} (h1 : slot a p = .pointer (some ⟨g, i, none⟩)) (hK : K (a.put (some d) (.pointer (some ⟨g, i, none⟩))) w) : Oper.wp Tryz.prog { dst := some d, op := Op.indexAddr 24 (Operand.tmp p) (Operand.const (Value.int IntKind.i64 0)), type := ty, pos := pos, after := after, guard := gd } a w K Q := by
  unfold slot at h1
  simp [go_sem, h1]
  exact hK
theorem oq_and {x : Int} (h1 : slot a p = .int .u64 x) (hK : K (a.put (some d) (.int .u64 (bits BinOp.and IntKind.u64 x 1))) w) : Oper.wp Tryz.prog { dst := some d, op := Op.binOp BinOp.and 22 (Operand.tmp p) (Operand.const (Value.int IntKind.u64 1)) 22, type := ty, pos := pos, after := after, guard := gd } a w K Q := by
  unfold slot at h1
  simp [go_sem, h1]
  exact hK
theorem oq_eq0 {x : Int} (h1 : slot a p = .int .u64 x) (hK : K (a.put (some d) (.bool (x == 0))) w) : Oper.wp Tryz.prog { dst := some d, op := Op.binOp BinOp.eql 22 (Operand.tmp p) (Operand.const (Value.int IntKind.u64 0)) 22, type := ty, pos := pos, after := after, guard := gd } a w K Q := by
  unfold slot at h1
  simp [go_sem, h1]
  exact hK
theorem oq_bd {v0 v1 v2 v3 : Value} {c : Bool} (h1 : slot a p = v0) (h2 : slot a q = v1) (h3 : slot a p2 = v2) (h4 : slot a p3 = v3) (h5 : slot a p4 = .bool c) (s0 : isSl v0) (s1 : isSl v1) (s2 : isSl v2) (s3 : isSl v3) (hK : K (a.put (some d) (.agg #[v0, v1, v2, v3, .bool c])) w) :
    Oper.wp Tryz.prog { dst := some d, op := Op.build 131 #[(0, Operand.tmp p), (1, Operand.tmp q), (2, Operand.tmp p2), (3, Operand.tmp p3), (4, Operand.tmp p4)], type := ty, pos := pos, after := after, guard := gd } a w K Q := by
  obtain ⟨a0, k0, c0, rfl⟩ := s0
  obtain ⟨a1, k1, c1, rfl⟩ := s1
  obtain ⟨a2, k2, c2, rfl⟩ := s2
  obtain ⟨a3, k3, c3, rfl⟩ := s3
  unfold slot at h1 h2 h3 h4 h5
  simp [go_sem, h1, h2, h3, h4, h5]
  exact hK
theorem oq_bx {v0 v1 v2 v3 : Value} {c : Bool} (h1 : slot a p = .agg #[v0, v1, v2, v3, .bool c]) (hK : K (a.put (some d) (.pointer (some ⟨w.heap.size, 0, none⟩))) (w.alloc (.cells #[v0, v1, v2, v3, .bool c] 131))) :
    Oper.wp Tryz.prog { dst := some d, op := Op.box 131 (Operand.tmp p), type := ty, pos := pos, after := after, guard := gd } a w K Q := by
  unfold slot at h1
  simp [go_sem, h1]
  exact hK
end
set_option maxHeartbeats 8000000 in
theorem regB3 {h4 k A B : Nat} {vc vq vd : Value} {c : Bool} {a0 : Act} {ws : World} {Q : Exit → Act → World → Prop} (hs : a0.tmps.size = 49) (g9 : slot a0 9 = vc) (g7 : slot a0 7 = vq) (g8 : slot a0 8 = vd) (g4 : slot a0 4 = .pointer (some ⟨h4, 0, none⟩)) (hlt : h4 < ws.heap.size) (k4 : ws.cell? ⟨h4, 4, none⟩ = some (.int .u64 (W4 k 0))) (hc : (bits BinOp.and IntKind.u64 (W4 k 0) 1 == 0) = c) (hd : isSl vd)
    (c97c : ∀ W, Below ws.heap.size ws W → Calls Tryz.prog 98 #[vc, .int .u64 4] W fun e w' => ∃ v, e = .returned v ∧ NT 2001 A v w' ∧ Below W.heap.size W w')
    (c97q : ∀ W, Below ws.heap.size ws W → Calls Tryz.prog 98 #[vq, .int .u64 2] W fun e w' => ∃ v, e = .returned v ∧ NT 2001 B v w' ∧ Below W.heap.size W w')
    (hQ : ∀ (a : Act) (w : World) (q : Nat) (v0 v1 v2 : Value), slot a 11 = .pointer (some ⟨q, 0, none⟩) → ws.heap.size ≤ q → Rch q v0 v1 v2 vd c w → NT 2001 A v0 w → NT 2001 B v1 w → NT 2001 B v2 w → a.tmps.size = 49 → a.defers = a0.defers → (∀ t, (∀ i, i < 15 → slotsAB3.getD i 0 ≠ t) → slot a t = slot a0 t) → Below ws.heap.size ws w → Q .normal a w) :
    (Code.region 3 opsB3.toArray true).wp Tryz.prog Q a0 ws := by
  refine wp_region_mem 14 49 slotsB3 [isW (vc), NT 2001 A, isW (vq), NT 2001 B, isW (vq), NT 2001 B, isW (vd), isW (.pointer (some ⟨h4, 4, none⟩)), isW (.pointer (some ⟨h4, 4, none⟩)), isW (.int .u64 (W4 k 0)), isW (.int .u64 (bits BinOp.and IntKind.u64 (W4 k 0) 1)), isW (.bool c), (fun v w => ∃ v0 v1 v2, v = .agg #[v0, v1, v2, vd, .bool c] ∧ NT 2001 A v0 w ∧ NT 2001 B v1 w ∧ NT 2001 B v2 w), (fun v w => ∃ q v0 v1 v2, v = .pointer (some ⟨q, 0, none⟩) ∧ ws.heap.size ≤ q ∧ Rch q v0 v1 v2 vd c w ∧ NT 2001 A v0 w ∧ NT 2001 B v1 w ∧ NT 2001 B v2 w)] (fun w w' => Below w.heap.size w w') (fun _ _ w => Below ws.heap.size ws w) (by kernel_rfl) (by kernel_rfl) (by kernel_rfl) hs ?_ (Below.refl _ _).drew ?_ ?_
  · intro p hp
    simp only [List.mem_cons, List.not_mem_nil, or_false] at hp
    rcases hp with rfl | rfl | rfl | rfl | rfl | rfl | rfl | rfl | rfl | rfl | rfl | rfl | rfl | rfl
    all_goals first | exact fun _ _ _ h _ => h | exact fun _ _ _ h hb => h.next hb | exact fun _ _ _ ⟨v0, v1, v2, e, z0, z1, z2⟩ hb => ⟨v0, v1, v2, e, z0.next hb, z1.next hb, z2.next hb⟩ | exact fun _ _ _ ⟨q, v0, v1, v2, e, hq, hr, z0, z1, z2⟩ hb => ⟨q, v0, v1, v2, e, hq, hr.next hb, z0.next hb, z1.next hb, z2.next hb⟩
  · intro L i o a w hi ho hL hcl he hM hF hv
    have f9 : slot a 9 = vc := (hF 9 (by decide)).trans g9
    have f7 : slot a 7 = vq := (hF 7 (by decide)).trans g7
    have f8 : slot a 8 = vd := (hF 8 (by decide)).trans g8
    have f4 : slot a 4 = .pointer (some ⟨h4, 0, none⟩) := (hF 4 (by decide)).trans g4
    have hor : i = 0 ∨ i = 1 ∨ i = 2 ∨ i = 3 ∨ i = 4 ∨ i = 5 ∨ i = 6 ∨ i = 7 ∨ i = 8 ∨ i = 9 ∨ i = 10 ∨ i = 11 ∨ i = 12 ∨ i = 13 := by omega
    rcases hor with rfl | rfl | rfl | rfl | rfl | rfl | rfl | rfl | rfl | rfl | rfl | rfl | rfl | rfl
    · obtain rfl := Option.some.inj (show opsB3[0]? = some o from ho)
      exact oq_B3_0 (f9 : slot a 9 = vc) ⟨_, rfl, rfl, Below.refl _ _, hM⟩
    · obtain rfl := Option.some.inj (show opsB3[1]? = some o from ho)
      refine oq_B3_1 (hv 0 (by decide) rfl (he ⟨0, .data⟩ (by simp) rfl) : slot a 27 = vc) ((c97c w hM).mono ?_)
      rintro e w' ⟨v, rfl, hSv, hb⟩
      exact ⟨v, rfl, _, rfl, hSv, hb, bnx hM hb⟩
    · obtain rfl := Option.some.inj (show opsB3[2]? = some o from ho)
      exact oq_B3_0 (f7 : slot a 7 = vq) ⟨_, rfl, rfl, Below.refl _ _, hM⟩
    · obtain rfl := Option.some.inj (show opsB3[3]? = some o from ho)
      refine oq_B3_2 (hv 2 (by decide) rfl (he ⟨2, .data⟩ (by simp) rfl) : slot a 29 = vq) ((c97q w hM).mono ?_)
      rintro e w' ⟨v, rfl, hSv, hb⟩
      exact ⟨v, rfl, _, rfl, hSv, hb, bnx hM hb⟩
    · obtain rfl := Option.some.inj (show opsB3[4]? = some o from ho)
      exact oq_B3_0 (f7 : slot a 7 = vq) ⟨_, rfl, rfl, Below.refl _ _, hM⟩
    · obtain rfl := Option.some.inj (show opsB3[5]? = some o from ho)
      refine oq_B3_2 (hv 4 (by decide) rfl (he ⟨4, .data⟩ (by simp) rfl) : slot a 31 = vq) ((c97q w hM).mono ?_)
      rintro e w' ⟨v, rfl, hSv, hb⟩
      exact ⟨v, rfl, _, rfl, hSv, hb, bnx hM hb⟩
    · obtain rfl := Option.some.inj (show opsB3[6]? = some o from ho)
      exact oq_B3_0 (f8 : slot a 8 = vd) ⟨_, rfl, rfl, Below.refl _ _, hM⟩
    · obtain rfl := Option.some.inj (show opsB3[7]? = some o from ho)
      exact oq_B3_3 (f4 : slot a 4 = .pointer (some ⟨h4, 0, none⟩)) ⟨_, rfl, rfl, Below.refl _ _, hM⟩
    · obtain rfl := Option.some.inj (show opsB3[8]? = some o from ho)
      exact oq_ia (hv 7 (by decide) rfl (he ⟨7, .data⟩ (by simp) rfl) : slot a 34 = .pointer (some ⟨h4, 4, none⟩)) ⟨_, rfl, rfl, Below.refl _ _, hM⟩
    · obtain rfl := Option.some.inj (show opsB3[9]? = some o from ho)
      exact oq_B3_4 (hv 8 (by decide) rfl (he ⟨8, .data⟩ (by simp) rfl) : slot a 35 = .pointer (some ⟨h4, 4, none⟩)) ((hM.cell (p := ⟨h4, 4, none⟩) hlt).trans k4) ⟨_, rfl, rfl, Below.refl _ _, hM⟩
    · obtain rfl := Option.some.inj (show opsB3[10]? = some o from ho)
      exact oq_and (hv 9 (by decide) rfl (he ⟨9, .data⟩ (by simp) rfl) : slot a 36 = .int .u64 (W4 k 0)) ⟨_, rfl, rfl, Below.refl _ _, hM⟩
    · obtain rfl := Option.some.inj (show opsB3[11]? = some o from ho)
      exact oq_eq0 (hv 10 (by decide) rfl (he ⟨10, .data⟩ (by simp) rfl) : slot a 37 = .int .u64 (bits BinOp.and IntKind.u64 (W4 k 0) 1)) ⟨_, rfl, congrArg Value.bool hc, Below.refl _ _, hM⟩
    · obtain rfl := Option.some.inj (show opsB3[12]? = some o from ho)
      have z0 : NT 2001 A (slot a 28) w := (hv 1 (by decide) rfl (he ⟨1, .data⟩ (by simp) rfl))
      have z1 : NT 2001 B (slot a 30) w := (hv 3 (by decide) rfl (he ⟨3, .data⟩ (by simp) rfl))
      have z2 : NT 2001 B (slot a 32) w := (hv 5 (by decide) rfl (he ⟨5, .data⟩ (by simp) rfl))
      exact oq_bd rfl rfl rfl (hv 6 (by decide) rfl (he ⟨6, .data⟩ (by simp) rfl) : slot a 33 = vd) (hv 11 (by decide) rfl (he ⟨11, .data⟩ (by simp) rfl) : slot a 38 = .bool c) z0.nt.sl z1.nt.sl z2.nt.sl hd ⟨_, rfl, ⟨_, _, _, rfl, z0, z1, z2⟩, Below.refl _ _, hM⟩
    · obtain rfl := Option.some.inj (show opsB3[13]? = some o from ho)
      obtain ⟨v0, v1, v2, e39, z0, z1, z2⟩ : ∃ v0 v1 v2, slot a 39 = .agg #[v0, v1, v2, vd, .bool c] ∧ NT 2001 A v0 w ∧ NT 2001 B v1 w ∧ NT 2001 B v2 w := (hv 12 (by decide) rfl (he ⟨12, .data⟩ (by simp) rfl))
      have hb := below1 w (.cells #[v0, v1, v2, vd, .bool c] 131)
      exact oq_bx e39 ⟨_, rfl, ⟨_, v0, v1, v2, rfl, hM.size, ⟨by show (w.heap.push _)[w.heap.size]? = _; simp, z0.nt.sl, z1.nt.sl, z2.nt.sl, hd⟩, z0.next hb, z1.next hb, z2.next hb⟩, hb, bnx hM hb⟩
  · intro L a w hL hM hsz hdf hF hv
    obtain ⟨q, v0, v1, v2, e40, hq, hr, z0, z1, z2⟩ : ∃ q v0 v1 v2, slot a 40 = .pointer (some ⟨q, 0, none⟩) ∧ ws.heap.size ≤ q ∧ Rch q v0 v1 v2 vd c w ∧ NT 2001 A v0 w ∧ NT 2001 B v1 w ∧ NT 2001 B v2 w := hv 13 (by decide) rfl
    refine BigFrame.wpList_want rfl fun K hK => oq_a_as e40 (hK _ _ ?_)
    clear K hK
    refine hQ _ _ q v0 v1 v2 (slot_put (by omega)) hq hr z0 z1 z2 (by simp [Act.put, hsz]) hdf (fun t ht => ?_) hM
    rw [slot_put_ne (by have := ht 14 (by decide); exact this)]
    refine hF t fun i hi => ?_
    have := ht i (by omega)
    have hor : i = 0 ∨ i = 1 ∨ i = 2 ∨ i = 3 ∨ i = 4 ∨ i = 5 ∨ i = 6 ∨ i = 7 ∨ i = 8 ∨ i = 9 ∨ i = 10 ∨ i = 11 ∨ i = 12 ∨ i = 13 := by omega
    rcases hor with rfl | rfl | rfl | rfl | rfl | rfl | rfl | rfl | rfl | rfl | rfl | rfl | rfl | rfl <;> exact this
end Go.Proofs.YtoobncgmcnmgjaaGreatDoor

namespace Go.Proofs.YtoobncgmcnmgjaaGreatDoor
open Go.RowKit

attribute [local irreducible] W4 Nz Nt NT
section
variable (n c : Int) (s g : Bool) (x : Int) (k : Nat) (p : Int) (cl : Bool) (q Wn : Nat) (w : World) (hT : Tab w) (hk : k < 2 ^ 256) (hx : -100000 ≤ x ∧ x ≤ 100000) (hq : bl q ≤ 60000)
  (hcl : (bits BinOp.and IntKind.u64 (W4 k 0) 1 == 0) = cl)
  (c122 : ∀ W, Calls Tryz.prog 123 #[.int .i64 (x - 2), .int .i64 p] W fun r w' => ∃ a b, r = .returned (.tuple #[a, b]) ∧ NT 2001 q a w' ∧ NT 2001 Wn b w' ∧ Below W.heap.size W w')
  (c114 : ∀ W v, Nt 4 k (.slice (some ⟨w.heap.size, 4, none⟩) 4 4) W → NT 2001 q v W → Calls Tryz.prog 115 #[.slice (some ⟨w.heap.size, 4, none⟩) 4 4, v] W fun r w' => ∃ u, r = .returned (.tuple #[u, .int .i64 0]) ∧ NT 2001 (k * q) u w' ∧ Below W.heap.size W w')
include hT hk hx hq hcl c122 c114
set_option maxHeartbeats 4000000 in
theorem bounds_f (c123 : ∀ W, Tab W → Calls Tryz.prog 124 #[.int .i64 n, DV c s g x k] W fun r w' => r = .returned (.bool false) ∧ Below W.heap.size W w') :
    Calls Tryz.prog 97 #[.int .i64 n, DV c s g x k, .int .i64 p] w fun r w' => ∃ gq v0 v1 v2 v3, r = .returned (.pointer (some ⟨gq, 0, none⟩)) ∧ w.heap.size ≤ gq ∧ Rch gq v0 v1 v2 v3 cl w' ∧ NT 2001 (k * q * 4) v0 w' ∧ NT 2001 (q * 2) v1 w' ∧ NT 2001 (q * 2) v2 w' ∧ NT 2001 Wn v3 w' ∧ Below w.heap.size w w' := by
  have hbk : bl (k * q) ≤ 61000 := by have := bl_mul k q; have : bl k ≤ 256 := bl_le.2 hk; omega
  have hsm := cell_set_map
  unfold DV at *
  go_enter Tryz.func97, Tryz.ntmps97
  go_wp2_with (first
    | (go_at_call 123; refine (c122 _).mono ?_; rintro r w1 ⟨v1, v2, rfl, hv1, hv2, hb1⟩; obtain ⟨hc1, hf1⟩ := bcell hb1; have hz1_0 : w.heap.size < w1.heap.size := lt_below hb1 ltg; have hl1_0 := Nat.le_of_lt hz1_0; have hA1 := bnext (w0 := w) bgo hb1; have hs1 := hA1.size; clear hb1)
    | (go_at_call 115; refine (c114 _ _ (nt_at hk (by assumption) (by go_simp) (by go_simp) (by go_simp) (by go_simp)) hv1).mono ?_; rintro r w2 ⟨v3, rfl, hv3, hb2⟩; replace hv1 := hv1.next hb2; replace hv2 := hv2.next hb2; obtain ⟨hc2, hf2⟩ := bcell hb2; have hz2_0 : w.heap.size < w2.heap.size := lt_below hb2 ltg; have hl2_0 := Nat.le_of_lt hz2_0; have hA2 := bnext (w0 := w) bgo hb2; have hs2 := hA2.size; clear hb2))
  refine regB3 (h4 := w.heap.size) (k := k) (A := k * q * 4) (B := q * 2) rfl rfl rfl rfl rfl hz2_0 (by go_simp) hcl hv2.nt.sl (fun W hW => times_v 4 (by decide) (hv3.next hW).nt (by omega)) (fun W hW => times_v 2 (by decide) (hv1.next hW).nt (by omega)) ?_
  intro a w3 gq x0 x1 x2 h11 hgq hr z0 z1 z2 hsz hdf hF hb3
  have ha := act_of slotsAB3 15 rfl hsz hdf hF
  rw [ha]
  simp only [slotsAB3, List.foldl_cons, List.foldl_nil, Act.put, List.setIfInBounds_toArray, List.set_cons_succ, List.set_cons_zero, h11]
  generalize slot a 27 = s27
  generalize slot a 28 = s28
  generalize slot a 29 = s29
  generalize slot a 30 = s30
  generalize slot a 31 = s31
  generalize slot a 32 = s32
  generalize slot a 33 = s33
  generalize slot a 34 = s34
  generalize slot a 35 = s35
  generalize slot a 36 = s36
  generalize slot a 37 = s37
  generalize slot a 38 = s38
  generalize slot a 39 = s39
  generalize slot a 40 = s40
  clear ha h11 hsz hdf hF
  replace hv1 := hv1.next hb3
  replace hv2 := hv2.next hb3
  obtain ⟨hc3, hf3⟩ := bcell hb3; have hz3_0 : w.heap.size < w3.heap.size := lt_below hb3 ltg; have hl3_0 := Nat.le_of_lt hz3_0; have hA3 := bnext (w0 := w) bgo hb3; have hs3 := hA3.size; clear hb3
  go_wp2_with (go_at_call 124; refine (c123 _ (hT.go bgo)).mono ?_; rintro r w4 ⟨rfl, hb4⟩)
  go_ret
  exact ⟨gq, _, _, _, _, rfl, Nat.le_trans hA2.size hgq, hr.next hb4, z0.next hb4, z1.next hb4, z2.next hb4, hv2.next hb4, bnx hA3 hb4⟩
set_option maxHeartbeats 4000000 in
theorem bounds_t (c123 : ∀ W, Tab W → Calls Tryz.prog 124 #[.int .i64 n, DV c s g x k] W fun r w' => r = .returned (.bool true) ∧ Below W.heap.size W w') :
    Calls Tryz.prog 97 #[.int .i64 n, DV c s g x k, .int .i64 p] w fun r w' => ∃ gq v0 v1 v2 v3, r = .returned (.pointer (some ⟨gq, 0, none⟩)) ∧ w.heap.size ≤ gq ∧ Rch gq v0 v1 v2 v3 cl w' ∧ NT 2001 (k * q * 4) v0 w' ∧ NT 2001 (q) v1 w' ∧ NT 2001 (q * 2) v2 w' ∧ NT 2001 Wn v3 w' ∧ Below w.heap.size w w' := by
  have hbk : bl (k * q) ≤ 61000 := by have := bl_mul k q; have : bl k ≤ 256 := bl_le.2 hk; omega
  have hsm := cell_set_map
  unfold DV at *
  go_enter Tryz.func97, Tryz.ntmps97
  go_wp2_with (first
    | (go_at_call 123; refine (c122 _).mono ?_; rintro r w1 ⟨v1, v2, rfl, hv1, hv2, hb1⟩; obtain ⟨hc1, hf1⟩ := bcell hb1; have hz1_0 : w.heap.size < w1.heap.size := lt_below hb1 ltg; have hl1_0 := Nat.le_of_lt hz1_0; have hA1 := bnext (w0 := w) bgo hb1; have hs1 := hA1.size; clear hb1)
    | (go_at_call 115; refine (c114 _ _ (nt_at hk (by assumption) (by go_simp) (by go_simp) (by go_simp) (by go_simp)) hv1).mono ?_; rintro r w2 ⟨v3, rfl, hv3, hb2⟩; replace hv1 := hv1.next hb2; replace hv2 := hv2.next hb2; obtain ⟨hc2, hf2⟩ := bcell hb2; have hz2_0 : w.heap.size < w2.heap.size := lt_below hb2 ltg; have hl2_0 := Nat.le_of_lt hz2_0; have hA2 := bnext (w0 := w) bgo hb2; have hs2 := hA2.size; clear hb2))
  refine regB3 (h4 := w.heap.size) (k := k) (A := k * q * 4) (B := q * 2) rfl rfl rfl rfl rfl hz2_0 (by go_simp) hcl hv2.nt.sl (fun W hW => times_v 4 (by decide) (hv3.next hW).nt (by omega)) (fun W hW => times_v 2 (by decide) (hv1.next hW).nt (by omega)) ?_
  intro a w3 gq x0 x1 x2 h11 hgq hr z0 z1 z2 hsz hdf hF hb3
  have ha := act_of slotsAB3 15 rfl hsz hdf hF
  rw [ha]
  simp only [slotsAB3, List.foldl_cons, List.foldl_nil, Act.put, List.setIfInBounds_toArray, List.set_cons_succ, List.set_cons_zero, h11]
  generalize slot a 27 = s27
  generalize slot a 28 = s28
  generalize slot a 29 = s29
  generalize slot a 30 = s30
  generalize slot a 31 = s31
  generalize slot a 32 = s32
  generalize slot a 33 = s33
  generalize slot a 34 = s34
  generalize slot a 35 = s35
  generalize slot a 36 = s36
  generalize slot a 37 = s37
  generalize slot a 38 = s38
  generalize slot a 39 = s39
  generalize slot a 40 = s40
  clear ha h11 hsz hdf hF
  replace hv1 := hv1.next hb3
  replace hv2 := hv2.next hb3
  obtain ⟨hc3, hf3⟩ := bcell hb3; have hz3_0 : w.heap.size < w3.heap.size := lt_below hb3 ltg; have hl3_0 := Nat.le_of_lt hz3_0; have hA3 := bnext (w0 := w) bgo hb3; have hs3 := hA3.size; clear hb3
  have hv1s := hv1.nt.sl
  obtain ⟨ao, ko, co, rfl⟩ := hv1s
  go_wp2_with (go_at_call 124; refine (c123 _ (hT.go bgo)).mono ?_; rintro r w4 ⟨rfl, hb4⟩; have hr4 := hr.next hb4; obtain ⟨j0, j1, j2, j3, j4⟩ := hr4.cells; have hfz := hr4.froz 1; have hlt4 := hr4.lt)
  go_ret
  have hm4 : Mut gq w4 (w4.setCell ⟨gq, 1, none⟩ (.slice ao ko co)) := (Mut.refl _ _).set _ _
  exact ⟨gq, _, _, _, _, rfl, Nat.le_trans hA2.size hgq, (hr4.set _ ⟨_, _, _, rfl⟩).2.1, (z0.next hb4).mut hr4 hm4, (hv1.next hb4).mut hr4 hm4, (z2.next hb4).mut hr4 hm4, (hv2.next hb4).mut hr4 hm4, hm4.out (bnx hA3 hb4) (Nat.le_trans hA2.size hgq) (Nat.le_refl _)⟩
end
end Go.Proofs.YtoobncgmcnmgjaaGreatDoor

namespace Go.Proofs.YtoobncgmcnmgjaaGreatDoor
open Go.RowKit

theorem tn_ex {k : Nat} {x : Int} : ∀ (d : Nat) (g0 : Int), tnP k x g0 → ¬ tnP k x (g0 + d) → ∃ E, g0 ≤ E ∧ E < g0 + d ∧ tnP k x E ∧ ¬ tnP k x (E + 1)
  | 0, g0, h0, h1 => absurd h0 (by simpa using h1)
  | d + 1, g0, h0, h1 => by
    by_cases h : tnP k x (g0 + 1)
    · obtain ⟨E, e1, e2, e3, e4⟩ := tn_ex d (g0 + 1) h (by rw [show g0 + 1 + (d : Int) = g0 + ((d + 1 : Nat) : Int) by omega]; exact h1)
      exact ⟨E, by omega, by omega, e3, e4⟩
    · exact ⟨g0, Int.le_refl _, by omega, h0, h⟩
theorem tn_top {k : Nat} {x : Int} (hk : k < 2 ^ 256) (hx : x ≤ 17000) : ¬ tnP k x 6000 := by
  unfold tnP zE oE
  rw [show ((-6000 : Int)).toNat = 0 by decide, Nat.pow_zero, Nat.mul_one, show ((6000 : Int)).toNat = 6000 by decide]
  have h1 : (2 : Nat) ^ 18000 ≤ 10 ^ 6000 := by decide +kernel
  obtain ⟨m', hm'⟩ : ∃ m' : Nat, m' = 18000 := ⟨_, rfl⟩
  rw [← hm'] at h1
  generalize (10 : Nat) ^ 6000 = T at *
  obtain ⟨m, hm⟩ : ∃ m : Nat, m = 17000 := ⟨_, rfl⟩
  have h2 : k * 2 ^ x.toNat < 2 ^ 256 * 2 ^ m := by
    have a1 : k * 2 ^ x.toNat < 2 ^ 256 * 2 ^ x.toNat := Nat.mul_lt_mul_of_pos_right hk (Nat.two_pow_pos _)
    have a2 : 2 ^ 256 * 2 ^ x.toNat ≤ 2 ^ 256 * 2 ^ m := Nat.mul_le_mul_left _ (Nat.pow_le_pow_right (by decide) (by omega))
    exact Nat.lt_of_lt_of_le a1 a2
  rw [← Nat.pow_add] at h2
  have h3 : (2 : Nat) ^ (256 + m) ≤ 2 ^ m' := Nat.pow_le_pow_right (by decide) (by omega)
  have h4 : 1 * T ≤ 2 ^ (-x).toNat * T := Nat.mul_le_mul_right _ (Nat.two_pow_pos _)
  generalize (2 : Nat) ^ (256 + m) = Y at *
  generalize (2 : Nat) ^ m' = Y' at *
  rw [Nat.mul_assoc 4, Nat.mul_assoc 4]
  generalize 2 ^ (-x).toNat * T = Z1 at *
  generalize k * 2 ^ x.toNat = Z2 at *
  omega
/-- a quarter of the coefficient's unit, and the power of ten -/
def qrQ (x p : Int) : Nat := 5 ^ (-p).toNat * 2 ^ (x - 2 - p).toNat
def qrW (x p : Int) : Nat := 5 ^ p.toNat * 2 ^ (-(x - 2 - p)).toNat
theorem qr_pos (x p : Int) : 0 < qrQ x p ∧ 0 < qrW x p := ⟨Nat.mul_pos (Nat.pow_pos (by decide)) (Nat.two_pow_pos _), Nat.mul_pos (Nat.pow_pos (by decide)) (Nat.two_pow_pos _)⟩
theorem qr_eq (x p : Int) : qrQ x p * zE x p = qrW x p * oE x p := frac_eq x p
theorem two_bl (m : Nat) : bl (2 ^ m) = m + 1 := bl_eq (by rw [Nat.add_sub_cancel]; exact Nat.le_refl _) (Nat.pow_lt_pow_right (by decide) (by omega))
theorem qr_bl {x p : Int} (hx : -17000 ≤ x ∧ x ≤ 17000) (hp : -6000 ≤ p ∧ p ≤ 6000) : bl (qrQ x p) ≤ 42000 ∧ bl (qrW x p) ≤ 42000 := by
  unfold qrQ qrW
  have a1 := bl_mul (5 ^ (-p).toNat) (2 ^ (x - 2 - p).toNat)
  have a2 := bl_mul (5 ^ p.toNat) (2 ^ (-(x - 2 - p)).toNat)
  have b1 := five_bl (-p).toNat
  have b2 := five_bl p.toNat
  have c1 := two_bl (x - 2 - p).toNat
  have c2 := two_bl (-(x - 2 - p)).toNat
  omega
theorem even_and {k : Nat} (hk : k < 2 ^ 256) : (bits BinOp.and IntKind.u64 (W4 k 0) 1 == 0) = decide (k % 2 = 0) := by
  have hw := W4_words k 0
  rw [show (1 : Int) = 2 ^ 1 - 1 by decide, and_mask hw (by decide)]
  have e : W4 k 0 % 2 ^ 1 = ((k % 2 : Nat) : Int) := by
    unfold W4
    rw [Nat.mul_zero, Nat.pow_zero, Nat.div_one]
    omega
  rw [e]
  rcases Nat.mod_two_eq_zero_or_one k with h | h
  · rw [h]; rfl
  · rw [h]; rfl
theorem bounds_v (n c : Int) (s g : Bool) (x : Int) (k : Nat) (p : Int) (w : World) (hT : Tab w) (hb : binN n) (hk : k < 2 ^ 256) (hx : -16990 ≤ x ∧ x ≤ 16990) (hp : -6000 ≤ p ∧ p ≤ 6000) :
    Calls Tryz.prog 97 #[.int .i64 n, DV c s g x k, .int .i64 p] w fun r w' => ∃ gq v0 v1 v2 v3, r = .returned (.pointer (some ⟨gq, 0, none⟩)) ∧ w.heap.size ≤ gq ∧ Rch gq v0 v1 v2 v3 (decide (k % 2 = 0)) w' ∧ NT 2001 (k * qrQ x p * 4) v0 w' ∧ NT 2001 (if nbB n x k then qrQ x p else qrQ x p * 2) v1 w' ∧ NT 2001 (qrQ x p * 2) v2 w' ∧ NT 2001 (qrW x p) v3 w' ∧ Below w.heap.size w w' := by
  have hq := qr_bl (x := x) (p := p) (by omega) hp
  have hbk : bl k ≤ 256 := bl_le.2 hk
  have c122 := fun W => fraction_v (x - 2) p W (by omega) hp
  have c123 := fun W (hT : Tab W) => near_v n c s g x k W hT hb hk
  have c114 : ∀ W v, Nt 4 k (.slice (some ⟨w.heap.size, 4, none⟩) 4 4) W → NT 2001 (qrQ x p) v W → Calls Tryz.prog 115 #[.slice (some ⟨w.heap.size, 4, none⟩) 4 4, v] W fun r w' => ∃ u, r = .returned (.tuple #[u, .int .i64 0]) ∧ NT 2001 (k * qrQ x p) u w' ∧ Below W.heap.size W w' := fun W v h1 h2 => nmul_w (by decide) (by decide) h1 h2.nt (by omega)
  cases hnb : nbB n x k
  · rw [hnb] at c123
    exact bounds_f n c s g x k p _ (qrQ x p) (qrW x p) w hT hk (by omega) (by omega) (even_and hk) c122 c114 c123
  · rw [hnb] at c123
    exact bounds_t n c s g x k p _ (qrQ x p) (qrW x p) w hT hk (by omega) (by omega) (even_and hk) c122 c114 c123
attribute [local irreducible] W4 Nz Nt NT
set_option maxHeartbeats 4000000 in
theorem scaled_w (n c : Int) (s g : Bool) (x : Int) (k : Nat) (p E : Int) (cl : Bool) (N dn up q W0 : Nat) (w : World) (hT : Tab w) (hq : 0 < q) (eN : N = 4 * k * q) (hN : bl N ≤ 60000)
    (hpE : p ≤ E ∧ E ≤ 6000 ∧ -6000 ≤ p) (hE : ¬ tnP k x (E + 1)) (hp0 : tnP k x p) (h0 : q * zE x p = W0 * oE x p)
    (c95 : ∀ W, Calls Tryz.prog 96 #[DV c s g x k] W fun r w' => r = .returned (.int .i64 p) ∧ Below W.heap.size W w')
    (c96 : ∀ W, Tab W → Calls Tryz.prog 97 #[.int .i64 n, DV c s g x k, .int .i64 p] W fun r w' => ∃ gq v0 v1 v2 v3, r = .returned (.pointer (some ⟨gq, 0, none⟩)) ∧ W.heap.size ≤ gq ∧ Rch gq v0 v1 v2 v3 cl w' ∧ NT 2001 N v0 w' ∧ NT 2001 dn v1 w' ∧ NT 2001 up v2 w' ∧ NT 2001 W0 v3 w' ∧ Below W.heap.size W w') :
    Calls Tryz.prog 63 #[.int .i64 n, DV c s g x k] w fun r w' => ∃ (gq : Nat) (v0 v1 v2 v3 : Value) (e : Int) (Z : Nat), r = .returned (.tuple #[.pointer (some ⟨gq, 0, none⟩), .int .i64 e]) ∧ w.heap.size ≤ gq ∧ Rch gq v0 v1 v2 v3 cl w' ∧ NT 2001 N v0 w' ∧ NT 2001 dn v1 w' ∧ NT 2001 up v2 w' ∧ NT 2001 Z v3 w' ∧ Below w.heap.size w w' ∧ q * zE x e = Z * oE x e ∧ tnP k x e ∧ ¬ tnP k x (e + 1) ∧ -6000 ≤ e ∧ e ≤ 6000 := by
  have hsm := cell_set_map
  have HE : Hid (¬ tnP k x (E + 1)) := hE
  have HP : Hid (tnP k x p) := hp0
  have H0 : Hid (q * zE x p = W0 * oE x p) := h0
  have HN : Hid (N = 4 * k * q) := eN
  clear hE hp0 h0 eN
  unfold DV at *
  go_enter Tryz.func63, Tryz.ntmps63
  go_wp2_with (first
    | (go_at_call 96; refine (c95 _).mono ?_; rintro r w1 ⟨rfl, hb1⟩; obtain ⟨hc1, hf1⟩ := bcell hb1; have hz1_0 : w.heap.size < w1.heap.size := lt_below hb1 ltg; have hl1_0 := Nat.le_of_lt hz1_0; have hA1 := bnext (w0 := w) bgo hb1; have hs1 := hA1.size; clear hb1)
    | (go_at_call 97; refine (c96 _ (hT.go bgo)).mono ?_; rintro r w2 ⟨gq, v0, v1, v2, v3, rfl, hgq, hr, z0, z1, z2, z3, hb2⟩; obtain ⟨hc2, hf2⟩ := bcell hb2; have hz2_0 : w.heap.size < w2.heap.size := lt_below hb2 ltg; have hl2_0 := Nat.le_of_lt hz2_0; have hA2 := bnext (w0 := w) bgo hb2; have hs2 := hA2.size; clear hb2))
  have hgw : w.heap.size ≤ gq := Nat.le_trans hA1.size hgq
  clear hc1 hf1 hc2 hf2 hsm c95 c96 hgq hs1 hs2
  rename World => wB
  go_loopw [6] (fun t6 wr => ∃ (e : Int) (W : Nat) (vw : Value), t6 = .int .i64 e ∧ p ≤ e ∧ e ≤ E ∧ Rch gq v0 v1 v2 vw cl wr ∧ NT 2001 N v0 wr ∧ NT 2001 dn v1 wr ∧ NT 2001 up v2 wr ∧ NT 2001 W vw wr ∧ Hid (q * zE x e = W * oE x e) ∧ Hid (tnP k x e) ∧ Below w.heap.size w wr) (fun t6 _ => (E - intOf t6).toNat)
  case atStart => exact ⟨p, W0, v3, rfl, by omega, by omega, hr, z0, z1, z2, z3, H0, HP, hA2⟩
  case round =>
    obtain ⟨e, W, vw, rfl, hpe, heE, hRw, y0, y1, y2, y3, he1, he2, hB⟩ := hrel
    have hWN : W ≤ N := by
      have := (frac_tn (c := k) hq he1.out 1).2 (by rw [Nat.one_mul]; exact he2.out)
      rw [Nat.one_mul] at this
      rw [HN.out]; exact this
    have hbW : bl W ≤ 60000 := Nat.le_trans (bl_mono hWN) hN
    have hlt := hRw.lt
    obtain ⟨k0, k1, k2, k3, k4⟩ := hRw.cells
    have c97 := times_v 10 (by decide) y3.nt (by omega : bl W ≤ 126000)
    have hten : (10 : Nat) * W ≤ 4 * k * q ↔ tnP k x (e + 1) := (frac_tn (c := k) hq he1.out 10).trans tn_next.symm
    by_cases h : N < W * 10
    · have HF : Hid (¬ tnP k x (e + 1)) := fun h' => by
        have := hten.2 h'
        have e2 := HN.out
        show False
        omega
      have c98 : ∀ W' vm, NT 2001 N v0 W' → NT 2001 (W * 10) vm W' → Calls Tryz.prog 99 #[v0, vm] W' fun r w' => r = .returned (.int .i64 (-1)) ∧ Below W'.heap.size W' w' := fun W' vm h1 h2 => by
        have := ncmp_v (w := W') (by decide) (by decide) h1.nt h2.nt
        rcases sgn_ways (N : Int) ((W * 10 : Nat) : Int) with ⟨a, e⟩ | ⟨a, e⟩ | ⟨a, e⟩
        · rw [e] at this; exact this
        · omega
        · omega
      clear hten
      go_wp2_with (first
        | (go_at_call 98; refine c97.mono ?_; rintro r w3 ⟨vm, rfl, hvm, hb3⟩; have hr3 := hRw.next hb3; obtain ⟨j0, j1, j2, j3, j4⟩ := hr3.cells; have hlt3 := hr3.lt)
        | (go_at_call 99; refine (c98 _ _ (y0.next hb3) hvm).mono ?_; rintro r w4 ⟨rfl, hb4⟩))
      exact bodyPost_ret (v := .tuple #[.pointer (some ⟨gq, 0, none⟩), .int .i64 e]) (by simp only [results, Tryz.results63]; go_simp) rfl ⟨gq, v0, v1, v2, vw, e, W, rfl, hgw, hr3.next hb4, (y0.next hb3).next hb4, (y1.next hb3).next hb4, (y2.next hb3).next hb4, (y3.next hb3).next hb4, bnx (bnx hB hb3) hb4, he1.out, he2.out, HF.out, by omega, by omega⟩
    · have HF : Hid (tnP k x (e + 1)) := hten.1 (by have := HN.out; omega)
      have heE' : e < E := by
        rcases Int.lt_or_le e E with h' | h'
        · exact h'
        · have : e = E := by omega
          subst this
          exact absurd HF.out HE.out
      have c98 : ∀ W' vm, NT 2001 N v0 W' → NT 2001 (W * 10) vm W' → Calls Tryz.prog 99 #[v0, vm] W' fun r w' => ∃ sv : Int, r = .returned (.int .i64 sv) ∧ ¬ sv < 0 ∧ Below W'.heap.size W' w' := fun W' vm h1 h2 => by
        refine (ncmp_v (w := W') (by decide) (by decide) h1.nt h2.nt).mono fun r w' ⟨e1, e2⟩ => ⟨_, e1, ?_, e2⟩
        rcases sgn_ways (N : Int) ((W * 10 : Nat) : Int) with ⟨a, e⟩ | ⟨a, e⟩ | ⟨a, e⟩
        · omega
        · omega
        · omega
      clear hten
      go_wp2_with (first
        | (go_at_call 98; refine c97.mono ?_; rintro r w3 ⟨vm, rfl, hvm, hb3⟩; have hr3 := hRw.next hb3; obtain ⟨i0, i1, i2, i3, i4⟩ := hr3.cells; have hlt3 := hr3.lt; obtain ⟨am, km, cm, rfl⟩ := hvm.nt.sl)
        | (go_at_call 99; refine (c98 _ _ (y0.next hb3) hvm).mono ?_; rintro r w4 ⟨sv, rfl, hsv, hb4⟩; have hr4 := hr3.next hb4; obtain ⟨j0, j1, j2, j3, j4⟩ := hr4.cells; have hlt4 := hr4.lt; have hfz := hr4.froz 3))
      have hm4 : Mut gq w4 (w4.setCell ⟨gq, 3, none⟩ (.slice am km cm)) := (Mut.refl _ _).set _ _
      go_roundw
      case rel => exact ⟨e + 1, W * 10, _, by go_num, by omega, by omega, (hr4.set _ ⟨_, _, _, rfl⟩).2.2.2, ((y0.next hb3).next hb4).mut hr4 hm4, ((y1.next hb3).next hb4).mut hr4 hm4, ((y2.next hb3).next hb4).mut hr4 hm4, (hvm.next hb4).mut hr4 hm4, by have := frac_next he1.out; rw [Nat.mul_comm 10 W] at this; exact this, HF, hm4.out (bnx (bnx hB hb3) hb4) hgw (Nat.le_refl _)⟩
      case measure => simp [intOf]; omega
end Go.Proofs.YtoobncgmcnmgjaaGreatDoor

namespace Go.Proofs.YtoobncgmcnmgjaaGreatDoor
open Go.RowKit

theorem p10_pos (n : Nat) : (0 : Int) < 10 ^ n := Int.pow_pos (by decide)
/-- the digit of place i -/
def dgt (V : Int) (i : Nat) : Int := V / 10 ^ i % 10
theorem dgt_bd (V : Int) (i : Nat) : 0 ≤ dgt V i ∧ dgt V i ≤ 9 := by
  unfold dgt
  have := Int.emod_nonneg (V / 10 ^ i) (show (10 : Int) ≠ 0 by decide)
  have := Int.emod_lt_of_pos (V / 10 ^ i) (show (0 : Int) < 10 by decide)
  omega
theorem dgt_small {V : Int} {L : Nat} (h0 : 0 ≤ V) (h : V < 10 ^ L) (i : Nat) (hi : L ≤ i) : dgt V i = 0 := by
  unfold dgt
  have : V / 10 ^ i = 0 := Int.ediv_eq_zero_of_lt h0 (Int.lt_of_lt_of_le h (by
    obtain ⟨k, rfl⟩ : ∃ k, i = L + k := ⟨i - L, by omega⟩
    rw [Int.pow_add]
    have h1 := p10_pos L
    have h2 := p10_pos k
    have : (10 : Int) ^ L * 1 ≤ 10 ^ L * 10 ^ k := Int.mul_le_mul_of_nonneg_left (by omega) (by omega)
    omega))
  rw [this]; rfl
theorem div_div10 (V : Int) (a b : Nat) : V / 10 ^ a / 10 ^ b = V / 10 ^ (a + b) := by
  rw [Int.pow_add, Int.ediv_ediv_of_nonneg (Int.le_of_lt (p10_pos a))]
theorem emod_mul_ediv' {W a b : Int} (ha : 0 < a) : W % (a * b) / a = W / a % b := by
  rw [Int.emod_def, Int.emod_def, ← Int.ediv_ediv_of_nonneg (Int.le_of_lt ha)]
  have : W - a * b * (W / a / b) = W + (-(b * (W / a / b))) * a := by grind
  rw [this, Int.add_mul_ediv_right _ _ (by omega)]; omega
theorem dgt_step {V r : Int} {L j : Nat} (hr : V / 10 ^ L % 10 ^ 19 = r) (hj : j < 19) : r / 10 ^ j % 10 = dgt V (L + j) := by
  unfold dgt
  rw [← div_div10]
  generalize V / 10 ^ L = W at *
  subst hr
  have h1 : (10 : Int) ^ 19 = 10 ^ j * (10 * 10 ^ (18 - j)) := by
    rw [← Int.mul_assoc, ← Int.pow_succ, ← Int.pow_add]; congr 1; omega
  have hp := p10_pos j
  have hp2 := p10_pos (18 - j)
  rw [h1, emod_mul_ediv' hp]
  exact Int.emod_emod_of_dvd _ ⟨10 ^ (18 - j), rfl⟩
/-- the digits, the highest first: those of the lowest L places -/
def decL (V : Int) (L : Nat) : List Int := if sizeL (dgt V) L = 0 then [48] else (List.range (sizeL (dgt V) L)).map fun i => 48 + dgt V (sizeL (dgt V) L - 1 - i)
theorem decL_more {V : Int} {L L' : Nat} (h0 : 0 ≤ V) (h : V < 10 ^ L) (h' : V < 10 ^ L') : decL V L = decL V L' := by
  have key : ∀ a b, a ≤ b → V < 10 ^ a → decL V b = decL V a := fun a b hab ha => by
    unfold decL
    rw [sizeL_more (fun i hi => dgt_small h0 ha i hi) b hab]
  rcases Nat.le_total L L' with e | e
  · exact (key L L' e h).symm
  · exact key L' L e h'

end Go.Proofs.YtoobncgmcnmgjaaGreatDoor

namespace Go.Proofs.YtoobncgmcnmgjaaGreatDoor
open Go.RowKit

/-- the digits of the lowest L places, as bytes -/
def blB (V : Int) (L : Nat) : List Value := (List.range L).map fun i => Value.int .u8 (48 + dgt V i)
theorem blB_succ (V : Int) (L : Nat) : blB V L ++ [Value.int .u8 (48 + dgt V L)] = blB V (L + 1) := by simp [blB, List.range_succ]
theorem owns_upd {w w' : World} {g base n : Nat} {v : Value} {xs : List Value} (h : w.ownsRow base 5 1 v n xs) (hU : Upd g w w') (hg : g < base) : w'.ownsRow base 5 1 v n xs := by
  obtain ⟨h1, h2⟩ := h
  refine ⟨h1, ?_⟩
  rcases h2 with h2 | ⟨g', cap, cur, e, hb, hh, r⟩
  · exact Or.inl h2
  · exact Or.inr ⟨g', cap, cur, e, hb, (hU.block g' (by omega)).trans hh, r⟩
/-- in the middle of the work: block s words z, the digits so far, all else as it was -/
def DigSt (w0 : World) (V : Int) (s : Nat) (z : Nat → Int) (ao : Option Addr) (L cp : Nat) (wr : World) : Prop :=
  Own w0.heap.size s z wr ∧ wr.ownsRow (w0.heap.size + 1) 5 1 (.slice ao L cp) L (blB V L) ∧ Below w0.heap.size w0 wr ∧ w0.heap.size + 1 ≤ wr.heap.size
def slLen : Value → Nat | .slice _ n _ => n | _ => 0

theorem p22 : ∀ s : Nat, (18446744073709551616 : Int) ^ s ≤ 10 ^ (22 * s)
  | 0 => by simp
  | s + 1 => by
    have ih := p22 s
    have e : (10 : Int) ^ (22 * (s + 1)) = 10 ^ (22 * s) * 10000000000000000000000 := by rw [Nat.mul_add, Int.pow_add]; rfl
    rw [e, Int.pow_succ]
    have h0 := pw_pos s
    have h1 := p10_pos (22 * s)
    generalize (18446744073709551616 : Int) ^ s = A at *
    generalize (10 : Int) ^ (22 * s) = B at *
    omega
theorem p10_lt {L s : Nat} (h : (10 : Int) ^ L < 18446744073709551616 ^ s) : L < 22 * s := by
  rcases Nat.lt_or_ge L (22 * s) with h' | h'
  · exact h'
  · have h2 := p22 s
    obtain ⟨k, rfl⟩ : ∃ k, L = 22 * s + k := ⟨L - 22 * s, by omega⟩
    rw [Int.pow_add] at h
    have h3 := p10_pos k
    have h4 := p10_pos (22 * s)
    have : (10 : Int) ^ (22 * s) * 1 ≤ 10 ^ (22 * s) * 10 ^ k := Int.mul_le_mul_of_nonneg_left (by omega) (by omega)
    omega
/-- bytes that are made: block g holds those of f, n of them, none frozen -/
def HasB (g n : Nat) (f : Nat → Int) (w : World) : Prop := g < w.heap.size ∧ ∀ i, i < n → w.cell? ⟨g, i, none⟩ = some (.int .u8 (f i)) ∧ w.frozen? ⟨g, i, none⟩ = false
theorem owns_cells {w : World} {base g L cap : Nat} {V : Int} (h : w.ownsRow base 5 1 (.slice (some ⟨g, 0, none⟩) L cap) L (blB V L)) : base ≤ g ∧ L ≤ cap ∧ cap ≤ maxLen ∧ HasB g L (fun i => 48 + dgt V i) w := by
  obtain ⟨hl, h⟩ := h
  rcases h with ⟨h, _⟩ | ⟨g', cap', cur, he, hb, hh, h1, h2, h3, h4⟩
  · cases h
  · cases he
    have hg : g < w.heap.size := by
      rcases Nat.lt_or_ge g w.heap.size with h' | h'
      · exact h'
      · rw [Array.getElem?_eq_none h'] at hh; cases hh
    refine ⟨hb, h1, h2, hg, fun i hi => ⟨?_, ?_⟩⟩
    · have hcur : cur[i]? = some (.int .u8 (48 + dgt V i)) := by
        have : (cur.toList.take (L * 1))[i]? = some (.int .u8 (48 + dgt V i)) := by rw [h4]; simp [blB, hi]
        rw [List.getElem?_take] at this
        simpa [hi] using this
      unfold World.cell?
      simp [hh, hcur]
    · unfold World.frozen?
      simp [hh]

end Go.Proofs.YtoobncgmcnmgjaaGreatDoor
