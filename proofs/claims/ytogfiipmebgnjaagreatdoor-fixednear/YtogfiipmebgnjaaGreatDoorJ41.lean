/-
  Texts that the proof leans on, joined: Na.
-/
import Derived.Test.YtogfiipmebgnjaaGreatDoorJ38
import Derived.Test.YtogfiipmebgnjaaGreatDoorJ34
import Derived.Test.YtogfiipmebgnjaaGreatDoorJ33
import Derived.Test.YtogfiipmebgnjaaGreatDoorJ29
set_option linter.unusedVariables false
set_option linter.unusedSectionVars false
set_option linter.unusedSimpArgs false
set_option maxRecDepth 20000
namespace Go.Proofs.YtogfiipmebgnjaaGreatDoor
open Go.RowKit

section
variable {a : Act} {w : World} {K : Act → World → Prop} {Q : Exit → Act → World → Prop} {d p : Nat} {ty : TypeId} {pos : String} {after : Array Edge} {gd : Option (Nat × Bool)}
theorem og_un1 (hK : K (a.put (some d) (.slice (some ⟨w.heap.size, 0, none⟩) 1 1)) (w.alloc (.cells #[.int .u64 1] 22))) : Oper.wp Tryz.prog { dst := some d, op := Op.buildSlice 39 1 #[(0, Operand.const (.int .u64 1))], type := ty, pos := pos, after := after, guard := gd } a w K Q := by
  simp [go_sem]
  exact hK
theorem og_fp3 {g : Nat} (h1 : slot a p = .pointer (some ⟨g, 0, none⟩)) (hK : K (a.put (some d) (.pointer (some ⟨g, 3, none⟩))) w) : Oper.wp Tryz.prog { dst := some d, op := Op.fieldAddr 76 (Operand.tmp p) 3, type := ty, pos := pos, after := after, guard := gd } a w K Q := by
  unfold slot at h1
  simp [go_sem, h1]
  exact hK
theorem og_fp4 {g : Nat} (h1 : slot a p = .pointer (some ⟨g, 0, none⟩)) (hK : K (a.put (some d) (.pointer (some ⟨g, 4, none⟩))) w) : Oper.wp Tryz.prog { dst := some d, op := Op.fieldAddr 76 (Operand.tmp p) 4, type := ty, pos := pos, after := after, guard := gd } a w K Q := by
  unfold slot at h1
  simp [go_sem, h1]
  exact hK
theorem og_ld9 {g i : Nat} {v : Value} (h1 : slot a p = .pointer (some ⟨g, i, none⟩)) (h2 : w.cell? ⟨g, i, none⟩ = some v) (hK : K (a.put (some d) v) w) : Oper.wp Tryz.prog { dst := some d, op := Op.load 9 (Operand.tmp p), type := ty, pos := pos, after := after, guard := gd } a w K Q := by
  unfold slot at h1
  simp [go_sem, h1, h2]
  exact hK
theorem og_c4s {F : Nat} {p0 p1 p3 : Nat} {u0 u1 u2 u3 : Value} {ts : Array TypeId} (hr : Sem.run Tryz.prog (callFunc F #[u0, u1, u2, u3]) w = .ok (.enter F #[u0, u1, u2, u3]) w) (h0 : slot a p0 = u0) (h1 : slot a p1 = u1) (h3 : slot a p3 = u3) (hc : Calls Tryz.prog F #[u0, u1, u2, u3] w fun e w' => ∃ v, e = .returned v ∧ K (a.put (some d) v) w') : Oper.wp Tryz.prog { dst := some d, op := Op.call { callee := Callee.value (Operand.func F), args := #[Operand.tmp p0, Operand.tmp p1, Operand.const u2, Operand.tmp p3], argTypes := ts }, type := ty, pos := pos, after := after, guard := gd } a w K Q := by
  unfold slot at h0 h1 h3
  simp [go_sem, h0, h1, h3, hr]
  refine hc.mono ?_
  rintro e w' ⟨v, rfl, hK⟩
  exact hK
end
noncomputable def opsF4 : List Oper := (Tryz.f15.body.bind (findR 4)).getD []
def slotsF4 : List Nat := [17, 18, 19, 20, 21, 22, 23]
def slotsAF4 : List Nat := [17, 18, 19, 20, 21, 22, 23, 16, 24, 25, 7, 8]
def TUF (A B : Nat) (v : Value) (w : World) : Prop := ∃ q r, v = .tuple #[q, r] ∧ NT 900 A q w ∧ NT 900 B r w
theorem TUF.next {A B : Nat} {v : Value} {w w' : World} (h : TUF A B v w) (hb : Below w.heap.size w w') : TUF A B v w' := by
  obtain ⟨q, r, e, hq, hr⟩ := h
  exact ⟨q, r, e, hq.next hb, hr.next hb⟩
attribute [local irreducible] W4 NT NV
theorem regF4 {h5 X A B' : Nat} {D : List UInt8} {x : Int} {a0 : Act} {ws : World} {Q : Exit → Act → World → Prop} (hP : ∀ c a d v w, Q (.panic c) (Act.put a d v) w → Q (.panic c) a w) (hs : a0.tmps.size = 28) (g5 : slot a0 5 = .pointer (some ⟨h5, 0, none⟩)) (hlt : h5 < ws.heap.size) (k3 : ws.cell? ⟨h5, 3, none⟩ = some (.string (B D))) (k4 : ws.cell? ⟨h5, 4, none⟩ = some (.int .i64 x))
    (c1 : ∀ W, Calls Tryz.prog 45 #[.string (B D)] W fun e w' => ∃ v, e = .returned v ∧ NT 900 X v w' ∧ Below W.heap.size W w')
    (c2 : ∀ W u v, NT 900 X u W → NT 900 1 v W → Calls Tryz.prog 20 #[u, v, .int .u64 10, .int .i64 x] W fun e w' => ∃ p q, e = .returned (.tuple #[p, q]) ∧ NT 900 A p w' ∧ NT 900 B' q w' ∧ Below W.heap.size W w')
    (hQ : ∀ (a : Act) (w : World) (u v : Value), slot a 7 = u → slot a 8 = v → NT 900 A u w → NT 900 B' v w → a.tmps.size = 28 → a.defers = a0.defers → (∀ t, (∀ i, i < 12 → slotsAF4.getD i 0 ≠ t) → slot a t = slot a0 t) → Below ws.heap.size ws w → Q .normal a w) :
    (Code.region 4 opsF4.toArray true).wp Tryz.prog Q a0 ws := by
  refine wp_region_memr 7 28 slotsF4 [iW (.pointer (some ⟨h5, 3, none⟩)), iW (.string (B D)), NT 900 X, NT 900 1, iW (.pointer (some ⟨h5, 4, none⟩)), iW (.int .i64 x), TUF A B'] (fun w w' => Below w.heap.size w w') (fun L f w => Below ws.heap.size ws w) (by kernel_rfl) (by kernel_rfl) hP (by kernel_rfl) hs ?_ (Below.refl _ _).drew ?_ ?_
  · intro p hp
    simp only [List.mem_cons, List.not_mem_nil, or_false] at hp
    rcases hp with rfl | rfl | rfl | rfl | rfl | rfl | rfl
    all_goals first | exact fun _ _ _ h _ => h | exact fun _ _ _ h hb => h.next hb
  · intro L i o a w hi ho hL hcl he hM hF hv
    have f5 : slot a 5 = .pointer (some ⟨h5, 0, none⟩) := (hF 5 (by decide)).trans g5
    have hor : i = 0 ∨ i = 1 ∨ i = 2 ∨ i = 3 ∨ i = 4 ∨ i = 5 ∨ i = 6 := by omega
    rcases hor with rfl | rfl | rfl | rfl | rfl | rfl | rfl
    · obtain rfl := Option.some.inj (show opsF4[0]? = some o from ho)
      exact og_fp3 f5 ⟨_, rfl, rfl, Below.refl _ _, hM⟩
    · obtain rfl := Option.some.inj (show opsF4[1]? = some o from ho)
      exact og_ld9 (hv 0 (by decide) rfl (he ⟨0, .data⟩ (by simp) rfl) : slot a 17 = .pointer (some ⟨h5, 3, none⟩)) ((hM.cell (p := ⟨h5, 3, none⟩) hlt).trans k3) ⟨_, rfl, rfl, Below.refl _ _, hM⟩
    · obtain rfl := Option.some.inj (show opsF4[2]? = some o from ho)
      refine og_c1 (by simp [go_sem]) (hv 1 (by decide) rfl (he ⟨1, .data⟩ (by simp) rfl) : slot a 18 = .string (B D)) ((c1 w).mono ?_)
      rintro e w' ⟨v, rfl, hSv, hb⟩
      exact ⟨v, rfl, _, rfl, hSv, hb, bnx hM hb⟩
    · obtain rfl := Option.some.inj (show opsF4[3]? = some o from ho)
      exact og_un1 ⟨_, rfl, (nt_un1 rfl rfl (by decide) (by decide)).more (by decide), below1 _ _, bnx hM (below1 _ _)⟩
    · obtain rfl := Option.some.inj (show opsF4[4]? = some o from ho)
      exact og_fp4 f5 ⟨_, rfl, rfl, Below.refl _ _, hM⟩
    · obtain rfl := Option.some.inj (show opsF4[5]? = some o from ho)
      exact og_ld3 (hv 4 (by decide) rfl (he ⟨4, .data⟩ (by simp) rfl) : slot a 21 = .pointer (some ⟨h5, 4, none⟩)) ((hM.cell (p := ⟨h5, 4, none⟩) hlt).trans k4) ⟨_, rfl, rfl, Below.refl _ _, hM⟩
    · obtain rfl := Option.some.inj (show opsF4[6]? = some o from ho)
      refine og_c4s (by simp [go_sem]) rfl rfl (hv 5 (by decide) rfl (he ⟨5, .data⟩ (by simp) rfl) : slot a 22 = .int .i64 x) ((c2 w _ _ (hv 2 (by decide) rfl (he ⟨2, .data⟩ (by simp) rfl)) (hv 3 (by decide) rfl (he ⟨3, .data⟩ (by simp) rfl))).mono ?_)
      rintro e w' ⟨u, v, rfl, hu, hv', hb⟩
      exact ⟨_, rfl, _, rfl, ⟨u, v, rfl, hu, hv'⟩, hb, bnx hM hb⟩
  · intro L a w hL hM hsz hdf hF hv
    obtain ⟨q, r, e, hq, hr⟩ := (hv 6 (by decide) rfl : TUF A B' (slot a 23) w)
    refine BigFrame.wpList_want rfl fun K hK => og_mv e (hK _ _ ?_)
    clear K hK
    refine BigFrame.wpList_want rfl fun K hK => og_ext (slot_put (by omega)) rfl (hK _ _ ?_)
    clear K hK
    refine BigFrame.wpList_want rfl fun K hK => og_ext ((slot_put_ne (by decide)).trans (slot_put (by omega))) rfl (hK _ _ ?_)
    clear K hK
    refine BigFrame.wpList_want rfl fun K hK => og_as ((slot_put_ne (by decide)).trans (slot_put (by rw [put_size]; omega))) (hK _ _ ?_)
    clear K hK
    refine BigFrame.wpList_want rfl fun K hK => og_as ((slot_put_ne (by decide)).trans (slot_put (by simp only [put_size]; omega))) (hK _ _ ?_)
    clear K hK
    refine hQ _ _ q r ((slot_put_ne (by decide)).trans (slot_put (by simp only [put_size]; omega))) (slot_put (by simp only [put_size]; omega)) hq hr (by simp only [put_size]; exact hsz) hdf (fun t ht => ?_) hM
    rw [slot_put_ne (show 8 ≠ t from ht 11 (by decide)), slot_put_ne (show 7 ≠ t from ht 10 (by decide)), slot_put_ne (show 25 ≠ t from ht 9 (by decide)), slot_put_ne (show 24 ≠ t from ht 8 (by decide)), slot_put_ne (show 16 ≠ t from ht 7 (by decide))]
    exact hF t fun i hi => by
      have := ht i (by omega)
      have hor : i = 0 ∨ i = 1 ∨ i = 2 ∨ i = 3 ∨ i = 4 ∨ i = 5 ∨ i = 6 := by omega
      rcases hor with rfl | rfl | rfl | rfl | rfl | rfl | rfl <;> exact this
set_option maxHeartbeats 2000000 in
theorem frac10_w (l D : List UInt8) (cl : Int) (s g : Bool) (x : Int) (X A B' : Nat) (w : World)
    (c44 : ∀ W, Calls Tryz.prog 44 #[.string (B l)] W fun e w' => e = .returned (.tuple #[PV cl s g D x, .int .i64 0]) ∧ Below W.heap.size W w')
    (c1 : ∀ W, Calls Tryz.prog 45 #[.string (B D)] W fun e w' => ∃ v, e = .returned v ∧ NT 900 X v w' ∧ Below W.heap.size W w')
    (c2 : ∀ W u v, NT 900 X u W → NT 900 1 v W → Calls Tryz.prog 20 #[u, v, .int .u64 10, .int .i64 x] W fun e w' => ∃ p q, e = .returned (.tuple #[p, q]) ∧ NT 900 A p w' ∧ NT 900 B' q w' ∧ Below W.heap.size W w') :
    Calls Tryz.prog 15 #[.string (B l)] w fun r w' => ∃ p q, r = .returned (.tuple #[p, q, .bool true]) ∧ NT 900 A p w' ∧ NT 900 B' q w' ∧ Below w.heap.size w w' := by
  have hsm := cell_set_map
  unfold PV at *
  go_enter Tryz.func15, Tryz.ntmps15
  go_wp2_with (go_at_call 44; refine (c44 _).mono ?_; rintro r w1 ⟨rfl, hb1⟩)
  have hb2 := bnx hb1 (below1 w1 (.cells #[.int .i64 cl, .bool s, .bool g, .string (B D), .int .i64 x] 76))
  refine regF4 (h5 := w1.heap.size) (X := X) (A := A) (B' := B') (D := D) (x := x) (fun _ _ d _ _ h => by cases d <;> exact h) rfl rfl (by simp) (by go_simp) (by go_simp) c1 c2 ?_
  intro a' w3 u3 v3 h7 h8 hu3 hv3 hsz hdf hF3 hb3
  have ha := act_of slotsAF4 12 rfl hsz hdf hF3
  rw [ha]
  simp only [slotsAF4, List.foldl_cons, List.foldl_nil, Act.put, List.setIfInBounds_toArray, List.set_cons_succ, List.set_cons_zero, h7, h8]
  generalize slot a' 17 = s17
  generalize slot a' 18 = s18
  generalize slot a' 19 = s19
  generalize slot a' 20 = s20
  generalize slot a' 21 = s21
  generalize slot a' 22 = s22
  generalize slot a' 23 = s23
  generalize slot a' 16 = s16
  generalize slot a' 24 = s24
  generalize slot a' 25 = s25
  clear ha h7 h8 hsz hdf hF3
  have hA3 := bnx hb2 hb3
  go_wp2
  exact bodyPost_ret (v := .tuple #[u3, v3, .bool true]) (by simp only [results, Tryz.results15]; go_simp) rfl ⟨_, _, rfl, hu3, hv3, hA3⟩
/-- a text's number, as a fraction -/
theorem frac10_v {l D : List UInt8} {s : Bool} {x : Int} (w : World) (hcut : cutP l = some ⟨1, s, false, D, x⟩) (hl : l.length ≤ 4000) (hD : D.all dg = true) (hD8 : D.length ≤ 900) (hx : -6100 ≤ x ∧ x ≤ 6100) :
    Calls Tryz.prog 15 #[.string (B l)] w fun r w' => ∃ p q, r = .returned (.tuple #[p, q, .bool true]) ∧ NT 900 (dV D * 10 ^ x.toNat) p w' ∧ NT 900 (10 ^ (-x).toNat) q w' ∧ Below w.heap.size w w' := by
  obtain ⟨e1, e2⟩ := cutE_some hcut
  have c44 := fun W => rcut_any l W (by omega)
  rw [e1, e2] at c44
  have hbX : bl (dV D) ≤ 4 * D.length + 1 := bl_le.2 (by
    have h1 := (dV_lt hD).1
    have a1 : 10 ^ D.length ≤ (2 ^ 4) ^ D.length := Nat.pow_le_pow_left (by decide) _
    rw [← Nat.pow_mul] at a1
    exact Nat.lt_of_lt_of_le h1 (Nat.le_trans a1 (Nat.pow_le_pow_right (by decide) (by omega))))
  have c2 := fun W u v hu hv => rscale10w (w := W) (vn := u) (vd := v) (N := dV D) (D := 1) x hx hu hv (by omega) (by decide)
  simp only [Nat.one_mul] at c2
  exact frac10_w l D 1 s false x _ _ _ w c44 (fun W => (number8 D W hD (by omega)).mono fun e w' ⟨v, e1, e2, e3⟩ => ⟨v, e1, e2.tight (by omega), e3⟩) c2
end Go.Proofs.YtogfiipmebgnjaaGreatDoor
