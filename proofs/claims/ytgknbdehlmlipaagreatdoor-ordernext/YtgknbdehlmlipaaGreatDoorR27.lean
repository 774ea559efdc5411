/-
  Texts that the proof leans on.
-/
import Derived.Test.YtgknbdehlmlipaaGreatDoorR22
import Derived.Test.YtgknbdehlmlipaaGreatDoorR1
import Derived.Test.YtgknbdehlmlipaaGreatDoorR6
import Derived.Test.YtgknbdehlmlipaaGreatDoorR9
set_option linter.unusedVariables false
set_option linter.unusedSectionVars false
set_option linter.unusedSimpArgs false
set_option maxRecDepth 20000
namespace Go.Proofs.YtgknbdehlmlipaaGreatDoor
open Go.RowKit
section
theorem NT.stays (K V : Nat) : Stays (NT K V) := fun v w w' h hb => h.next hb
section
variable {a : Act} {w : World} {K : Act → World → Prop} {Q : Exit → Act → World → Prop} {d p q r : Nat} {ty : TypeId} {pos : String} {after : Array Edge} {gd : Option (Nat × Bool)}
theorem op_mv {v : Value} (h1 : slot a p = v) (hK : K (a.put (some d) v) w) : Oper.wp Tryz.prog { dst := some d, op := Op.move (Operand.tmp p), type := ty, pos := pos, after := after, guard := gd } a w K Q := by
  unfold slot at h1
  simp [go_sem, h1]
  exact hK
theorem op_as {v : Value} (h1 : slot a p = v) (hK : K (a.put (some d) v) w) : Oper.wp Tryz.prog { dst := some d, op := Op.assign (Operand.tmp p), type := ty, pos := pos, after := after, guard := gd } a w K Q := by
  unfold slot at h1
  simp [go_sem, h1]
  exact hK
theorem op_fa5 {g : Nat} (h1 : slot a p = .pointer (some ⟨g, 0, none⟩)) (hK : K (a.put (some d) (.pointer (some ⟨g, 5, none⟩))) w) : Oper.wp Tryz.prog { dst := some d, op := Op.fieldAddr 45 (Operand.tmp p) 5, type := ty, pos := pos, after := after, guard := gd } a w K Q := by
  unfold slot at h1
  simp [go_sem, h1]
  exact hK
theorem op_ld {g i : Nat} {x : Int} (h1 : slot a p = .pointer (some ⟨g, i, none⟩)) (h2 : w.cell? ⟨g, i, none⟩ = some (.int .i64 x)) (hK : K (a.put (some d) (.int .i64 x)) w) : Oper.wp Tryz.prog { dst := some d, op := Op.load 3 (Operand.tmp p), type := ty, pos := pos, after := after, guard := gd } a w K Q := by
  unfold slot at h1
  simp [go_sem, h1, h2]
  exact hK
theorem op_ld24 {g : Nat} {B : Nat} (h1 : slot a p = .pointer (some ⟨g, 0, none⟩)) (h2 : ∀ i, i < 4 → w.cell? ⟨g, i, none⟩ = some (.int .u64 (W4 B i))) (hK : K (a.put (some d) (A4 B)) w) : Oper.wp Tryz.prog { dst := some d, op := Op.load 24 (Operand.tmp p), type := ty, pos := pos, after := after, guard := gd } a w K Q := by
  unfold slot at h1
  have c0 := h2 0 (by decide)
  have c1 := h2 1 (by decide)
  have c2 := h2 2 (by decide)
  have c3 := h2 3 (by decide)
  simp [go_sem, h1, c0, c1, c2, c3]
  exact hK
theorem op_c26z {u u' : Value} {z : Int} {ts : Array TypeId} (h1 : slot a p = u) (h2 : slot a q = u') (hc : Calls Tryz.prog 52 #[u, .int .i64 z, u'] w fun e w' => ∃ v, e = .returned v ∧ K (a.put (some d) v) w') : Oper.wp Tryz.prog { dst := some d, op := Op.call { callee := Callee.value (Operand.func 52), args := #[Operand.tmp p, Operand.const (.int .i64 z), Operand.tmp q], argTypes := ts }, type := ty, pos := pos, after := after, guard := gd } a w K Q := by
  unfold slot at h1 h2
  simp [go_sem, h1, h2]
  refine hc.mono ?_
  rintro e w' ⟨v, rfl, hK⟩
  exact hK
theorem op_c26 {u u' u'' : Value} {ts : Array TypeId} (h1 : slot a p = u) (h2 : slot a q = u') (h3 : slot a r = u'') (hc : Calls Tryz.prog 52 #[u, u', u''] w fun e w' => ∃ v, e = .returned v ∧ K (a.put (some d) v) w') : Oper.wp Tryz.prog { dst := some d, op := Op.call { callee := Callee.value (Operand.func 52), args := #[Operand.tmp p, Operand.tmp q, Operand.tmp r], argTypes := ts }, type := ty, pos := pos, after := after, guard := gd } a w K Q := by
  unfold slot at h1 h2 h3
  simp [go_sem, h1, h2, h3]
  refine hc.mono ?_
  rintro e w' ⟨v, rfl, hK⟩
  exact hK
theorem op_c27 {u : Value} {ts : Array TypeId} (h1 : slot a p = u) (hc : Calls Tryz.prog 53 #[u] w fun e w' => ∃ v, e = .returned v ∧ K (a.put (some d) v) w') : Oper.wp Tryz.prog { dst := some d, op := Op.call { callee := Callee.value (Operand.func 53), args := #[Operand.tmp p], argTypes := ts }, type := ty, pos := pos, after := after, guard := gd } a w K Q := by
  unfold slot at h1
  simp [go_sem, h1]
  refine hc.mono ?_
  rintro e w' ⟨v, rfl, hK⟩
  exact hK
end
noncomputable def ops5 : List Oper := match Tryz.f18.body with
  | some (.seq _ (.seq _ (.seq _ (.seq _ (.seq (.region _ o _) _))))) => o.toList
  | _ => []
def slots5 : List Nat := [25, 26, 27, 28, 29, 30, 31, 32, 33, 9, 10]
set_option maxHeartbeats 4000000 in
theorem reg5 {gb gi f e B Fr En : Nat} {a0 : Act} {ws : World} {Q : Exit → Act → World → Prop} (c0 : ∀ w, Calls Tryz.prog 52 #[A4 B, .int .i64 0, .int .i64 f] w fun x w' => ∃ r, x = .returned r ∧ NT 19 Fr r w' ∧ Below w.heap.size w w') (c1 : ∀ w, Calls Tryz.prog 52 #[A4 B, .int .i64 f, .int .i64 e] w fun x w' => ∃ r, x = .returned r ∧ NT 19 En r w' ∧ Below w.heap.size w w') (hE : En < 9223372036854775808) (hs : a0.tmps.size = 101)
    (h3 : slot a0 3 = .pointer (some ⟨gb, 0, none⟩)) (h6 : slot a0 6 = .pointer (some ⟨gi, 0, none⟩)) (h8 : slot a0 8 = .int .i64 f)
    (hgb : gb < ws.heap.size) (hgi : gi < ws.heap.size) (hcb : ∀ i, i < 4 → ws.cell? ⟨gb, i, none⟩ = some (.int .u64 (W4 B i))) (hci : ws.cell? ⟨gi, 5, none⟩ = some (.int .i64 e))
    (hQ : ∀ (a : Act) (w : World) (v : Value), NT 19 Fr v w → slot a 9 = v → slot a 10 = .int .i64 (En : Int) → a.tmps.size = 101 → a.defers = a0.defers → (∀ t, (∀ i, i < 11 → slots5.getD i 0 ≠ t) → slot a t = slot a0 t) → Below ws.heap.size ws w → Q .normal a w) :
    (Code.region 5 ops5.toArray true).wp Tryz.prog Q a0 ws := by
  refine wp_region_gall 101 slots5 [isV (A4 B), isV (.int .i64 f), NT 19 Fr, isV (A4 B), isV (.int .i64 f), isV (.pointer (some ⟨gi, 5, none⟩)), isV (.int .i64 e), NT 19 (En), isV (.int .i64 (En : Int)), NT 19 Fr, isV (.int .i64 (En : Int))]
    (fun w => Below ws.heap.size ws w) (by kernel_rfl) (by kernel_rfl) (by kernel_rfl) (by kernel_rfl) hs ?_ (Below.refl _ _).drew (fun w w' h hb => h.trans (hb.mono h.size)) ?_ ?_ ?_
  · intro p hp
    simp only [List.mem_cons, List.not_mem_nil, or_false] at hp
    rcases hp with rfl | rfl | rfl | rfl | rfl | rfl | rfl | rfl | rfl | rfl | rfl
    all_goals first | exact isV.stays _ | exact NT.stays _ _
  · intro i o j b hi ho hg v w hv
    have hi' : i < 11 := hi
    have hor : i = 0 ∨ i = 1 ∨ i = 2 ∨ i = 3 ∨ i = 4 ∨ i = 5 ∨ i = 6 ∨ i = 7 ∨ i = 8 ∨ i = 9 ∨ i = 10 := by omega
    rcases hor with rfl | rfl | rfl | rfl | rfl | rfl | rfl | rfl | rfl | rfl | rfl
    all_goals
      obtain rfl := Option.some.inj (show ops5[_]? = some o from ho)
      cases hg
  · intro i o' a w hi ho hC hF hdep
    have f3 : slot a 3 = .pointer (some ⟨gb, 0, none⟩) := (hF 3 (by decide)).trans h3
    have f6 : slot a 6 = .pointer (some ⟨gi, 0, none⟩) := (hF 6 (by decide)).trans h6
    have f8 : slot a 8 = .int .i64 f := (hF 8 (by decide)).trans h8
    have hcB : ∀ i, i < 4 → w.cell? ⟨gb, i, none⟩ = some (.int .u64 (W4 B i)) := fun i hi => (hC.cell (p := ⟨gb, i, none⟩) hgb).trans (hcb i hi)
    have hcI : w.cell? ⟨gi, 5, none⟩ = some (.int .i64 e) := (hC.cell (p := ⟨gi, 5, none⟩) hgi).trans hci
    have hi' : i < 11 := hi
    have hor : i = 0 ∨ i = 1 ∨ i = 2 ∨ i = 3 ∨ i = 4 ∨ i = 5 ∨ i = 6 ∨ i = 7 ∨ i = 8 ∨ i = 9 ∨ i = 10 := by omega
    rcases hor with rfl | rfl | rfl | rfl | rfl | rfl | rfl | rfl | rfl | rfl | rfl
    · obtain rfl := Option.some.inj (show ops5[0]? = some o' from ho)
      exact op_ld24 f3 hcB ⟨_, rfl, rfl, Below.refl _ _⟩
    · obtain rfl := Option.some.inj (show ops5[1]? = some o' from ho)
      exact op_mv f8 ⟨_, rfl, rfl, Below.refl _ _⟩
    · obtain rfl := Option.some.inj (show ops5[2]? = some o' from ho)
      refine op_c26z (hdep ⟨0, .data⟩ (by simp) rfl : slot a 25 = A4 B) (hdep ⟨1, .data⟩ (by simp) rfl : slot a 26 = .int .i64 f) ((c0 w).mono ?_)
      rintro e w' ⟨r, rfl, hr, hb⟩
      exact ⟨_, rfl, _, rfl, hr, hb⟩
    · obtain rfl := Option.some.inj (show ops5[3]? = some o' from ho)
      exact op_ld24 f3 hcB ⟨_, rfl, rfl, Below.refl _ _⟩
    · obtain rfl := Option.some.inj (show ops5[4]? = some o' from ho)
      exact op_mv f8 ⟨_, rfl, rfl, Below.refl _ _⟩
    · obtain rfl := Option.some.inj (show ops5[5]? = some o' from ho)
      exact op_fa5 f6 ⟨_, rfl, rfl, Below.refl _ _⟩
    · obtain rfl := Option.some.inj (show ops5[6]? = some o' from ho)
      exact op_ld (hdep ⟨5, .data⟩ (by simp) rfl : slot a 30 = .pointer (some ⟨gi, 5, none⟩)) hcI ⟨_, rfl, rfl, Below.refl _ _⟩
    · obtain rfl := Option.some.inj (show ops5[7]? = some o' from ho)
      refine op_c26 (hdep ⟨3, .data⟩ (by simp) rfl : slot a 28 = A4 B) (hdep ⟨4, .data⟩ (by simp) rfl : slot a 29 = .int .i64 f) (hdep ⟨6, .data⟩ (by simp) rfl : slot a 31 = .int .i64 e) ((c1 w).mono ?_)
      rintro e w' ⟨r, rfl, hr, hb⟩
      exact ⟨_, rfl, _, rfl, hr, hb⟩
    · obtain rfl := Option.some.inj (show ops5[8]? = some o' from ho)
      have hv := (hdep ⟨7, .data⟩ (by simp) rfl : NT 19 (En) (slot a 32) w)
      refine op_c27 rfl ((number_nv hv.nv (by decide) hE).mono ?_)
      rintro e w' ⟨rfl, rfl⟩
      exact ⟨_, rfl, _, rfl, rfl, Below.refl _ _⟩
    · obtain rfl := Option.some.inj (show ops5[9]? = some o' from ho)
      have hv := (hdep ⟨2, .data⟩ (by simp) rfl : NT 19 Fr (slot a 27) w)
      exact op_as rfl ⟨_, rfl, hv, Below.refl _ _⟩
    · obtain rfl := Option.some.inj (show ops5[10]? = some o' from ho)
      exact op_as (hdep ⟨8, .data⟩ (by simp) rfl : slot a 33 = .int .i64 (En : Int)) ⟨_, rfl, rfl, Below.refl _ _⟩
  · intro a w hC hsz hdf hF hR
    exact hQ a w _ (hR 9 (by decide)) rfl (hR 10 (by decide)) hsz hdf (fun t ht => hF t ht) hC
end
section
theorem puts_slot (a : Act) : ∀ (D : List Nat) (b : Act), (D.foldl (fun b d => b.put (some d) (slot a d)) b).tmps.size = b.tmps.size ∧ (D.foldl (fun b d => b.put (some d) (slot a d)) b).defers = b.defers ∧ ∀ t, t < b.tmps.size → slot (D.foldl (fun b d => b.put (some d) (slot a d)) b) t = if t ∈ D then slot a t else slot b t
  | [], b => ⟨rfl, rfl, fun t ht => by simp⟩
  | d :: D, b => by
    obtain ⟨h1, h2, h3⟩ := puts_slot a D (b.put (some d) (slot a d))
    have hs : (b.put (some d) (slot a d)).tmps.size = b.tmps.size := by simp [Act.put]
    refine ⟨h1.trans hs, h2, fun t ht => ?_⟩
    rw [List.foldl_cons, h3 t (by rw [hs]; exact ht)]
    by_cases hD : t ∈ D
    · rw [if_pos hD, if_pos (List.mem_cons_of_mem _ hD)]
    · rw [if_neg hD]
      by_cases hd : t = d
      · subst hd
        rw [if_pos List.mem_cons_self, slot_put ht]
      · rw [if_neg (by simp [hd, hD]), slot_put_ne (fun h => hd h.symm)]
theorem act_of {a a0 : Act} (D : List Nat) (n : Nat) (hn : D.length = n) (hsz : a.tmps.size = a0.tmps.size) (hdf : a.defers = a0.defers) (hF : ∀ t, (∀ i, i < n → D.getD i 0 ≠ t) → slot a t = slot a0 t) :
    a = D.foldl (fun b d => b.put (some d) (slot a d)) a0 := by
  obtain ⟨h1, h2, h3⟩ := puts_slot a D a0
  generalize D.foldl (fun b d => b.put (some d) (slot a d)) a0 = b at *
  have key : ∀ t, t < a0.tmps.size → slot a t = slot b t := fun t ht => by
    rw [h3 t ht]
    by_cases hD : t ∈ D
    · rw [if_pos hD]
    · rw [if_neg hD]
      refine hF t fun i hi e => hD ?_
      rw [← e, List.getD_eq_getElem?_getD, List.getElem?_eq_getElem (by omega)]
      exact List.getElem_mem _
  have ht : a.tmps = b.tmps := by
    apply Array.ext (by omega)
    intro i h4 h5
    have := key i (by omega)
    unfold slot at this
    rw [Array.getElem?_eq_getElem h4, Array.getElem?_eq_getElem h5] at this
    exact this
  cases a; cases b
  simp only at ht hdf h2 ⊢
  rw [ht, hdf, h2]

set_option maxHeartbeats 1000000 in
theorem runpack_bad (n : Int) (B : Nat) (w : World) (hB : B < 2 ^ 256) (h : ¬ goodN n B) :
    Calls Tryz.prog 18 #[.int .i64 n, A4 B] w fun x w' => x = .returned (.tuple #[DV 0 false false 0 0, .int .i64 1]) ∧ Below w.heap.size w w' := by
  have c24 := fun w => rgood_any n B hB w
  rw [decide_eq_false h] at c24
  unfold DV
  simp only [W4_zero]
  clear h hB
  go_enter Tryz.func18, Tryz.ntmps18
  go_wp2_with (go_at_call 51; refine (c24 _).mono ?_; rintro x w1 ⟨rfl, hb1⟩; obtain ⟨hc1, hf1⟩ := bcell hb1; have hz1_0 : w.heap.size < w1.heap.size := lt_below hb1 ltg; have hl1_0 := Nat.le_of_lt hz1_0; have hz1_1 : w.heap.size + 1 < w1.heap.size := lt_below hb1 ltg; have hl1_1 := Nat.le_of_lt hz1_1; have hA1 := bnext (w0 := w) bgo hb1; have hs1 := hA1.size; clear hb1)
  have hsm := cell_set_map
  exact bodyPost_ret (v := .tuple #[.agg #[.int .i64 0, .bool false, .bool false, .int .i64 0, .int .u64 0, .int .u64 0, .int .u64 0, .int .u64 0], .int .i64 1]) (by simp only [results, Tryz.results18]; go_simp) rfl ⟨rfl, bgo⟩

theorem pow_e' {e : Nat} (h15 : e ≤ 15) : (1 : Int) ≤ 2 ^ e ∧ (2 : Int) ^ e ≤ 32768 := by
  have b : (2 : Nat) ^ e ≤ 2 ^ 15 := Nat.pow_le_pow_right (by decide) h15
  have a : 1 ≤ 2 ^ e := Nat.one_le_two_pow
  have c : ((2 : Int) ^ e) = ((2 ^ e : Nat) : Int) := by simp
  rw [c]; omega
attribute [local irreducible] W4 NT NV
section
variable (n : Int) (B : Nat) (f e Fr En S : Nat) (l m pay wd : Int) (nm : ByteArray) (w : World) (hf : 2 ≤ f ∧ f ≤ 240) (he : e ≤ 15) (hEn : En < 9223372036854775808) (hS9 : S < 9223372036854775808)
  (c24 : ∀ w, Calls Tryz.prog 51 #[.int .i64 n, A4 B] w fun x w' => x = .returned (.bool true) ∧ Below w.heap.size w w')
  (c25 : ∀ w, Calls Tryz.prog 20 #[.int .i64 n] w fun x w' => x = .returned (.tuple #[.agg #[.int .i64 n, .string nm, .int .i64 2, .int .i64 wd, .int .i64 ((f : Int) + 1), .int .i64 e, .int .i64 l, .int .i64 m, .int .i64 pay, .bool false], .int .i64 0]) ∧ Below w.heap.size w w')
  (c0 : ∀ w, Calls Tryz.prog 52 #[A4 B, .int .i64 0, .int .i64 f] w fun x w' => ∃ r, x = .returned r ∧ NT 19 Fr r w' ∧ Below w.heap.size w w')
  (c1 : ∀ w, Calls Tryz.prog 52 #[A4 B, .int .i64 f, .int .i64 e] w fun x w' => ∃ r, x = .returned r ∧ NT 19 En r w' ∧ Below w.heap.size w w')
  (c26 : ∀ w, Calls Tryz.prog 52 #[A4 B, .int .i64 ((f : Int) + e), .int .i64 1] w fun x w' => ∃ r, x = .returned r ∧ NT 19 S r w' ∧ Below w.heap.size w w')
include hf he hEn hS9 c24 c25 c0 c1 c26
set_option maxHeartbeats 1000000 in
theorem runpack_inf (hE : ((En : Int) == 2 ^ e - 1) = true) (h0 : Fr = 0) :
    Calls Tryz.prog 18 #[.int .i64 n, A4 B] w fun x w' => x = .returned (.tuple #[.agg #[.int .i64 2, .bool ((S : Int) == 1), .bool false, .int .i64 0, .int .u64 0, .int .u64 0, .int .u64 0, .int .u64 0], .int .i64 0]) ∧ Below w.heap.size w w' := by
  go_enter Tryz.func18, Tryz.ntmps18
  go_wp2_with (first
    | (go_at_call 51; refine (c24 _).mono ?_; rintro x w1 ⟨rfl, hb1⟩; obtain ⟨hc1, hf1⟩ := bcell hb1; have hz1_0 : w.heap.size < w1.heap.size := lt_below hb1 ltg; have hl1_0 := Nat.le_of_lt hz1_0; have hz1_1 : w.heap.size + 1 < w1.heap.size := lt_below hb1 ltg; have hl1_1 := Nat.le_of_lt hz1_1; have hA1 := bnext (w0 := w) bgo hb1; have hs1 := hA1.size; clear hb1)
    | (go_at_call 20; refine (c25 _).mono ?_; rintro x w2 ⟨rfl, hb2⟩; obtain ⟨hc2, hf2⟩ := bcell hb2; have hz2_0 : w.heap.size < w2.heap.size := lt_below hb2 ltg; have hl2_0 := Nat.le_of_lt hz2_0; have hz2_1 : w.heap.size + 1 < w2.heap.size := lt_below hb2 ltg; have hl2_1 := Nat.le_of_lt hz2_1; have hA2 := bnext (w0 := w) bgo hb2; have hs2 := hA2.size; clear hb2))
  have k0 : w2.cell? ⟨w.heap.size, 0, none⟩ = some (.int .u64 (W4 B 0)) := (by go_simp)
  have k1 : w2.cell? ⟨w.heap.size, 1, none⟩ = some (.int .u64 (W4 B 1)) := (by go_simp)
  have k2 : w2.cell? ⟨w.heap.size, 2, none⟩ = some (.int .u64 (W4 B 2)) := (by go_simp)
  have k3 : w2.cell? ⟨w.heap.size, 3, none⟩ = some (.int .u64 (W4 B 3)) := (by go_simp)
  refine reg5 (gb := w.heap.size) (gi := w2.heap.size) (f := f) (e := e) (B := B) c0 c1 hEn rfl rfl rfl rfl (by simp; omega) (by simp) (fun i hi => ?_) (by go_simp) ?_
  · have : i = 0 ∨ i = 1 ∨ i = 2 ∨ i = 3 := by omega
    rcases this with rfl | rfl | rfl | rfl <;> go_simp
  intro a w3 v hv h9 h10 hsz hdf hF hb3
  have ha := act_of slots5 11 rfl hsz hdf hF
  rw [ha]
  simp only [slots5, List.foldl_cons, List.foldl_nil, Act.put, List.setIfInBounds_toArray, List.set_cons_succ, List.set_cons_zero, h9, h10]
  generalize slot a 25 = s25
  generalize slot a 26 = s26
  generalize slot a 27 = s27
  generalize slot a 28 = s28
  generalize slot a 29 = s29
  generalize slot a 30 = s30
  generalize slot a 31 = s31
  generalize slot a 32 = s32
  generalize slot a 33 = s33
  clear ha hF hsz hdf h9 h10 a
  obtain ⟨hc3, hf3⟩ := bcell hb3; have hz3_0 : w.heap.size < w3.heap.size := lt_below hb3 ltg; have hl3_0 := Nat.le_of_lt hz3_0; have hz3_1 : w.heap.size + 1 < w3.heap.size := lt_below hb3 ltg; have hl3_1 := Nat.le_of_lt hz3_1; have hz3_2 : w2.heap.size < w3.heap.size := lt_below hb3 ltg; have hl3_2 := Nat.le_of_lt hz3_2; have hA3 := bnext (w0 := w) bgo hb3; have hs3 := hA3.size; clear hb3
  obtain ⟨gv, kv, cv, rfl, hkv, hkz⟩ := hv.zero
  have hp := pow_e' he
  obtain rfl : kv = 0 := hkz.2 h0
  generalize (En : Int) = E at *
  clear hkz h0 hv hkv k0 k1 k2 k3 c0 c1
  go_wp2_with (first
    | (go_at_call 52; refine (c26 _).mono ?_; rintro x w4 ⟨v4, rfl, hn4, hb4⟩; obtain ⟨hc4, hf4⟩ := bcell hb4; have hz4_0 : w.heap.size < w4.heap.size := lt_below hb4 ltg; have hl4_0 := Nat.le_of_lt hz4_0; have hz4_1 : w.heap.size + 1 < w4.heap.size := lt_below hb4 ltg; have hl4_1 := Nat.le_of_lt hz4_1; have hz4_2 : w2.heap.size < w4.heap.size := lt_below hb4 ltg; have hl4_2 := Nat.le_of_lt hz4_2; have hA4 := bnext (w0 := w) bgo hb4; have hs4 := hA4.size; clear hb4)
    | (go_at_call 53; refine (number_nv hn4.nv (by decide) hS9).mono ?_; rintro x w5 ⟨rfl, rfl⟩))
  have hsm := cell_set_map
  go_wp2
  exact bodyPost_ret (v := .tuple #[.agg #[.int .i64 2, .bool ((S : Int) == 1), .bool false, .int .i64 0, .int .u64 0, .int .u64 0, .int .u64 0, .int .u64 0], .int .i64 0]) (by simp only [results, Tryz.results18]; go_simp) rfl ⟨rfl, bgo⟩
set_option maxHeartbeats 1000000 in
theorem runpack_nan (hE : ((En : Int) == 2 ^ e - 1) = true) (h0 : Fr ≠ 0) (Sg Pl : Nat) (hS8 : Sg < 9223372036854775808)
  (c26b : ∀ w, Calls Tryz.prog 52 #[A4 B, .int .i64 ((f : Int) - 1), .int .i64 1] w fun x w' => ∃ r, x = .returned r ∧ NT 19 Sg r w' ∧ Below w.heap.size w w')
  (c26c : ∀ w, Calls Tryz.prog 52 #[A4 B, .int .i64 0, .int .i64 ((f : Int) - 1)] w fun x w' => ∃ r, x = .returned r ∧ NT 19 Pl r w' ∧ Below w.heap.size w w') :
    Calls Tryz.prog 18 #[.int .i64 n, A4 B] w fun x w' => x = .returned (.tuple #[.agg #[.int .i64 3, .bool ((S : Int) == 1), .bool ((Sg : Int) == 0), .int .i64 0, .int .u64 (W4 Pl 0), .int .u64 (W4 Pl 1), .int .u64 (W4 Pl 2), .int .u64 (W4 Pl 3)], .int .i64 0]) ∧ Below w.heap.size w w' := by
  go_enter Tryz.func18, Tryz.ntmps18
  go_wp2_with (first
    | (go_at_call 51; refine (c24 _).mono ?_; rintro x w1 ⟨rfl, hb1⟩; obtain ⟨hc1, hf1⟩ := bcell hb1; have hz1_0 : w.heap.size < w1.heap.size := lt_below hb1 ltg; have hl1_0 := Nat.le_of_lt hz1_0; have hz1_1 : w.heap.size + 1 < w1.heap.size := lt_below hb1 ltg; have hl1_1 := Nat.le_of_lt hz1_1; have hA1 := bnext (w0 := w) bgo hb1; have hs1 := hA1.size; clear hb1)
    | (go_at_call 20; refine (c25 _).mono ?_; rintro x w2 ⟨rfl, hb2⟩; obtain ⟨hc2, hf2⟩ := bcell hb2; have hz2_0 : w.heap.size < w2.heap.size := lt_below hb2 ltg; have hl2_0 := Nat.le_of_lt hz2_0; have hz2_1 : w.heap.size + 1 < w2.heap.size := lt_below hb2 ltg; have hl2_1 := Nat.le_of_lt hz2_1; have hA2 := bnext (w0 := w) bgo hb2; have hs2 := hA2.size; clear hb2))
  have k0 : w2.cell? ⟨w.heap.size, 0, none⟩ = some (.int .u64 (W4 B 0)) := (by go_simp)
  have k1 : w2.cell? ⟨w.heap.size, 1, none⟩ = some (.int .u64 (W4 B 1)) := (by go_simp)
  have k2 : w2.cell? ⟨w.heap.size, 2, none⟩ = some (.int .u64 (W4 B 2)) := (by go_simp)
  have k3 : w2.cell? ⟨w.heap.size, 3, none⟩ = some (.int .u64 (W4 B 3)) := (by go_simp)
  refine reg5 (gb := w.heap.size) (gi := w2.heap.size) (f := f) (e := e) (B := B) c0 c1 hEn rfl rfl rfl rfl (by simp; omega) (by simp) (fun i hi => ?_) (by go_simp) ?_
  · have : i = 0 ∨ i = 1 ∨ i = 2 ∨ i = 3 := by omega
    rcases this with rfl | rfl | rfl | rfl <;> go_simp
  intro a w3 v hv h9 h10 hsz hdf hF hb3
  have ha := act_of slots5 11 rfl hsz hdf hF
  rw [ha]
  simp only [slots5, List.foldl_cons, List.foldl_nil, Act.put, List.setIfInBounds_toArray, List.set_cons_succ, List.set_cons_zero, h9, h10]
  generalize slot a 25 = s25
  generalize slot a 26 = s26
  generalize slot a 27 = s27
  generalize slot a 28 = s28
  generalize slot a 29 = s29
  generalize slot a 30 = s30
  generalize slot a 31 = s31
  generalize slot a 32 = s32
  generalize slot a 33 = s33
  clear ha hF hsz hdf h9 h10 a
  obtain ⟨hc3, hf3⟩ := bcell hb3; have hz3_0 : w.heap.size < w3.heap.size := lt_below hb3 ltg; have hl3_0 := Nat.le_of_lt hz3_0; have hz3_1 : w.heap.size + 1 < w3.heap.size := lt_below hb3 ltg; have hl3_1 := Nat.le_of_lt hz3_1; have hz3_2 : w2.heap.size < w3.heap.size := lt_below hb3 ltg; have hl3_2 := Nat.le_of_lt hz3_2; have hA3 := bnext (w0 := w) bgo hb3; have hs3 := hA3.size; clear hb3
  obtain ⟨gv, kv, cv, rfl, hkv, hkz⟩ := hv.zero
  have hp := pow_e' he
  have hkn : ¬ ((kv : Int) = 0) := fun h => h0 (hkz.1 (by omega))
  have hkb : ((kv : Int) == 0) = false := by simpa using hkn
  generalize (En : Int) = E at *
  clear hkz h0 hv hkv hkn k0 k1 k2 k3 c0 c1
  have hsm := cell_set_map
  go_wp2_with (first
    | (have := hA6; go_at_call 52; refine (c26c _).mono ?_; rintro x w7 ⟨v7, rfl, hn7, hb7⟩; obtain ⟨hc7, hf7⟩ := bcell hb7; have hz7_0 : w.heap.size < w7.heap.size := lt_below hb7 ltg; have hl7_0 := Nat.le_of_lt hz7_0; have hz7_1 : w.heap.size + 1 < w7.heap.size := lt_below hb7 ltg; have hl7_1 := Nat.le_of_lt hz7_1; have hz7_2 : w2.heap.size < w7.heap.size := lt_below hb7 ltg; have hl7_2 := Nat.le_of_lt hz7_2; have hz7_3 : w5.heap.size < w7.heap.size := lt_below hb7 ltg; have hl7_3 := Nat.le_of_lt hz7_3; have hA7 := bnext (w0 := w) bgo hb7; have hs7 := hA7.size; clear hb7)
    | (have := hA6; go_at_call 53; refine (number_nv hn6.nv (by decide) hS8).mono ?_; rintro x w8 ⟨rfl, rfl⟩)
    | (have := hA4; go_at_call 52; refine (c26b _).mono ?_; rintro x w6 ⟨v6, rfl, hn6, hb6⟩; obtain ⟨hc6, hf6⟩ := bcell hb6; have hz6_0 : w.heap.size < w6.heap.size := lt_below hb6 ltg; have hl6_0 := Nat.le_of_lt hz6_0; have hz6_1 : w.heap.size + 1 < w6.heap.size := lt_below hb6 ltg; have hl6_1 := Nat.le_of_lt hz6_1; have hz6_2 : w2.heap.size < w6.heap.size := lt_below hb6 ltg; have hl6_2 := Nat.le_of_lt hz6_2; have hz6_3 : w5.heap.size < w6.heap.size := lt_below hb6 ltg; have hl6_3 := Nat.le_of_lt hz6_3; have hA6 := bnext (w0 := w) bgo hb6; have hs6 := hA6.size; clear hb6)
    | (go_at_call 28; refine (bits_nv hn7.nv).mono ?_; rintro x w9 ⟨rfl, hb9⟩; obtain ⟨hc9, hf9⟩ := bcell hb9; have hz9_0 : w.heap.size < w9.heap.size := lt_below hb9 ltg; have hl9_0 := Nat.le_of_lt hz9_0; have hz9_1 : w.heap.size + 1 < w9.heap.size := lt_below hb9 ltg; have hl9_1 := Nat.le_of_lt hz9_1; have hz9_2 : w2.heap.size < w9.heap.size := lt_below hb9 ltg; have hl9_2 := Nat.le_of_lt hz9_2; have hz9_3 : w5.heap.size < w9.heap.size := lt_below hb9 ltg; have hl9_3 := Nat.le_of_lt hz9_3; have hA9 := bnext (w0 := w) bgo hb9; have hs9 := hA9.size; clear hb9)
    | (go_at_call 52; refine (c26 _).mono ?_; rintro x w4 ⟨v4, rfl, hn4, hb4⟩; obtain ⟨hc4, hf4⟩ := bcell hb4; have hz4_0 : w.heap.size < w4.heap.size := lt_below hb4 ltg; have hl4_0 := Nat.le_of_lt hz4_0; have hz4_1 : w.heap.size + 1 < w4.heap.size := lt_below hb4 ltg; have hl4_1 := Nat.le_of_lt hz4_1; have hz4_2 : w2.heap.size < w4.heap.size := lt_below hb4 ltg; have hl4_2 := Nat.le_of_lt hz4_2; have hA4 := bnext (w0 := w) bgo hb4; have hs4 := hA4.size; clear hb4)
    | (go_at_call 53; refine (number_nv hn4.nv (by decide) hS9).mono ?_; rintro x w5 ⟨rfl, rfl⟩))
  go_wp2
  exact bodyPost_ret (v := .tuple #[.agg #[.int .i64 3, .bool ((S : Int) == 1), .bool ((Sg : Int) == 0), .int .i64 0, .int .u64 (W4 Pl 0), .int .u64 (W4 Pl 1), .int .u64 (W4 Pl 2), .int .u64 (W4 Pl 3)], .int .i64 0]) (by simp only [results, Tryz.results18]; go_simp) rfl ⟨rfl, bgo⟩
set_option maxHeartbeats 2000000 in
theorem runpack_sub (hE : ((En : Int) == 2 ^ e - 1) = false) (h0 : (En : Int) = 0) :
    Calls Tryz.prog 18 #[.int .i64 n, A4 B] w fun x w' => x = .returned (.tuple #[.agg #[.int .i64 1, .bool ((S : Int) == 1), .bool false, .int .i64 l, .int .u64 (W4 Fr 0), .int .u64 (W4 Fr 1), .int .u64 (W4 Fr 2), .int .u64 (W4 Fr 3)], .int .i64 0]) ∧ Below w.heap.size w w' := by
  go_enter Tryz.func18, Tryz.ntmps18
  go_wp2_with (first
    | (go_at_call 51; refine (c24 _).mono ?_; rintro x w1 ⟨rfl, hb1⟩; obtain ⟨hc1, hf1⟩ := bcell hb1; have hz1_0 : w.heap.size < w1.heap.size := lt_below hb1 ltg; have hl1_0 := Nat.le_of_lt hz1_0; have hz1_1 : w.heap.size + 1 < w1.heap.size := lt_below hb1 ltg; have hl1_1 := Nat.le_of_lt hz1_1; have hA1 := bnext (w0 := w) bgo hb1; have hs1 := hA1.size; clear hb1)
    | (go_at_call 20; refine (c25 _).mono ?_; rintro x w2 ⟨rfl, hb2⟩; obtain ⟨hc2, hf2⟩ := bcell hb2; have hz2_0 : w.heap.size < w2.heap.size := lt_below hb2 ltg; have hl2_0 := Nat.le_of_lt hz2_0; have hz2_1 : w.heap.size + 1 < w2.heap.size := lt_below hb2 ltg; have hl2_1 := Nat.le_of_lt hz2_1; have hA2 := bnext (w0 := w) bgo hb2; have hs2 := hA2.size; clear hb2))
  have k0 : w2.cell? ⟨w.heap.size, 0, none⟩ = some (.int .u64 (W4 B 0)) := (by go_simp)
  have k1 : w2.cell? ⟨w.heap.size, 1, none⟩ = some (.int .u64 (W4 B 1)) := (by go_simp)
  have k2 : w2.cell? ⟨w.heap.size, 2, none⟩ = some (.int .u64 (W4 B 2)) := (by go_simp)
  have k3 : w2.cell? ⟨w.heap.size, 3, none⟩ = some (.int .u64 (W4 B 3)) := (by go_simp)
  refine reg5 (gb := w.heap.size) (gi := w2.heap.size) (f := f) (e := e) (B := B) c0 c1 hEn rfl rfl rfl rfl (by simp; omega) (by simp) (fun i hi => ?_) (by go_simp) ?_
  · have : i = 0 ∨ i = 1 ∨ i = 2 ∨ i = 3 := by omega
    rcases this with rfl | rfl | rfl | rfl <;> go_simp
  intro a w3 v hv h9 h10 hsz hdf hF hb3
  have ha := act_of slots5 11 rfl hsz hdf hF
  rw [ha]
  simp only [slots5, List.foldl_cons, List.foldl_nil, Act.put, List.setIfInBounds_toArray, List.set_cons_succ, List.set_cons_zero, h9, h10]
  generalize slot a 25 = s25
  generalize slot a 26 = s26
  generalize slot a 27 = s27
  generalize slot a 28 = s28
  generalize slot a 29 = s29
  generalize slot a 30 = s30
  generalize slot a 31 = s31
  generalize slot a 32 = s32
  generalize slot a 33 = s33
  clear ha hF hsz hdf h9 h10 a
  obtain ⟨hc3, hf3⟩ := bcell hb3; have hz3_0 : w.heap.size < w3.heap.size := lt_below hb3 ltg; have hl3_0 := Nat.le_of_lt hz3_0; have hz3_1 : w.heap.size + 1 < w3.heap.size := lt_below hb3 ltg; have hl3_1 := Nat.le_of_lt hz3_1; have hz3_2 : w2.heap.size < w3.heap.size := lt_below hb3 ltg; have hl3_2 := Nat.le_of_lt hz3_2; have hA3 := bnext (w0 := w) bgo hb3; have hs3 := hA3.size; clear hb3
  obtain ⟨gv, kv, cv, rfl, hkv, hkz⟩ := hv.zero
  have hp := pow_e' he
  generalize (En : Int) = E at *
  clear hkz hkv k0 k1 k2 k3 c0 c1
  have hsm := cell_set_map
  go_wp2_with (first
    | (go_at_call 52; refine (c26 _).mono ?_; rintro x w4 ⟨v4, rfl, hn4, hb4⟩; replace hv := hv.next hb4; obtain ⟨hc4, hf4⟩ := bcell hb4; have hz4_0 : w.heap.size < w4.heap.size := lt_below hb4 ltg; have hl4_0 := Nat.le_of_lt hz4_0; have hz4_1 : w.heap.size + 1 < w4.heap.size := lt_below hb4 ltg; have hl4_1 := Nat.le_of_lt hz4_1; have hz4_2 : w2.heap.size < w4.heap.size := lt_below hb4 ltg; have hl4_2 := Nat.le_of_lt hz4_2; have hA4 := bnext (w0 := w) bgo hb4; have hs4 := hA4.size; clear hb4)
    | (go_at_call 53; refine (number_nv hn4.nv (by decide) hS9).mono ?_; rintro x w5 ⟨rfl, rfl⟩))
  go_region_with (go_at_call 28; refine (bits_nv (hv.nv.next bgo)).mono ?_; rintro x w9 ⟨rfl, hb9⟩; obtain ⟨hc9, hf9⟩ := bcell hb9; have hz9_0 : w.heap.size < w9.heap.size := lt_below hb9 ltg; have hl9_0 := Nat.le_of_lt hz9_0; have hz9_1 : w.heap.size + 1 < w9.heap.size := lt_below hb9 ltg; have hl9_1 := Nat.le_of_lt hz9_1; have hz9_2 : w2.heap.size < w9.heap.size := lt_below hb9 ltg; have hl9_2 := Nat.le_of_lt hz9_2; have hz9_3 : w5.heap.size < w9.heap.size := lt_below hb9 ltg; have hl9_3 := Nat.le_of_lt hz9_3; have hA9 := bnext (w0 := w) bgo hb9; have hs9 := hA9.size; clear hb9)
  all_goals
    go_wp2
    exact bodyPost_ret (v := .tuple #[.agg #[.int .i64 1, .bool ((S : Int) == 1), .bool false, .int .i64 l, .int .u64 (W4 Fr 0), .int .u64 (W4 Fr 1), .int .u64 (W4 Fr 2), .int .u64 (W4 Fr 3)], .int .i64 0]) (by simp only [results, Tryz.results18]; go_simp) rfl ⟨rfl, bgo⟩
end
end
section
/-- a region's operations, by its number -/
def findR (n : Nat) : Code → Option (List Oper)
  | .region i o _ => if i = n then some o.toList else none
  | .seq a b => match findR n a with | some l => some l | none => findR n b
  | .cond _ a b => match findR n a with | some l => some l | none => findR n b
  | .block _ c => findR n c
  | .loop c => findR n c
  | _ => none
abbrev iW (v : Value) : Value → World → Prop := fun x _ => x = v
section
variable {P : Program} {a : Act} {w : World} {K : Act → World → Prop} {Q : Exit → Act → World → Prop} {d p q : Nat} {ty : TypeId} {pos : String} {after : Array Edge} {gd : Option (Nat × Bool)}
theorem og_mv {v : Value} (h1 : slot a p = v) (hK : K (a.put (some d) v) w) : Oper.wp P { dst := some d, op := Op.move (Operand.tmp p), type := ty, pos := pos, after := after, guard := gd } a w K Q := by
  unfold slot at h1
  simp [go_sem, h1]
  exact hK
theorem og_as {v : Value} (h1 : slot a p = v) (hK : K (a.put (some d) v) w) : Oper.wp P { dst := some d, op := Op.assign (Operand.tmp p), type := ty, pos := pos, after := after, guard := gd } a w K Q := by
  unfold slot at h1
  simp [go_sem, h1]
  exact hK
theorem og_ld3 {g i : Nat} {v : Value} (h1 : slot a p = .pointer (some ⟨g, i, none⟩)) (h2 : w.cell? ⟨g, i, none⟩ = some v) (hK : K (a.put (some d) v) w) : Oper.wp Tryz.prog { dst := some d, op := Op.load 3 (Operand.tmp p), type := ty, pos := pos, after := after, guard := gd } a w K Q := by
  unfold slot at h1
  simp [go_sem, h1, h2]
  exact hK
theorem og_neg {x : Int} (hx : -1000000 ≤ x ∧ x ≤ 1000000) (h1 : slot a p = .int .i64 x) (hK : K (a.put (some d) (.int .i64 (-x))) w) : Oper.wp Tryz.prog { dst := some d, op := Op.unOp UnOp.neg 3 (Operand.tmp p), type := ty, pos := pos, after := after, guard := gd } a w K Q := by
  unfold slot at h1
  have e : IntKind.i64.wrap (-x) = -x := by rw [IntKind.wrap_i64]; omega
  simp [go_sem, h1, e]
  exact hK
theorem og_ldB {g i X : Nat} (h1 : slot a p = .pointer (some ⟨g, i, none⟩)) (c0 : w.cell? ⟨g, i, none⟩ = some (.int .u64 (W4 X 0))) (c1 : w.cell? ⟨g, i + 1, none⟩ = some (.int .u64 (W4 X 1))) (c2 : w.cell? ⟨g, i + 2, none⟩ = some (.int .u64 (W4 X 2))) (c3 : w.cell? ⟨g, i + 3, none⟩ = some (.int .u64 (W4 X 3))) (hK : K (a.put (some d) (A4 X)) w) : Oper.wp Tryz.prog { dst := some d, op := Op.load 24 (Operand.tmp p), type := ty, pos := pos, after := after, guard := gd } a w K Q := by
  unfold slot at h1
  simp [go_sem, h1, c0, c1, c2, c3]
  exact hK
theorem og_fad4 {g : Nat} (h1 : slot a p = .pointer (some ⟨g, 0, none⟩)) (hK : K (a.put (some d) (.pointer (some ⟨g, 4, none⟩))) w) : Oper.wp Tryz.prog { dst := some d, op := Op.fieldAddr 34 (Operand.tmp p) 4, type := ty, pos := pos, after := after, guard := gd } a w K Q := by
  unfold slot at h1
  simp [go_sem, h1]
  exact hK
end
end
section
attribute [local irreducible] W4 NT NV
section
variable (n : Int) (B : Nat) (f e Fr En S : Nat) (l m pay wd : Int) (nm : ByteArray) (w : World) (hf : 2 ≤ f ∧ f ≤ 240) (he : e ≤ 15) (hEn : En < 9223372036854775808) (hS9 : S < 9223372036854775808)
  (c24 : ∀ w, Calls Tryz.prog 51 #[.int .i64 n, A4 B] w fun x w' => x = .returned (.bool true) ∧ Below w.heap.size w w')
  (c25 : ∀ w, Calls Tryz.prog 20 #[.int .i64 n] w fun x w' => x = .returned (.tuple #[.agg #[.int .i64 n, .string nm, .int .i64 2, .int .i64 wd, .int .i64 ((f : Int) + 1), .int .i64 e, .int .i64 l, .int .i64 m, .int .i64 pay, .bool false], .int .i64 0]) ∧ Below w.heap.size w w')
  (c0 : ∀ w, Calls Tryz.prog 52 #[A4 B, .int .i64 0, .int .i64 f] w fun x w' => ∃ r, x = .returned r ∧ NT 19 Fr r w' ∧ Below w.heap.size w w')
  (c1 : ∀ w, Calls Tryz.prog 52 #[A4 B, .int .i64 f, .int .i64 e] w fun x w' => ∃ r, x = .returned r ∧ NT 19 En r w' ∧ Below w.heap.size w w')
  (c26 : ∀ w, Calls Tryz.prog 52 #[A4 B, .int .i64 ((f : Int) + e), .int .i64 1] w fun x w' => ∃ r, x = .returned r ∧ NT 19 S r w' ∧ Below w.heap.size w w')
include hf he hEn hS9 c24 c25 c0 c1 c26
set_option maxHeartbeats 2000000 in
theorem runpack_norm (hE : ((En : Int) == 2 ^ e - 1) = false) (h0 : ((En : Int) == 0) = false) (hl : -1000000 ≤ l ∧ l ≤ 0) (hEb : (En : Int) ≤ 32768) (Pw : Nat)
  (c30 : ∀ w, Calls Tryz.prog 26 #[.int .u64 2, .int .i64 f] w fun x w' => ∃ r, x = .returned r ∧ NV 50000 Pw r w' ∧ Below w.heap.size w w') :
    Calls Tryz.prog 18 #[.int .i64 n, A4 B] w fun x w' => x = .returned (.tuple #[.agg #[.int .i64 1, .bool ((S : Int) == 1), .bool false, .int .i64 (l - 1 + En), .int .u64 (W4 (Fr + Pw) 0), .int .u64 (W4 (Fr + Pw) 1), .int .u64 (W4 (Fr + Pw) 2), .int .u64 (W4 (Fr + Pw) 3)], .int .i64 0]) ∧ Below w.heap.size w w' := by
  go_enter Tryz.func18, Tryz.ntmps18
  go_wp2_with (first
    | (go_at_call 51; refine (c24 _).mono ?_; rintro x w1 ⟨rfl, hb1⟩; obtain ⟨hc1, hf1⟩ := bcell hb1; have hz1_0 : w.heap.size < w1.heap.size := lt_below hb1 ltg; have hl1_0 := Nat.le_of_lt hz1_0; have hz1_1 : w.heap.size + 1 < w1.heap.size := lt_below hb1 ltg; have hl1_1 := Nat.le_of_lt hz1_1; have hA1 := bnext (w0 := w) bgo hb1; have hs1 := hA1.size; clear hb1)
    | (go_at_call 20; refine (c25 _).mono ?_; rintro x w2 ⟨rfl, hb2⟩; obtain ⟨hc2, hf2⟩ := bcell hb2; have hz2_0 : w.heap.size < w2.heap.size := lt_below hb2 ltg; have hl2_0 := Nat.le_of_lt hz2_0; have hz2_1 : w.heap.size + 1 < w2.heap.size := lt_below hb2 ltg; have hl2_1 := Nat.le_of_lt hz2_1; have hA2 := bnext (w0 := w) bgo hb2; have hs2 := hA2.size; clear hb2))
  have k0 : w2.cell? ⟨w.heap.size, 0, none⟩ = some (.int .u64 (W4 B 0)) := (by go_simp)
  have k1 : w2.cell? ⟨w.heap.size, 1, none⟩ = some (.int .u64 (W4 B 1)) := (by go_simp)
  have k2 : w2.cell? ⟨w.heap.size, 2, none⟩ = some (.int .u64 (W4 B 2)) := (by go_simp)
  have k3 : w2.cell? ⟨w.heap.size, 3, none⟩ = some (.int .u64 (W4 B 3)) := (by go_simp)
  refine reg5 (gb := w.heap.size) (gi := w2.heap.size) (f := f) (e := e) (B := B) c0 c1 hEn rfl rfl rfl rfl (by simp; omega) (by simp) (fun i hi => ?_) (by go_simp) ?_
  · have : i = 0 ∨ i = 1 ∨ i = 2 ∨ i = 3 := by omega
    rcases this with rfl | rfl | rfl | rfl <;> go_simp
  intro a w3 v hv h9 h10 hsz hdf hF hb3
  have ha := act_of slots5 11 rfl hsz hdf hF
  rw [ha]
  simp only [slots5, List.foldl_cons, List.foldl_nil, Act.put, List.setIfInBounds_toArray, List.set_cons_succ, List.set_cons_zero, h9, h10]
  generalize slot a 25 = s25
  generalize slot a 26 = s26
  generalize slot a 27 = s27
  generalize slot a 28 = s28
  generalize slot a 29 = s29
  generalize slot a 30 = s30
  generalize slot a 31 = s31
  generalize slot a 32 = s32
  generalize slot a 33 = s33
  clear ha hF hsz hdf h9 h10 a
  obtain ⟨hc3, hf3⟩ := bcell hb3; have hz3_0 : w.heap.size < w3.heap.size := lt_below hb3 ltg; have hl3_0 := Nat.le_of_lt hz3_0; have hz3_1 : w.heap.size + 1 < w3.heap.size := lt_below hb3 ltg; have hl3_1 := Nat.le_of_lt hz3_1; have hz3_2 : w2.heap.size < w3.heap.size := lt_below hb3 ltg; have hl3_2 := Nat.le_of_lt hz3_2; have hA3 := bnext (w0 := w) bgo hb3; have hs3 := hA3.size; clear hb3
  obtain ⟨gv, kv, cv, rfl, hkv, hkz⟩ := hv.zero
  have hp := pow_e' he
  have hE0 : (0 : Int) ≤ En := by omega
  clear hkz hkv k0 k1 k2 k3 c0 c1
  have hsm := cell_set_map
  go_wp2_with (first
    | (go_at_call 52; refine (c26 _).mono ?_; rintro x w4 ⟨v4, rfl, hn4, hb4⟩; replace hv := hv.next hb4; obtain ⟨hc4, hf4⟩ := bcell hb4; have hz4_0 : w.heap.size < w4.heap.size := lt_below hb4 ltg; have hl4_0 := Nat.le_of_lt hz4_0; have hz4_1 : w.heap.size + 1 < w4.heap.size := lt_below hb4 ltg; have hl4_1 := Nat.le_of_lt hz4_1; have hz4_2 : w2.heap.size < w4.heap.size := lt_below hb4 ltg; have hl4_2 := Nat.le_of_lt hz4_2; have hA4 := bnext (w0 := w) bgo hb4; have hs4 := hA4.size; clear hb4)
    | (go_at_call 53; refine (number_nv hn4.nv (by decide) hS9).mono ?_; rintro x w5 ⟨rfl, rfl⟩))
  go_region_with (first
    | (go_at_call 26; refine (c30 _).mono ?_; rintro x w6 ⟨v6, rfl, hn6, hb6⟩; replace hv := hv.next (bnext bgo hb6); obtain ⟨hc6, hf6⟩ := bcell hb6; have hz6_0 : w.heap.size < w6.heap.size := lt_below hb6 ltg; have hl6_0 := Nat.le_of_lt hz6_0; have hz6_1 : w.heap.size + 1 < w6.heap.size := lt_below hb6 ltg; have hl6_1 := Nat.le_of_lt hz6_1; have hz6_2 : w2.heap.size < w6.heap.size := lt_below hb6 ltg; have hl6_2 := Nat.le_of_lt hz6_2; have hz6_3 : w5.heap.size < w6.heap.size := lt_below hb6 ltg; have hl6_3 := Nat.le_of_lt hz6_3; have hA6 := bnext (w0 := w) bgo hb6; have hs6 := hA6.size; clear hb6)
    | (go_at_call 21; refine (radd_nv (by decide) (by decide) hv.nv hn6).mono ?_; rintro x w7 ⟨v7, rfl, hn7, hb7⟩; obtain ⟨hc7, hf7⟩ := bcell hb7; have hz7_0 : w.heap.size < w7.heap.size := lt_below hb7 ltg; have hl7_0 := Nat.le_of_lt hz7_0; have hz7_1 : w.heap.size + 1 < w7.heap.size := lt_below hb7 ltg; have hl7_1 := Nat.le_of_lt hz7_1; have hz7_2 : w2.heap.size < w7.heap.size := lt_below hb7 ltg; have hl7_2 := Nat.le_of_lt hz7_2; have hz7_3 : w5.heap.size < w7.heap.size := lt_below hb7 ltg; have hl7_3 := Nat.le_of_lt hz7_3; have hA7 := bnext (w0 := w) bgo hb7; have hs7 := hA7.size; clear hb7)
    | (go_at_call 28; refine (bits_nv hn7).mono ?_; rintro x w9 ⟨rfl, hb9⟩; obtain ⟨hc9, hf9⟩ := bcell hb9; have hz9_0 : w.heap.size < w9.heap.size := lt_below hb9 ltg; have hl9_0 := Nat.le_of_lt hz9_0; have hz9_1 : w.heap.size + 1 < w9.heap.size := lt_below hb9 ltg; have hl9_1 := Nat.le_of_lt hz9_1; have hz9_2 : w2.heap.size < w9.heap.size := lt_below hb9 ltg; have hl9_2 := Nat.le_of_lt hz9_2; have hz9_3 : w5.heap.size < w9.heap.size := lt_below hb9 ltg; have hl9_3 := Nat.le_of_lt hz9_3; have hA9 := bnext (w0 := w) bgo hb9; have hs9 := hA9.size; clear hb9))
  all_goals
    go_wp2
    exact bodyPost_ret (v := .tuple #[.agg #[.int .i64 1, .bool ((S : Int) == 1), .bool false, .int .i64 (l - 1 + En), .int .u64 (W4 (Fr + Pw) 0), .int .u64 (W4 (Fr + Pw) 1), .int .u64 (W4 (Fr + Pw) 2), .int .u64 (W4 (Fr + Pw) 3)], .int .i64 0]) (by simp only [results, Tryz.results18]; go_simp) rfl ⟨rfl, bgo⟩
end
theorem rpow_nv (f : Nat) (w : World) (hf : f ≤ 12000) : Calls Tryz.prog 26 #[.int .u64 2, .int .i64 f] w fun x w' => ∃ r, x = .returned r ∧ NV 50000 (2 ^ f) r w' ∧ Below w.heap.size w w' := by
  refine (rpow_any 2 f w (by decide) (by omega)).mono ?_
  rintro x w' ⟨g, k, cap, z, rfl, hk, hN, hv, hb⟩
  refine ⟨_, rfl, ?_, hb⟩
  unfold NV
  exact ⟨g, k, cap, z, rfl, by omega, hN, by rw [hv]; simp⟩
theorem bin_more {n : Int} (h : binN n) : numN n = n ∧ denseN n = false := by
  rcases bin_cases h with rfl | rfl | rfl | rfl | rfl | rfl <;> exact ⟨by decide, by decide⟩
theorem runpack_ok (n : Int) (B : Nat) (w : World) (hB : B < 2 ^ 256) (h : goodN n B) :
    Calls Tryz.prog 18 #[.int .i64 n, A4 B] w fun x w' => x = .returned (.tuple #[(unp (fN n) (eN n) (leastN n) B).v, .int .i64 0]) ∧ Below w.heap.size w w' := by
  have hF := bin_fm h.1
  obtain ⟨hok, hb2, hpr, hex, hwd, hpy⟩ := bin_fields h.1
  obtain ⟨hnum, hden⟩ := bin_more h.1
  have c24 := fun w => rgood_any n B hB w
  rw [decide_eq_true h] at c24
  have c25 := fun w => rofv_any n w
  rw [show infoE n = 0 from if_pos hok, hnum, hb2, hpr, hex, hden] at c25
  have hf : 2 ≤ fN n ∧ fN n ≤ 240 := ⟨hF.f2, hF.f240⟩
  have he := hF.e15
  have hfe := hF.fe
  have hp := pow_e hF.e2 hF.e15
  have hpc : ((2 : Int) ^ eN n) = ((2 ^ eN n : Nat) : Int) := by simp
  have hEl : B / 2 ^ fN n % 2 ^ eN n < 2 ^ eN n := Nat.mod_lt _ (Nat.two_pow_pos _)
  have c0 := fun w => field_any B 0 (fN n) w hB (by decide) (by omega)
  rw [show ((0 : Nat) : Int) = 0 from rfl, Nat.pow_zero, Nat.div_one] at c0
  have c1 := fun w => field_any B (fN n) (eN n) w hB (by omega) (by omega)
  have c26 := fun w => field_any B (fN n + eN n) 1 w hB (by omega) (by omega)
  rw [Int.natCast_add, show ((1 : Nat) : Int) = 1 from rfl, Nat.pow_one] at c26
  have hS9 : B / 2 ^ (fN n + eN n) % 2 < 9223372036854775808 := by omega
  have hEn : B / 2 ^ fN n % 2 ^ eN n < 9223372036854775808 := by rw [hpc] at hp; omega
  unfold unp
  by_cases h1 : B / 2 ^ fN n % 2 ^ eN n = 2 ^ eN n - 1
  · rw [if_pos h1]
    have hE : (((B / 2 ^ fN n % 2 ^ eN n : Nat) : Int) == 2 ^ eN n - 1) = true := by
      rw [hpc] at hp ⊢; rw [h1]; simp; omega
    unfold spc
    by_cases h2 : B % 2 ^ fN n = 0
    · rw [if_pos h2]
      have := runpack_inf n B (fN n) (eN n) _ _ _ _ _ _ _ _ w hf he hEn hS9 c24 c25 c0 c1 c26 hE h2
      have e : (Dat.mk 2 (sgB (fN n) (eN n) B) false 0 0).v = .agg #[.int .i64 2, .bool (((B / 2 ^ (fN n + eN n) % 2 : Nat) : Int) == 1), .bool false, .int .i64 0, .int .u64 0, .int .u64 0, .int .u64 0, .int .u64 0] := by
        unfold Dat.v DV sgB; simp only [W4_zero]
      rw [e]; exact this
    · rw [if_neg h2]
      have c26b := fun w => field_any B (fN n - 1) 1 w hB (by omega) (by omega)
      rw [show ((fN n - 1 : Nat) : Int) = (fN n : Int) - 1 by omega, show ((1 : Nat) : Int) = 1 from rfl, Nat.pow_one] at c26b
      have c26c := fun w => field_any B 0 (fN n - 1) w hB (by omega) (by omega)
      rw [show ((fN n - 1 : Nat) : Int) = (fN n : Int) - 1 by omega, show ((0 : Nat) : Int) = 0 from rfl, Nat.pow_zero, Nat.div_one] at c26c
      have := runpack_nan n B (fN n) (eN n) _ _ _ _ _ _ _ _ w hf he hEn hS9 c24 c25 c0 c1 c26 hE h2 _ _ (by omega) c26b c26c
      have hm : B % 2 ^ fN n = B % 2 ^ (fN n - 1) + 2 ^ (fN n - 1) * (B / 2 ^ (fN n - 1) % 2) := by
        have : 2 ^ fN n = 2 ^ (fN n - 1) * 2 := by rw [← Nat.pow_succ]; congr 1; omega
        rw [this]; exact Nat.mod_mul
      have hpl : B % 2 ^ (fN n - 1) < 2 ^ (fN n - 1) := Nat.mod_lt _ (Nat.two_pow_pos _)
      have e : (if B % 2 ^ fN n < 2 ^ (fN n - 1) then (Dat.mk 3 (sgB (fN n) (eN n) B) true 0 (B % 2 ^ fN n)) else ⟨3, sgB (fN n) (eN n) B, false, 0, B % 2 ^ fN n - 2 ^ (fN n - 1)⟩) = ⟨3, sgB (fN n) (eN n) B, (((B / 2 ^ (fN n - 1) % 2 : Nat) : Int) == 0), 0, B % 2 ^ (fN n - 1)⟩ := by
        have h01 : B / 2 ^ (fN n - 1) % 2 = 0 ∨ B / 2 ^ (fN n - 1) % 2 = 1 := by omega
        rcases h01 with h0 | h0
        · rw [h0, Nat.mul_zero, Nat.add_zero] at hm
          rw [if_pos (by omega), hm, h0]; rfl
        · rw [h0, Nat.mul_one] at hm
          rw [if_neg (by omega), h0, show B % 2 ^ fN n - 2 ^ (fN n - 1) = B % 2 ^ (fN n - 1) by omega]; rfl
      rw [e]
      exact this
  · rw [if_neg h1]
    have hE : (((B / 2 ^ fN n % 2 ^ eN n : Nat) : Int) == 2 ^ eN n - 1) = false := by
      rw [hpc] at hp ⊢; rw [beq_eq_false_iff_ne]; omega
    by_cases h2 : B / 2 ^ fN n % 2 ^ eN n = 0
    · rw [if_pos h2]
      exact runpack_sub n B (fN n) (eN n) _ _ _ _ _ _ _ _ w hf he hEn hS9 c24 c25 c0 c1 c26 hE (by omega)
    · rw [if_neg h2]
      have := runpack_norm n B (fN n) (eN n) _ _ _ _ _ _ _ _ w hf he hEn hS9 c24 c25 c0 c1 c26 hE (by rw [beq_eq_false_iff_ne]; omega) ⟨hF.l1, hF.l0⟩ (by rw [hpc] at hp; omega) (2 ^ fN n) (fun w => rpow_nv (fN n) w (by omega))
      rw [show leastN n - 1 + ((B / 2 ^ fN n % 2 ^ eN n : Nat) : Int) = leastN n + ((B / 2 ^ fN n % 2 ^ eN n : Nat) - 1 : Int) by omega] at this
      exact this
theorem runpack_any (n : Int) (B : Nat) (w : World) (hB : B < 2 ^ 256) :
    Calls Tryz.prog 18 #[.int .i64 n, A4 B] w fun x w' => x = .returned (.tuple #[(unD n B).v, .int .i64 (unE n B)]) ∧ Below w.heap.size w w' := by
  unfold unD unE
  by_cases h : goodN n B
  · rw [if_pos h, if_pos h]; exact runpack_ok n B w hB h
  · rw [if_neg h, if_neg h]; exact runpack_bad n B w hB h
end
end Go.Proofs.YtgknbdehlmlipaaGreatDoor
