/-
  Texts that the proof leans on.
-/
import Derived.Test.YtgknbdehlmlipaaGreatDoorR21
import Derived.Test.YtgknbdehlmlipaaGreatDoorR34
import Derived.Test.YtgknbdehlmlipaaGreatDoorR22
import Derived.Test.YtgknbdehlmlipaaGreatDoorR6
import Derived.Test.YtgknbdehlmlipaaGreatDoorR35
import Derived.Test.YtgknbdehlmlipaaGreatDoorR9
set_option linter.unusedVariables false
set_option linter.unusedSectionVars false
set_option linter.unusedSimpArgs false
set_option maxRecDepth 20000
namespace Go.Proofs.YtgknbdehlmlipaaGreatDoor
open Go.RowKit
section
/-- an operand: a datum and its format's base -/
abbrev OV (c : Int) (s g : Bool) (x : Int) (k : Nat) (b : Int) : Value := .agg #[.int .i64 c, .bool s, .bool g, .int .i64 x, .int .u64 (W4 k 0), .int .u64 (W4 k 1), .int .u64 (W4 k 2), .int .u64 (W4 k 3), .int .i64 b]
abbrev OCs (c : Int) (s g : Bool) (x : Int) (k : Nat) (b : Int) : Array Value := #[.int .i64 c, .bool s, .bool g, .int .i64 x, .int .u64 (W4 k 0), .int .u64 (W4 k 1), .int .u64 (W4 k 2), .int .u64 (W4 k 3), .int .i64 b]
/-- four words in a block, as a slice -/
theorem nt_off {w : World} {h o k : Nat} (hk : k < 2 ^ 256) (hlt : h < w.heap.size) (hc : ∀ i, i < 4 → w.cell? ⟨h, o + i, none⟩ = some (.int .u64 (W4 k i))) :
    Nt 4 k (.slice (some ⟨h, o, none⟩) 4 4) w := by
  refine ⟨_, 4, 4, lowW (W4 k) 4, rfl, Nat.le_refl _, ⟨Nat.le_refl _, by unfold maxLen; omega, ?_, ?_, Or.inr ⟨h, o, rfl, hlt, ?_⟩⟩, ?_⟩
  · intro i
    by_cases hi : i < 4
    · rw [lowW_lt hi]; exact W4_words k i
    · rw [show lowW (W4 k) 4 i = 0 from if_neg hi]; exact ⟨Int.le_refl _, by decide⟩
  · intro i hi
    exact if_neg (by omega)
  · intro i hi
    rw [lowW_lt hi, hc i hi]
  · rw [val_congr (x := lowW (W4 k) 4) (y := W4 k) 4 (fun i hi => lowW_lt hi), W4_val4 hk]
theorem op_new {w0 w : World} {c x b : Int} {s g : Bool} {k : Nat} {t : TypeId} (hk : k < 2 ^ 256) (hb : Below (w0.alloc (.cells (OCs c s g x k b) t)).heap.size (w0.alloc (.cells (OCs c s g x k b) t)) w) :
    Nt 4 k (.slice (some ⟨w0.heap.size, 4, none⟩) 4 4) w := by
  have hs : w0.heap.size < (w0.alloc (.cells (OCs c s g x k b) t)).heap.size := by simp
  refine nt_off hk (Nat.lt_of_lt_of_le hs hb.size) fun i hi => ?_
  rw [hb.cell (p := ⟨w0.heap.size, 4 + i, none⟩) hs, World.cell?_alloc_new]
  have : i = 0 ∨ i = 1 ∨ i = 2 ∨ i = 3 := by omega
  rcases this with rfl | rfl | rfl | rfl <;> rfl
theorem b4_new {w0 w : World} {k : Nat} {t : TypeId} (hk : k < 2 ^ 256) (hb : Below (w0.alloc (.cells #[.int .u64 (W4 k 0), .int .u64 (W4 k 1), .int .u64 (W4 k 2), .int .u64 (W4 k 3)] t)).heap.size (w0.alloc (.cells #[.int .u64 (W4 k 0), .int .u64 (W4 k 1), .int .u64 (W4 k 2), .int .u64 (W4 k 3)] t)) w) :
    Nt 4 k (.slice (some ⟨w0.heap.size, 0, none⟩) 4 4) w := by
  have hs : w0.heap.size < (w0.alloc (.cells #[.int .u64 (W4 k 0), .int .u64 (W4 k 1), .int .u64 (W4 k 2), .int .u64 (W4 k 3)] t)).heap.size := by simp
  refine nt_off hk (Nat.lt_of_lt_of_le hs hb.size) fun i hi => ?_
  rw [hb.cell (p := ⟨w0.heap.size, 0 + i, none⟩) hs, World.cell?_alloc_new]
  have : i = 0 ∨ i = 1 ∨ i = 2 ∨ i = 3 := by omega
  rcases this with rfl | rfl | rfl | rfl <;> rfl
attribute [local irreducible] W4 Nt Nz NT
section
variable (c x b : Int) (s g : Bool) (k : Nat) (hk : k < 2 ^ 256) (w : World)
include hk
set_option maxHeartbeats 1000000 in
theorem ont_v : Calls Tryz.prog 31 #[OV c s g x k b] w fun r w' => r = .returned (.bool (decide (c = 1 ∧ k = 0))) ∧ Below w.heap.size w w' := by
  have hb0 := op_new (w0 := w) (w := w.alloc (.cells (OCs c s g x k b) 60)) (c := c) (s := s) (g := g) (x := x) (b := b) (t := 60) hk (Below.refl _ _)
  have hln := nlen_v (by decide) hb0
  have hd : (((bl k : Nat) : Int) == 0) = decide (k = 0) := by
    by_cases h : k = 0
    · subst h; rfl
    · rw [decide_eq_false h]; have := mt bl_zero.1 h; simp; omega
  have hsm := cell_set_map
  by_cases hc : c = 1
  · subst hc
    have e : decide ((1 : Int) = 1 ∧ k = 0) = decide (k = 0) := by simp
    rw [e]
    clear e
    go_enter Tryz.func31, Tryz.ntmps31
    go_wp2_with (go_at_call 71; refine hln.mono ?_; rintro r w1 ⟨rfl, rfl⟩)
    go_ret
    exact ⟨by first | rfl | simp, bgo⟩
  · have h1 : (c == 1) = false := by simpa using hc
    have e : decide (c = 1 ∧ k = 0) = false := by simp [hc]
    rw [e]
    clear e
    go_enter Tryz.func31, Tryz.ntmps31
    go_wp2
    go_ret
    exact ⟨by first | rfl | simp, bgo⟩
set_option maxHeartbeats 2000000 in
theorem reach_2 (hx : -20000 ≤ x ∧ x ≤ 20000) : Calls Tryz.prog 74 #[OV c s g x k 2] w fun r w' => r = .returned (.tuple #[.int .i64 (rcL 2 x k), .int .i64 (rcU 2 x k)]) ∧ Below w.heap.size w w' := by
  have hbl := bl_le.2 hk
  have hsm := cell_set_map
  have e1 : rcL 2 x k = 1000 * ((bl k : Int) - 1) + 1000 * x := rfl
  have e2 : rcU 2 x k = 1000 * (bl k : Int) + 1000 * x := rfl
  rw [e1, e2]
  clear e1 e2
  go_enter Tryz.func74, Tryz.ntmps74
  go_wp2
  refine wp_whole (by kernel_rfl) (by kernel_rfl) fun hne hcell => ?_
  repeat go_big_quiet_step (fail)
  refine wpQuiet_nil fun w1 hb1 => ?_
  have hb0 := op_new (w0 := w) (w := w1) (c := c) (s := s) (g := g) (x := x) (b := 2) (t := 60) hk hb1
  obtain ⟨hc1, hf1⟩ := bcell hb1; have hz1_0 : w.heap.size < w1.heap.size := lt_below hb1 ltg; have hl1_0 := Nat.le_of_lt hz1_0; have hA1 := bnext (w0 := w) bgo hb1; have hs1 := hA1.size; clear hb1
  go_wp2_with (go_at_call 71; refine (nlen_v (by decide) hb0).mono ?_; rintro r w2 ⟨rfl, rfl⟩)
  exact bodyPost_ret (v := .tuple #[.int .i64 (1000 * ((bl k : Int) - 1) + 1000 * x), .int .i64 (1000 * (bl k : Int) + 1000 * x)]) (by simp only [results, Tryz.results74]; go_simp) rfl ⟨rfl, bgo⟩
set_option maxHeartbeats 2000000 in
theorem reach_10 (hx : -10000 ≤ x ∧ x ≤ 10000) : Calls Tryz.prog 74 #[OV c s g x k 10] w fun r w' => r = .returned (.tuple #[.int .i64 (rcL 10 x k), .int .i64 (rcU 10 x k)]) ∧ Below w.heap.size w w' := by
  have hbl := bl_le.2 hk
  have hsm := cell_set_map
  have e1 : rcL 10 x k = 1000 * ((bl k : Int) - 1) + min (3321 * x) (3322 * x) := rfl
  have e2 : rcU 10 x k = 1000 * (bl k : Int) + max (3321 * x) (3322 * x) := rfl
  rw [e1, e2]
  clear e1 e2
  go_enter Tryz.func74, Tryz.ntmps74
  go_wp2
  refine wp_whole (by kernel_rfl) (by kernel_rfl) fun hne hcell => ?_
  repeat go_big_quiet_step (fail)
  refine wpQuiet_nil fun w1 hb1 => ?_
  have hq0 := op_new (w0 := w) (w := w1) (c := c) (s := s) (g := g) (x := x) (b := 10) (t := 60) hk hb1
  obtain ⟨hc1, hf1⟩ := bcell hb1; have hz1_0 : w.heap.size < w1.heap.size := lt_below hb1 ltg; have hl1_0 := Nat.le_of_lt hz1_0; have hA1 := bnext (w0 := w) bgo hb1; have hs1 := hA1.size; clear hb1
  go_wp2
  refine wp_whole (by kernel_rfl) (by kernel_rfl) fun hne hcell => ?_
  repeat go_big_quiet_step (fail)
  refine wpQuiet_nil fun w3 hb3 => ?_
  have hb0 := hq0.next hb3
  obtain ⟨hc3, hf3⟩ := bcell hb3; have hz3_0 : w.heap.size < w3.heap.size := lt_below hb3 ltg; have hl3_0 := Nat.le_of_lt hz3_0; have hA3 := bnext (w0 := w) bgo hb3; have hs3 := hA3.size; clear hb3
  go_wp2_with (go_at_call 71; refine (nlen_v (by decide) hb0).mono ?_; rintro r w2 ⟨rfl, rfl⟩)
  exact bodyPost_ret (v := .tuple #[.int .i64 (1000 * ((bl k : Int) - 1) + min (3321 * x) (3322 * x)), .int .i64 (1000 * (bl k : Int) + max (3321 * x) (3322 * x))]) (by simp only [results, Tryz.results74]; go_simp) rfl ⟨rfl, bgo⟩
set_option maxHeartbeats 1000000 in
theorem fives_2 : Calls Tryz.prog 106 #[OV c s g x k 2] w fun r w' => r = .returned (.int .i64 (fvE 2 x)) ∧ Below w.heap.size w w' := by
  have hsm := cell_set_map
  rw [show fvE 2 x = 0 from rfl]
  go_enter Tryz.func106, Tryz.ntmps106
  go_wp2
  go_ret
  exact ⟨by first | rfl | simp, bgo⟩
set_option maxHeartbeats 1000000 in
theorem fives_10 : Calls Tryz.prog 106 #[OV c s g x k 10] w fun r w' => r = .returned (.int .i64 (fvE 10 x)) ∧ Below w.heap.size w w' := by
  have hsm := cell_set_map
  rw [show fvE 10 x = x from rfl]
  go_enter Tryz.func106, Tryz.ntmps106
  go_wp2
  go_ret
  exact ⟨by first | rfl | simp, bgo⟩
end
end
section
/-- two integers in a slice of their own -/
def TwI (Z C : Int) (v : Value) (w : World) : Prop := ∃ g, v = .slice (some ⟨g, 0, none⟩) 2 2 ∧ g < w.heap.size ∧ w.cell? ⟨g, 0, none⟩ = some (.int .i64 Z) ∧ w.cell? ⟨g, 1, none⟩ = some (.int .i64 C)
theorem TwI.next {Z C : Int} {v : Value} {w w' : World} (h : TwI Z C v w) (hb : Below w.heap.size w w') : TwI Z C v w' := by
  obtain ⟨g, h1, h2, h3, h4⟩ := h
  exact ⟨g, h1, Nat.lt_of_lt_of_le h2 hb.size, (hb.cell (p := ⟨g, 0, none⟩) h2).trans h3, (hb.cell (p := ⟨g, 1, none⟩) h2).trans h4⟩
theorem TwI.new {Z C : Int} (w : World) : TwI Z C (.slice (some ⟨w.heap.size, 0, none⟩) 2 2) (w.alloc (.cells #[.int .i64 Z, .int .i64 C] 3)) :=
  ⟨w.heap.size, rfl, by simp, by go_simp, by go_simp⟩
attribute [local irreducible] W4 Nt Nz NT TwI
section
variable {a : Act} {w : World} {K : Act → World → Prop} {Q : Exit → Act → World → Prop} {d p q : Nat} {ty : TypeId} {pos : String} {after : Array Edge} {gd : Option (Nat × Bool)}
theorem or_fa0 {g : Nat} (h1 : slot a p = .pointer (some ⟨g, 0, none⟩)) (hK : K (a.put (some d) (.pointer (some ⟨g, 0, none⟩))) w) : Oper.wp Tryz.prog { dst := some d, op := Op.fieldAddr 60 (Operand.tmp p) 0, type := ty, pos := pos, after := after, guard := gd } a w K Q := by
  unfold slot at h1
  simp [go_sem, h1]
  exact hK
theorem or_ldO {h : Nat} {c x b : Int} {s g : Bool} {k : Nat} (h1 : slot a p = .pointer (some ⟨h, 0, none⟩)) (c0 : w.cell? ⟨h, 0, none⟩ = some (.int .i64 c)) (c1 : w.cell? ⟨h, 1, none⟩ = some (.bool s)) (c2 : w.cell? ⟨h, 2, none⟩ = some (.bool g)) (c3 : w.cell? ⟨h, 3, none⟩ = some (.int .i64 x)) (c4 : w.cell? ⟨h, 4, none⟩ = some (.int .u64 (W4 k 0))) (c5 : w.cell? ⟨h, 5, none⟩ = some (.int .u64 (W4 k 1))) (c6 : w.cell? ⟨h, 6, none⟩ = some (.int .u64 (W4 k 2))) (c7 : w.cell? ⟨h, 7, none⟩ = some (.int .u64 (W4 k 3))) (c8 : w.cell? ⟨h, 8, none⟩ = some (.int .i64 b)) (hK : K (a.put (some d) (OV c s g x k b)) w) : Oper.wp Tryz.prog { dst := some d, op := Op.load 60 (Operand.tmp p), type := ty, pos := pos, after := after, guard := gd } a w K Q := by
  unfold slot at h1
  simp [go_sem, h1, c0, c1, c2, c3, c4, c5, c6, c7, c8]
  exact hK
theorem or_c3 {F : Nat} {p0 p1 p2 : Nat} {u0 u1 u2 : Value} {ts : Array TypeId} (hr : Sem.run Tryz.prog (callFunc F #[u0, u1, u2]) w = .ok (.enter F #[u0, u1, u2]) w) (h0 : slot a p0 = u0) (h1 : slot a p1 = u1) (h2 : slot a p2 = u2) (hc : Calls Tryz.prog F #[u0, u1, u2] w fun e w' => ∃ v, e = .returned v ∧ K (a.put (some d) v) w') : Oper.wp Tryz.prog { dst := some d, op := Op.call { callee := Callee.value (Operand.func F), args := #[Operand.tmp p0, Operand.tmp p1, Operand.tmp p2], argTypes := ts }, type := ty, pos := pos, after := after, guard := gd } a w K Q := by
  unfold slot at h0 h1 h2
  simp [go_sem, h0, h1, h2, hr]
  refine hc.mono ?_
  rintro e w' ⟨v, rfl, hK⟩
  exact hK
end
noncomputable def opsNr2 : List Oper := (Tryz.f75.body.bind (findR 2)).getD []
def slotsNr2 : List Nat := [19, 20, 21, 22, 23, 24, 25, 26, 27, 28, 29, 30, 31, 32, 33]
def slotsANr2 : List Nat := [19, 20, 21, 22, 23, 24, 25, 26, 27, 28, 29, 30, 31, 32, 33, 4]
set_option maxHeartbeats 8000000 in
theorem regNr2 {h j k k' T T' : Nat} {D G R : Int} (hD : -1000000 ≤ D ∧ D ≤ 1000000) (hG : -1000000 ≤ G ∧ G ≤ 1000000) {a0 : Act} {ws : World} {Q : Exit → Act → World → Prop} (hP : ∀ c a d v w, Q (.panic c) (Act.put a d v) w → Q (.panic c) a w) (hs : a0.tmps.size = 34)
    (g2 : slot a0 2 = .pointer (some ⟨h, 0, none⟩))
    (g3 : slot a0 3 = .pointer (some ⟨j, 0, none⟩))
    (g5 : slot a0 5 = .int .i64 D)
    (g6 : slot a0 6 = .int .i64 G)
    (lh : h < ws.heap.size) (kh4 : ws.cell? ⟨h, 4, none⟩ = some (.int .u64 (W4 k 0))) (kh5 : ws.cell? ⟨h, 5, none⟩ = some (.int .u64 (W4 k 1))) (kh6 : ws.cell? ⟨h, 6, none⟩ = some (.int .u64 (W4 k 2))) (kh7 : ws.cell? ⟨h, 7, none⟩ = some (.int .u64 (W4 k 3)))
    (lj : j < ws.heap.size) (kj4 : ws.cell? ⟨j, 4, none⟩ = some (.int .u64 (W4 k' 0))) (kj5 : ws.cell? ⟨j, 5, none⟩ = some (.int .u64 (W4 k' 1))) (kj6 : ws.cell? ⟨j, 6, none⟩ = some (.int .u64 (W4 k' 2))) (kj7 : ws.cell? ⟨j, 7, none⟩ = some (.int .u64 (W4 k' 3)))
    (c1 : ∀ W, Calls Tryz.prog 107 #[A4 k, .int .i64 D, .int .i64 G] W fun r w' => ∃ q, r = .returned q ∧ NT 2001 T q w' ∧ Below W.heap.size W w')
    (c2 : ∀ W, Calls Tryz.prog 107 #[A4 k', .int .i64 (-D), .int .i64 (-G)] W fun r w' => ∃ q, r = .returned q ∧ NT 2001 T' q w' ∧ Below W.heap.size W w')
    (c3 : ∀ W v v', NT 2001 T v W → NT 2001 T' v' W → Calls Tryz.prog 73 #[v, v'] W fun r w' => r = .returned (.int .i64 R) ∧ Below W.heap.size W w')
    (hQ : ∀ (a : Act) (w : World), slot a 4 = .int .i64 R → a.tmps.size = 34 → a.defers = a0.defers → (∀ t, (∀ i, i < 16 → slotsANr2.getD i 0 ≠ t) → slot a t = slot a0 t) → Below ws.heap.size ws w → Q .normal a w) :
    (Code.region 2 opsNr2.toArray true).wp Tryz.prog Q a0 ws := by
  refine wp_region_memr 15 34 slotsNr2 [iW (.pointer (some ⟨h, 0, none⟩)), iW (.pointer (some ⟨h, 4, none⟩)), iW (A4 k), iW (.int .i64 D), iW (.int .i64 G), NT 2001 T, iW (.pointer (some ⟨j, 0, none⟩)), iW (.pointer (some ⟨j, 4, none⟩)), iW (A4 k'), iW (.int .i64 D), iW (.int .i64 (-D)), iW (.int .i64 G), iW (.int .i64 (-G)), NT 2001 T', iW (.int .i64 R)] (fun w w' => Below w.heap.size w w') (fun L f w => Below ws.heap.size ws w) (by kernel_rfl) (by kernel_rfl) hP (by kernel_rfl) hs ?_ (Below.refl _ _).drew ?_ ?_
  · intro p hp
    simp only [List.mem_cons, List.not_mem_nil, or_false] at hp
    rcases hp with rfl | rfl | rfl | rfl | rfl | rfl | rfl | rfl | rfl | rfl | rfl | rfl | rfl | rfl | rfl
    all_goals first | exact fun _ _ _ h _ => h | exact fun _ _ _ h hb => h.next hb
  · intro L i o a w hi ho hL hcl he hM hF hv
    have f2 : slot a 2 = .pointer (some ⟨h, 0, none⟩) := (hF 2 (by decide)).trans g2
    have f3 : slot a 3 = .pointer (some ⟨j, 0, none⟩) := (hF 3 (by decide)).trans g3
    have f5 : slot a 5 = .int .i64 D := (hF 5 (by decide)).trans g5
    have f6 : slot a 6 = .int .i64 G := (hF 6 (by decide)).trans g6
    have qh4 : w.cell? ⟨h, 4, none⟩ = some (.int .u64 (W4 k 0)) := (hM.cell (p := ⟨h, 4, none⟩) lh).trans kh4
    have qh5 : w.cell? ⟨h, 5, none⟩ = some (.int .u64 (W4 k 1)) := (hM.cell (p := ⟨h, 5, none⟩) lh).trans kh5
    have qh6 : w.cell? ⟨h, 6, none⟩ = some (.int .u64 (W4 k 2)) := (hM.cell (p := ⟨h, 6, none⟩) lh).trans kh6
    have qh7 : w.cell? ⟨h, 7, none⟩ = some (.int .u64 (W4 k 3)) := (hM.cell (p := ⟨h, 7, none⟩) lh).trans kh7
    have qj4 : w.cell? ⟨j, 4, none⟩ = some (.int .u64 (W4 k' 0)) := (hM.cell (p := ⟨j, 4, none⟩) lj).trans kj4
    have qj5 : w.cell? ⟨j, 5, none⟩ = some (.int .u64 (W4 k' 1)) := (hM.cell (p := ⟨j, 5, none⟩) lj).trans kj5
    have qj6 : w.cell? ⟨j, 6, none⟩ = some (.int .u64 (W4 k' 2)) := (hM.cell (p := ⟨j, 6, none⟩) lj).trans kj6
    have qj7 : w.cell? ⟨j, 7, none⟩ = some (.int .u64 (W4 k' 3)) := (hM.cell (p := ⟨j, 7, none⟩) lj).trans kj7
    have hor : i = 0 ∨ i = 1 ∨ i = 2 ∨ i = 3 ∨ i = 4 ∨ i = 5 ∨ i = 6 ∨ i = 7 ∨ i = 8 ∨ i = 9 ∨ i = 10 ∨ i = 11 ∨ i = 12 ∨ i = 13 ∨ i = 14 := by omega
    rcases hor with rfl | rfl | rfl | rfl | rfl | rfl | rfl | rfl | rfl | rfl | rfl | rfl | rfl | rfl | rfl
    · obtain rfl := Option.some.inj (show opsNr2[0]? = some o from ho)
      exact or_fa0 f2 ⟨_, rfl, rfl, Below.refl _ _, hM⟩
    · obtain rfl := Option.some.inj (show opsNr2[1]? = some o from ho)
      exact og_fad4 (hv 0 (by decide) rfl (he ⟨0, .data⟩ (by simp) rfl) : slot a 19 = .pointer (some ⟨h, 0, none⟩)) ⟨_, rfl, rfl, Below.refl _ _, hM⟩
    · obtain rfl := Option.some.inj (show opsNr2[2]? = some o from ho)
      exact og_ldB (i := 4) (hv 1 (by decide) rfl (he ⟨1, .data⟩ (by simp) rfl) : slot a 20 = .pointer (some ⟨h, 4, none⟩)) qh4 qh5 qh6 qh7 ⟨_, rfl, rfl, Below.refl _ _, hM⟩
    · obtain rfl := Option.some.inj (show opsNr2[3]? = some o from ho)
      exact og_mv f5 ⟨_, rfl, rfl, Below.refl _ _, hM⟩
    · obtain rfl := Option.some.inj (show opsNr2[4]? = some o from ho)
      exact og_mv f6 ⟨_, rfl, rfl, Below.refl _ _, hM⟩
    · obtain rfl := Option.some.inj (show opsNr2[5]? = some o from ho)
      refine or_c3 (by simp [go_sem]) (hv 2 (by decide) rfl (he ⟨2, .data⟩ (by simp) rfl) : slot a 21 = A4 k) (hv 3 (by decide) rfl (he ⟨3, .data⟩ (by simp) rfl) : slot a 22 = .int .i64 D) (hv 4 (by decide) rfl (he ⟨4, .data⟩ (by simp) rfl) : slot a 23 = .int .i64 G) ((c1 w).mono ?_)
      rintro e w' ⟨v, rfl, hSv, hb⟩
      exact ⟨v, rfl, _, rfl, hSv, hb, bnx hM hb⟩
    · obtain rfl := Option.some.inj (show opsNr2[6]? = some o from ho)
      exact or_fa0 f3 ⟨_, rfl, rfl, Below.refl _ _, hM⟩
    · obtain rfl := Option.some.inj (show opsNr2[7]? = some o from ho)
      exact og_fad4 (hv 6 (by decide) rfl (he ⟨6, .data⟩ (by simp) rfl) : slot a 25 = .pointer (some ⟨j, 0, none⟩)) ⟨_, rfl, rfl, Below.refl _ _, hM⟩
    · obtain rfl := Option.some.inj (show opsNr2[8]? = some o from ho)
      exact og_ldB (i := 4) (hv 7 (by decide) rfl (he ⟨7, .data⟩ (by simp) rfl) : slot a 26 = .pointer (some ⟨j, 4, none⟩)) qj4 qj5 qj6 qj7 ⟨_, rfl, rfl, Below.refl _ _, hM⟩
    · obtain rfl := Option.some.inj (show opsNr2[9]? = some o from ho)
      exact og_mv f5 ⟨_, rfl, rfl, Below.refl _ _, hM⟩
    · obtain rfl := Option.some.inj (show opsNr2[10]? = some o from ho)
      exact og_neg hD (hv 9 (by decide) rfl (he ⟨9, .data⟩ (by simp) rfl) : slot a 28 = .int .i64 D) ⟨_, rfl, rfl, Below.refl _ _, hM⟩
    · obtain rfl := Option.some.inj (show opsNr2[11]? = some o from ho)
      exact og_mv f6 ⟨_, rfl, rfl, Below.refl _ _, hM⟩
    · obtain rfl := Option.some.inj (show opsNr2[12]? = some o from ho)
      exact og_neg hG (hv 11 (by decide) rfl (he ⟨11, .data⟩ (by simp) rfl) : slot a 30 = .int .i64 G) ⟨_, rfl, rfl, Below.refl _ _, hM⟩
    · obtain rfl := Option.some.inj (show opsNr2[13]? = some o from ho)
      refine or_c3 (by simp [go_sem]) (hv 8 (by decide) rfl (he ⟨8, .data⟩ (by simp) rfl) : slot a 27 = A4 k') (hv 10 (by decide) rfl (he ⟨10, .data⟩ (by simp) rfl) : slot a 29 = .int .i64 (-D)) (hv 12 (by decide) rfl (he ⟨12, .data⟩ (by simp) rfl) : slot a 31 = .int .i64 (-G)) ((c2 w).mono ?_)
      rintro e w' ⟨v, rfl, hSv, hb⟩
      exact ⟨v, rfl, _, rfl, hSv, hb, bnx hM hb⟩
    · obtain rfl := Option.some.inj (show opsNr2[14]? = some o from ho)
      refine og_c2 (by simp [go_sem]) rfl rfl ((c3 w _ _ (hv 5 (by decide) rfl (he ⟨5, .data⟩ (by simp) rfl)) (hv 13 (by decide) rfl (he ⟨13, .data⟩ (by simp) rfl))).mono ?_)
      rintro e w' ⟨rfl, hb⟩
      exact ⟨_, rfl, _, rfl, rfl, hb, bnx hM hb⟩
  · intro L a w hL hM hsz hdf hF hv
    refine BigFrame.wpList_want rfl fun K hK => og_as (hv 14 (by decide) rfl : slot a 33 = .int .i64 R) (hK _ _ ?_)
    clear K hK
    refine hQ _ _ (slot_put (by omega)) (by simpa [Act.put] using hsz) hdf (fun t ht => ?_) hM
    rw [slot_put_ne (show 4 ≠ t from ht 15 (by decide))]
    exact hF t fun i hi => by
      have := ht i (by omega)
      have hor : i = 0 ∨ i = 1 ∨ i = 2 ∨ i = 3 ∨ i = 4 ∨ i = 5 ∨ i = 6 ∨ i = 7 ∨ i = 8 ∨ i = 9 ∨ i = 10 ∨ i = 11 ∨ i = 12 ∨ i = 13 ∨ i = 14 := by omega
      rcases hor with rfl | rfl | rfl | rfl | rfl | rfl | rfl | rfl | rfl | rfl | rfl | rfl | rfl | rfl | rfl <;> exact this
end
end Go.Proofs.YtgknbdehlmlipaaGreatDoor
