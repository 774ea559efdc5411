/-
  Texts that the proof leans on.
-/
import Derived.Test.YtgknbdehlmlipaaDoorJ31
import Derived.Test.YtgknbdehlmlipaaDoorJ33
import Derived.Test.YtgknbdehlmlipaaDoorJ3
set_option linter.unusedVariables false
set_option linter.unusedSectionVars false
set_option linter.unusedSimpArgs false
set_option maxRecDepth 20000
namespace Go.Proofs.YtgknbdehlmlipaaDoor
open Go.RowKit
attribute [local irreducible] W4
attribute [local go_sem ↓] ld18_eq
attribute [local go_sem] ld18_got
section
variable (n : Int) (nm : ByteArray) (num base wd pr ex le mo py : Int) (dn : Bool) (w : World) (hT : Tab w)
include hT
variable (G T : Int) (co pa : Nat) (hw0 : 0 ≤ wd) (hw1 : wd ≤ 1000) (hG : wd / 16 + 9 = G) (hG0 : 0 ≤ G) (hG1 : G ≤ 1000) (hTT : wd - 1 - G = T) (hT0 : 0 ≤ T) (hT1 : T ≤ 1000)
    (cc : ∀ W, Calls Tryd.prog 67 #[.int .i64 pr] W fun r w' => r = .returned (A4 co) ∧ Below W.heap.size W w')
    (cp : ∀ W, Calls Tryd.prog 67 #[.int .i64 py] W fun r w' => r = .returned (A4 pa) ∧ Below W.heap.size W w')
include hw0 hw1 hG hG0 hG1 hTT hT0 hT1 cc cp
set_option maxHeartbeats 4000000 in
theorem dlay_p (wo : Nat)
    (c1 : ∀ W, Tab W → Calls Tryd.prog 20 #[.int .i64 n] W fun r w' => r = .returned (.tuple #[IDec num nm wd pr ex le mo py false, .int .i64 0]) ∧ Below W.heap.size W w')
    (cf : ∀ W, Calls Tryd.prog 51 #[.int .u64 1] W fun r w' => r = .returned (A4 1) ∧ Below W.heap.size W w')
    (cw : ∀ W, Calls Tryd.prog 47 #[A4 1, .int .i64 T] W fun r w' => r = .returned (A4 wo) ∧ Below W.heap.size W w') :
    Calls Tryd.prog 52 #[.int .i64 n] w fun r w' => r = .returned (.tuple #[LD false G T 0 wo co pa le mo, .int .i64 0]) ∧ Below w.heap.size w w' := by
  have hsm := cell_set_map
  go_enter Tryd.func52, Tryd.ntmps52
  go_wp2_with (go_at_call 20; refine (c1 _ (hT.alloc _)).mono ?_; rintro r w1 ⟨rfl, hb1⟩; obtain ⟨hc1, hf1⟩ := bcell hb1; have hz1_0 : w.heap.size < w1.heap.size := lt_below hb1 ltg; have hl1_0 := Nat.le_of_lt hz1_0; have hA1 := bnext (w0 := w) bgo hb1; have hs1 := hA1.size; clear hb1)
  have q0 : w.heap.size < w1.heap.size + 1 := by omega
  refine regL5 (gi := w1.heap.size) (co := co) (pa := pa) (G := G) (T := T) (wd := wd) (pr := pr) (py := py) (le := le) (mo := mo) (dn := false) rfl rfl rfl hw0 hw1 hTT hT0 hT1 (by simp) (by go_simp) (by go_simp) (by go_simp) (by go_simp) (by go_simp) (by go_simp) cc cp ?_
  intro a5 w5 g h7 hg0 hg1 hcs hfs hsz hdf hF5 hb5
  have ha := act_of slotsL5 20 rfl hsz hdf hF5
  rw [ha]
  simp only [slotsL5, List.foldl_cons, List.foldl_nil, Act.put, List.setIfInBounds_toArray, List.set_cons_succ, List.set_cons_zero, h7]
  clear ha hF5 hsz hdf h7
  simp only [World.size_alloc] at hg0
  have p0 : w5.cell? ⟨g, 0, none⟩ = some (.bool false) := hcs 0 (show (0 : Nat) < 18 by decide)
  have p1 : w5.cell? ⟨g, 1, none⟩ = some (.int .i64 G) := hcs 1 (show (1 : Nat) < 18 by decide)
  have p2 : w5.cell? ⟨g, 2, none⟩ = some (.int .i64 T) := hcs 2 (show (2 : Nat) < 18 by decide)
  have p3 : w5.cell? ⟨g, 3, none⟩ = some (.int .i64 0) := hcs 3 (show (3 : Nat) < 18 by decide)
  have p4 : w5.cell? ⟨g, 4, none⟩ = some (.int .u64 0) := hcs 4 (show (4 : Nat) < 18 by decide)
  have p5 : w5.cell? ⟨g, 5, none⟩ = some (.int .u64 0) := hcs 5 (show (5 : Nat) < 18 by decide)
  have p6 : w5.cell? ⟨g, 6, none⟩ = some (.int .u64 0) := hcs 6 (show (6 : Nat) < 18 by decide)
  have p7 : w5.cell? ⟨g, 7, none⟩ = some (.int .u64 0) := hcs 7 (show (7 : Nat) < 18 by decide)
  have p8 : w5.cell? ⟨g, 8, none⟩ = some (.int .u64 (W4 co 0)) := hcs 8 (show (8 : Nat) < 18 by decide)
  have p9 : w5.cell? ⟨g, 9, none⟩ = some (.int .u64 (W4 co 1)) := hcs 9 (show (9 : Nat) < 18 by decide)
  have p10 : w5.cell? ⟨g, 10, none⟩ = some (.int .u64 (W4 co 2)) := hcs 10 (show (10 : Nat) < 18 by decide)
  have p11 : w5.cell? ⟨g, 11, none⟩ = some (.int .u64 (W4 co 3)) := hcs 11 (show (11 : Nat) < 18 by decide)
  have p12 : w5.cell? ⟨g, 12, none⟩ = some (.int .u64 (W4 pa 0)) := hcs 12 (show (12 : Nat) < 18 by decide)
  have p13 : w5.cell? ⟨g, 13, none⟩ = some (.int .u64 (W4 pa 1)) := hcs 13 (show (13 : Nat) < 18 by decide)
  have p14 : w5.cell? ⟨g, 14, none⟩ = some (.int .u64 (W4 pa 2)) := hcs 14 (show (14 : Nat) < 18 by decide)
  have p15 : w5.cell? ⟨g, 15, none⟩ = some (.int .u64 (W4 pa 3)) := hcs 15 (show (15 : Nat) < 18 by decide)
  have p16 : w5.cell? ⟨g, 16, none⟩ = some (.int .i64 le) := hcs 16 (show (16 : Nat) < 18 by decide)
  have p17 : w5.cell? ⟨g, 17, none⟩ = some (.int .i64 mo) := hcs 17 (show (17 : Nat) < 18 by decide)
  clear hcs cc cp
  have n0 : w.heap.size ≠ g := by omega
  have n1 : g ≠ w.heap.size := by omega
  have n2 : w1.heap.size ≠ g := by omega
  have n3 : g ≠ w1.heap.size := by omega
  have q1 : w1.heap.size < w1.heap.size + 1 := by omega
  obtain ⟨hc5, hf5⟩ := bcell hb5; have hz5_0 : w.heap.size < w5.heap.size := lt_below hb5 ltg; have hl5_0 := Nat.le_of_lt hz5_0; have hz5_1 : w1.heap.size < w5.heap.size := lt_below hb5 ltg; have hl5_1 := Nat.le_of_lt hz5_1; have hA5 := bnext (w0 := w) bgo hb5; have hs5 := hA5.size; clear hb5
  go_wp2
  refine wp_tail 4 (by kernel_rfl) (by kernel_rfl) (by kernel_rfl) (fun _ _ d _ _ h => by cases d <;> exact h) fun hne hcell => ?_
  simp only [List.take_succ_cons, List.take_zero, List.drop_succ_cons, List.drop_zero]
  repeat go_big_quiet_step (fail)
  go_big_quiet_step ((go_at_call 51; exact calls_wd _ bk_next (cf _)))
  repeat go_big_quiet_step (fail)
  go_big_quiet_step ((go_at_call 47; exact calls_wd _ bk_next (cw _)))
  repeat go_big_quiet_step (fail)
  refine wpQuiet_nil fun w6 hb6 => ?_
  obtain ⟨hc6, hf6⟩ := bcell hb6; have hz6_0 : w.heap.size < w6.heap.size := lt_below hb6 ltg; have hl6_0 := Nat.le_of_lt hz6_0; have hz6_1 : w1.heap.size < w6.heap.size := lt_below hb6 ltg; have hl6_1 := Nat.le_of_lt hz6_1; have hz6_2 : g < w6.heap.size := lt_below hb6 ltg; have hl6_2 := Nat.le_of_lt hz6_2; have hA6 := bnext (w0 := w) bgo hb6; have hs6 := hA6.size; clear hb6
  go_wp2
  exact bodyPost_ret (v := .tuple #[LD false G T 0 wo co pa le mo, .int .i64 0]) (by simp only [results, Tryd.results52]; go_simp) rfl ⟨rfl, bgo⟩
end
end Go.Proofs.YtgknbdehlmlipaaDoor
