/-
  Texts that the proof leans on.
-/
import Derived.Test.YtgknbdehlmlipabGreatDoorJ38
import Derived.Test.YtgknbdehlmlipabGreatDoorJ30
import Derived.Test.YtgknbdehlmlipabGreatDoorJ3
set_option linter.unusedVariables false
set_option linter.unusedSectionVars false
set_option linter.unusedSimpArgs false
set_option maxRecDepth 20000
namespace Go.Proofs.YtgknbdehlmlipabGreatDoor
open Go.RowKit
/-- the layout of no format -/
abbrev ZL : Value := .agg zs
attribute [local irreducible] W4
attribute [local go_sem ↓] ld18_eq
attribute [local go_sem] ld18_got
section
variable (n : Int) (nm : ByteArray) (num base wd pr ex le mo py : Int) (dn : Bool) (w : World) (hT : Tab w)
include hT
set_option maxHeartbeats 2000000 in
theorem dlay_e (E : Int) (hE : (E != 0) = true)
    (c1 : ∀ W, Tab W → Calls Tryz.prog 30 #[.int .i64 n] W fun r w' => r = .returned (.tuple #[.agg #[.int .i64 num, .string nm, .int .i64 base, .int .i64 wd, .int .i64 pr, .int .i64 ex, .int .i64 le, .int .i64 mo, .int .i64 py, .bool dn], .int .i64 E]) ∧ Below W.heap.size W w') :
    Calls Tryz.prog 69 #[.int .i64 n] w fun r w' => r = .returned (.tuple #[ZL, .int .i64 1]) ∧ Below w.heap.size w w' := by
  have hsm := cell_set_map
  go_enter Tryz.func69, Tryz.ntmps69
  go_wp2_with (go_at_call 30; refine (c1 _ (hT.alloc _)).mono ?_; rintro r w1 ⟨rfl, hb1⟩; obtain ⟨hc1, hf1⟩ := bcell hb1; have hz1_0 : w.heap.size < w1.heap.size := lt_below hb1 ltg; have hl1_0 := Nat.le_of_lt hz1_0; have hA1 := bnext (w0 := w) bgo hb1; have hs1 := hA1.size; clear hb1)
  exact bodyPost_ret (by simp only [results, Tryz.results69]; go_simp) rfl ⟨rfl, bgo⟩
set_option maxHeartbeats 2000000 in
theorem dlay_b (hB : (base != 10) = true)
    (c1 : ∀ W, Tab W → Calls Tryz.prog 30 #[.int .i64 n] W fun r w' => r = .returned (.tuple #[.agg #[.int .i64 num, .string nm, .int .i64 base, .int .i64 wd, .int .i64 pr, .int .i64 ex, .int .i64 le, .int .i64 mo, .int .i64 py, .bool dn], .int .i64 0]) ∧ Below W.heap.size W w') :
    Calls Tryz.prog 69 #[.int .i64 n] w fun r w' => r = .returned (.tuple #[ZL, .int .i64 1]) ∧ Below w.heap.size w w' := by
  have hsm := cell_set_map
  go_enter Tryz.func69, Tryz.ntmps69
  go_wp2_with (go_at_call 30; refine (c1 _ (hT.alloc _)).mono ?_; rintro r w1 ⟨rfl, hb1⟩; obtain ⟨hc1, hf1⟩ := bcell hb1; have hz1_0 : w.heap.size < w1.heap.size := lt_below hb1 ltg; have hl1_0 := Nat.le_of_lt hz1_0; have hA1 := bnext (w0 := w) bgo hb1; have hs1 := hA1.size; clear hb1)
  exact bodyPost_ret (by simp only [results, Tryz.results69]; go_simp) rfl ⟨rfl, bgo⟩
end
end Go.Proofs.YtgknbdehlmlipabGreatDoor

namespace Go.Proofs.YtgknbdehlmlipabGreatDoor
open Go.RowKit
attribute [local irreducible] W4
attribute [local go_sem ↓] ld18_eq
attribute [local go_sem] ld18_got
section
variable (n : Int) (B : Nat) (w : World) (hT : Tab w)
include hT
set_option maxHeartbeats 2000000 in
theorem dfor_n (c1 : ∀ W, Tab W → Calls Tryz.prog 63 #[.int .i64 n, A4 B] W fun r w' => r = .returned (.bool false) ∧ Below W.heap.size W w') :
    Calls Tryz.prog 51 #[.int .i64 n, A4 B] w fun r w' => r = .returned (.tuple #[ZL, .int .i64 1]) ∧ Below w.heap.size w w' := by
  have hsm := cell_set_map
  go_enter Tryz.func51, Tryz.ntmps51
  go_wp2_with (go_at_call 63; refine (c1 _ ((hT.alloc _).alloc _)).mono ?_; rintro r w1 ⟨rfl, hb1⟩; obtain ⟨hc1, hf1⟩ := bcell hb1; have hz1_0 : w.heap.size < w1.heap.size := lt_below hb1 ltg; have hl1_0 := Nat.le_of_lt hz1_0; have hz1_1 : w.heap.size + 1 < w1.heap.size := lt_below hb1 ltg; have hl1_1 := Nat.le_of_lt hz1_1; have hA1 := bnext (w0 := w) bgo hb1; have hs1 := hA1.size; clear hb1)
  exact bodyPost_ret (by simp only [results, Tryz.results51]; go_simp) rfl ⟨rfl, bgo⟩
variable (c1 : ∀ W, Tab W → Calls Tryz.prog 63 #[.int .i64 n, A4 B] W fun r w' => r = .returned (.bool true) ∧ Below W.heap.size W w')
include c1
set_option maxHeartbeats 2000000 in
theorem dfor_b (c2 : ∀ W, Tab W → Calls Tryz.prog 69 #[.int .i64 n] W fun r w' => r = .returned (.tuple #[ZL, .int .i64 1]) ∧ Below W.heap.size W w') :
    Calls Tryz.prog 51 #[.int .i64 n, A4 B] w fun r w' => r = .returned (.tuple #[ZL, .int .i64 1]) ∧ Below w.heap.size w w' := by
  have hsm := cell_set_map
  go_enter Tryz.func51, Tryz.ntmps51
  go_wp2_with (first
    | (go_at_call 63; refine (c1 _ ((hT.alloc _).alloc _)).mono ?_; rintro r w1 ⟨rfl, hb1⟩; have hT1 := ((hT.alloc _).alloc _).go hb1; obtain ⟨hc1, hf1⟩ := bcell hb1; have hz1_0 : w.heap.size < w1.heap.size := lt_below hb1 ltg; have hl1_0 := Nat.le_of_lt hz1_0; have hz1_1 : w.heap.size + 1 < w1.heap.size := lt_below hb1 ltg; have hl1_1 := Nat.le_of_lt hz1_1; have hA1 := bnext (w0 := w) bgo hb1; have hs1 := hA1.size; clear hb1)
    | (go_at_call 69; refine (c2 _ hT1).mono ?_; rintro r w2 ⟨rfl, hb2⟩; obtain ⟨hc2, hf2⟩ := bcell hb2; have hz2_0 : w.heap.size < w2.heap.size := lt_below hb2 ltg; have hl2_0 := Nat.le_of_lt hz2_0; have hz2_1 : w.heap.size + 1 < w2.heap.size := lt_below hb2 ltg; have hl2_1 := Nat.le_of_lt hz2_1; have hA2 := bnext (w0 := w) bgo hb2; have hs2 := hA2.size; clear hb2))
  exact bodyPost_ret (by simp only [results, Tryz.results51]; go_simp) rfl ⟨rfl, bgo⟩
set_option maxHeartbeats 2000000 in
theorem dfor_y (dn : Bool) (g t bl : Int) (wo co pa : Nat) (le mo : Int)
    (c2 : ∀ W, Tab W → Calls Tryz.prog 69 #[.int .i64 n] W fun r w' => r = .returned (.tuple #[LD dn g t bl wo co pa le mo, .int .i64 0]) ∧ Below W.heap.size W w') :
    Calls Tryz.prog 51 #[.int .i64 n, A4 B] w fun r w' => r = .returned (.tuple #[LD dn g t bl wo co pa le mo, .int .i64 0]) ∧ Below w.heap.size w w' := by
  have hsm := cell_set_map
  go_enter Tryz.func51, Tryz.ntmps51
  go_wp2_with (first
    | (go_at_call 63; refine (c1 _ ((hT.alloc _).alloc _)).mono ?_; rintro r w1 ⟨rfl, hb1⟩; have hT1 := ((hT.alloc _).alloc _).go hb1; obtain ⟨hc1, hf1⟩ := bcell hb1; have hz1_0 : w.heap.size < w1.heap.size := lt_below hb1 ltg; have hl1_0 := Nat.le_of_lt hz1_0; have hz1_1 : w.heap.size + 1 < w1.heap.size := lt_below hb1 ltg; have hl1_1 := Nat.le_of_lt hz1_1; have hA1 := bnext (w0 := w) bgo hb1; have hs1 := hA1.size; clear hb1)
    | (go_at_call 69; refine (c2 _ hT1).mono ?_; rintro r w2 ⟨rfl, hb2⟩; obtain ⟨hc2, hf2⟩ := bcell hb2; have hz2_0 : w.heap.size < w2.heap.size := lt_below hb2 ltg; have hl2_0 := Nat.le_of_lt hz2_0; have hz2_1 : w.heap.size + 1 < w2.heap.size := lt_below hb2 ltg; have hl2_1 := Nat.le_of_lt hz2_1; have hA2 := bnext (w0 := w) bgo hb2; have hs2 := hA2.size; clear hb2))
  exact bodyPost_ret (v := .tuple #[LD dn g t bl wo co pa le mo, .int .i64 0]) (by simp only [results, Tryz.results51]; go_simp) rfl ⟨rfl, bgo⟩
end
end Go.Proofs.YtgknbdehlmlipabGreatDoor

namespace Go.Proofs.YtgknbdehlmlipabGreatDoor
open Go.RowKit
attribute [local irreducible] W4
attribute [local go_sem ↓] ld18_eq
attribute [local go_sem] ld18_got
section
variable (n : Int) (w : World) (hT : Tab w)
include hT
set_option maxHeartbeats 2000000 in
theorem dunp_n (B : Nat) (c1 : ∀ W, Tab W → Calls Tryz.prog 51 #[.int .i64 n, A4 B] W fun r w' => r = .returned (.tuple #[ZL, .int .i64 1]) ∧ Below W.heap.size W w') :
    Calls Tryz.prog 32 #[.int .i64 n, A4 B] w fun r w' => r = .returned (.tuple #[.agg #[.int .i64 0, .bool false, .bool false, .int .i64 0, .int .u64 0, .int .u64 0, .int .u64 0, .int .u64 0], .bool false, .int .i64 1]) ∧ Below w.heap.size w w' := by
  have hsm := cell_set_map
  go_enter Tryz.func32, Tryz.ntmps32
  go_wp2_with (go_at_call 51; refine (c1 _ ((hT.alloc _).alloc _)).mono ?_; rintro r w1 ⟨rfl, hb1⟩; obtain ⟨hc1, hf1⟩ := bcell hb1; have hz1_0 : w.heap.size < w1.heap.size := lt_below hb1 ltg; have hl1_0 := Nat.le_of_lt hz1_0; have hz1_1 : w.heap.size + 1 < w1.heap.size := lt_below hb1 ltg; have hl1_1 := Nat.le_of_lt hz1_1; have hA1 := bnext (w0 := w) bgo hb1; have hs1 := hA1.size; clear hb1)
  exact bodyPost_ret (by simp only [results, Tryz.results32]; go_simp) rfl ⟨rfl, bgo⟩
end
end Go.Proofs.YtgknbdehlmlipabGreatDoor
