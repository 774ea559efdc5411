/-
  Texts that the proof leans on.
-/
import Derived.Test.YtgknbdehlmlipabGreatDoorJ35
import Derived.Test.YtgknbdehlmlipabGreatDoorJ43
import Derived.Test.YtgknbdehlmlipabGreatDoorJ40
import Derived.Test.YtgknbdehlmlipabGreatDoorJ46
import Derived.Test.YtgknbdehlmlipabGreatDoorJ41
import Derived.Test.YtgknbdehlmlipabGreatDoorJ26
import Derived.Test.YtgknbdehlmlipabGreatDoorJ44
import Derived.Test.YtgknbdehlmlipabGreatDoorJ34
import Derived.Test.YtgknbdehlmlipabGreatDoorJ22
import Derived.Test.YtgknbdehlmlipabGreatDoorJ19
import Derived.Test.YtgknbdehlmlipabGreatDoorJ20
import Derived.Deep.Cut
import Derived.Deep.CutRange
import Derived.Laws.IdiomCopy
import Derived.Test.YtgknbdehlmlipabGreatDoorJ5
import Derived.Test.YtgknbdehlmlipabGreatDoorJ3
import Derived.Test.YtgknbdehlmlipabGreatDoorJ27
import Derived.Test.YtgknbdehlmlipabGreatDoorJ45
import Derived.Test.YtgknbdehlmlipabGreatDoorJ23
import Derived.Test.YtgknbdehlmlipabGreatDoorJ29
import Derived.Test.YtgknbdehlmlipabGreatDoorJ32
import Derived.Deep.RegionWith
import Derived.Test.YtgknbdehlmlipabGreatDoorJ24
import Derived.Test.YtgknbdehlmlipabGreatDoorJ30
import Derived.Test.YtgknbdehlmlipabGreatDoorJ36
import Derived.Test.YtgknbdehlmlipabGreatDoorJ17
import Derived.Test.YtgknbdehlmlipabGreatDoorJ9
import Derived.Test.YtgknbdehlmlipabGreatDoorJ21
import Derived.Test.YtgknbdehlmlipabGreatDoorJ16
set_option linter.unusedVariables false
set_option linter.unusedSectionVars false
set_option linter.unusedSimpArgs false
set_option maxRecDepth 20000
namespace Go.Proofs.YtgknbdehlmlipabGreatDoor
open Go.RowKit
attribute [local irreducible] W4
theorem mD_256 (n : Int) (B : Nat) : (mD n B).k < 2 ^ 256 := by
  unfold mD
  split
  · exact unD_k n B
  · exact vUD_256 n B
end Go.Proofs.YtgknbdehlmlipabGreatDoor

namespace Go.Proofs.YtgknbdehlmlipabGreatDoor
open Go.RowKit
attribute [local irreducible] W4
theorem mX_or (n : Int) : mX n = 2 ∨ mX n = 10 := by unfold mX; split; exact Or.inl rfl; exact Or.inr rfl
theorem mD_x (n : Int) (B : Nat) : (-17000 ≤ (mD n B).x ∧ (mD n B).x ≤ 17000) ∧ (mX n = 10 → -10000 ≤ (mD n B).x ∧ (mD n B).x ≤ 10000) := by
  unfold mD mX
  by_cases h : binN n
  · rw [if_pos h, if_pos h]
    refine ⟨?_, fun q => absurd q (by decide)⟩
    by_cases hg : goodN n B
    · have hl : -16990 ≤ leastN n ∧ mostN n ≤ 16990 := by rcases bin_cases h with rfl | rfl | rfl | rfl | rfl | rfl <;> decide
      rcases und_is hg with ⟨h1, h2, h3, h4, h5, h6⟩ | ⟨h1, h2, h3, h4⟩ | ⟨h1, h2, h3, h4⟩ <;> omega
    · have e : unD n B = ⟨0, false, false, 0, 0⟩ := if_neg hg
      rw [e]
      decide
  · rw [if_neg h, if_neg h]
    have hx : -10000 ≤ (vUD n B).x ∧ (vUD n B).x ≤ 10000 := by
      by_cases hg : goodD n B
      · rw [show vUD n B = vM (fD n) B from if_pos hg]
        have hf := fD_ok n
        obtain ⟨m0, m1, l0, l1, lm, j0, j1⟩ := ok_m hf
        rcases vM_is hf B with ⟨h1, h2, h3, h4, h5⟩ | ⟨h1, h2, h3, h4⟩ | ⟨h1, h2, h3⟩
        · unfold DF.m at *; omega
        · omega
        · omega
      · rw [show vUD n B = ⟨0, false, false, 0, 0⟩ from if_neg hg]
        decide
    exact ⟨by omega, fun _ => hx⟩
end Go.Proofs.YtgknbdehlmlipabGreatDoor

namespace Go.Proofs.YtgknbdehlmlipabGreatDoor
open Go.RowKit
theorem nine_cases {i : Nat} (h : i < 9) : i = 0 ∨ i = 1 ∨ i = 2 ∨ i = 3 ∨ i = 4 ∨ i = 5 ∨ i = 6 ∨ i = 7 ∨ i = 8 := by omega
attribute [local irreducible] W4 Nt Nz NT
section
variable (n : Int) (B : Nat) (c x : Int) (s g : Bool) (k : Nat) (E b num wi pr ex le mo pa : Int) (nm : ByteArray) (de : Bool) (w : World) (hT : Tab w)
include hT
set_option maxHeartbeats 2000000 in
theorem unp_e
    (c1 : ∀ W, Tab W → Calls Tryz.prog 30 #[.int .i64 n] W fun r w' => r = .returned (.tuple #[.agg #[.int .i64 num, .string nm, .int .i64 b, .int .i64 wi, .int .i64 pr, .int .i64 ex, .int .i64 le, .int .i64 mo, .int .i64 pa, .bool de], .int .i64 1]) ∧ Below W.heap.size W w') :
    Calls Tryz.prog 20 #[.int .i64 n, A4 B] w fun r w' => r = .returned (.tuple #[OV 0 false false 0 0 0, .int .i64 1]) ∧ Below w.heap.size w w' := by
  have hsm := cell_set_map
  have z0 : W4 0 0 = 0 ∧ W4 0 1 = 0 ∧ W4 0 2 = 0 ∧ W4 0 3 = 0 := by unfold W4; decide
  obtain ⟨z0, z1, z2, z3⟩ := z0
  unfold OV
  rw [z0, z1, z2, z3]
  go_enter Tryz.func20, Tryz.ntmps20
  go_wp2_with (go_at_call 30; refine (c1 _ (hT.go bgo)).mono ?_; rintro r w1 ⟨rfl, hb1⟩; obtain ⟨hc1, hf1⟩ := bcell hb1; have hz1_0 : w.heap.size < w1.heap.size := lt_below hb1 ltg; have hl1_0 := Nat.le_of_lt hz1_0; have hz1_1 : w.heap.size + 1 < w1.heap.size := lt_below hb1 ltg; have hl1_1 := Nat.le_of_lt hz1_1; have hA1 := bnext (w0 := w) bgo hb1; have hs1 := hA1.size; clear hb1)
  exact bodyPost_ret (by simp only [results, Tryz.results20]; go_simp) rfl ⟨rfl, bgo⟩
variable (c1 : ∀ W, Tab W → Calls Tryz.prog 30 #[.int .i64 n] W fun r w' => r = .returned (.tuple #[.agg #[.int .i64 num, .string nm, .int .i64 b, .int .i64 wi, .int .i64 pr, .int .i64 ex, .int .i64 le, .int .i64 mo, .int .i64 pa, .bool de], .int .i64 0]) ∧ Below W.heap.size W w')
include c1
set_option maxHeartbeats 4000000 in
theorem unp_b (hb : b = 2)
    (c2 : ∀ W, Tab W → Calls Tryz.prog 31 #[.int .i64 n, A4 B] W fun r w' => r = .returned (.tuple #[DV c s g x k, .int .i64 E]) ∧ Below W.heap.size W w') :
    Calls Tryz.prog 20 #[.int .i64 n, A4 B] w fun r w' => r = .returned (.tuple #[OV c s g x k 2, .int .i64 E]) ∧ Below w.heap.size w w' := by
  have hsm := cell_set_map
  subst hb
  unfold OV
  go_enter Tryz.func20, Tryz.ntmps20
  go_wp2_with (first
    | (go_at_call 30; refine (c1 _ (hT.go bgo)).mono ?_; rintro r w1 ⟨rfl, hb1⟩; obtain ⟨hc1, hf1⟩ := bcell hb1; have hz1_0 : w.heap.size < w1.heap.size := lt_below hb1 ltg; have hl1_0 := Nat.le_of_lt hz1_0; have hz1_1 : w.heap.size + 1 < w1.heap.size := lt_below hb1 ltg; have hl1_1 := Nat.le_of_lt hz1_1; have hA1 := bnext (w0 := w) bgo hb1; have hs1 := hA1.size; clear hb1)
    | (go_at_call 31; refine (c2 _ (hT.go bgo)).mono ?_; rintro r w2 ⟨rfl, hb2⟩; obtain ⟨hc2, hf2⟩ := bcell hb2; have hz2_0 : w.heap.size < w2.heap.size := lt_below hb2 ltg; have hl2_0 := Nat.le_of_lt hz2_0; have hz2_1 : w.heap.size + 1 < w2.heap.size := lt_below hb2 ltg; have hl2_1 := Nat.le_of_lt hz2_1; have hz2_2 : w1.heap.size < w2.heap.size := lt_below hb2 ltg; have hl2_2 := Nat.le_of_lt hz2_2; have hz2_3 : w1.heap.size + 1 < w2.heap.size := lt_below hb2 ltg; have hl2_3 := Nat.le_of_lt hz2_3; have hA2 := bnext (w0 := w) bgo hb2; have hs2 := hA2.size; clear hb2))
  exact bodyPost_ret (by simp only [results, Tryz.results20]; go_simp) rfl ⟨rfl, bgo⟩
set_option maxHeartbeats 4000000 in
theorem unp_d (hb : b = 10) (ok : Bool)
    (c2 : ∀ W, Tab W → Calls Tryz.prog 32 #[.int .i64 n, A4 B] W fun r w' => r = .returned (.tuple #[DV c s g x k, .bool ok, .int .i64 E]) ∧ Below W.heap.size W w') :
    Calls Tryz.prog 20 #[.int .i64 n, A4 B] w fun r w' => r = .returned (.tuple #[OV c s g x k 10, .int .i64 E]) ∧ Below w.heap.size w w' := by
  have hsm := cell_set_map
  subst hb
  unfold OV
  go_enter Tryz.func20, Tryz.ntmps20
  go_wp2_with (first
    | (go_at_call 30; refine (c1 _ (hT.go bgo)).mono ?_; rintro r w1 ⟨rfl, hb1⟩; obtain ⟨hc1, hf1⟩ := bcell hb1; have hz1_0 : w.heap.size < w1.heap.size := lt_below hb1 ltg; have hl1_0 := Nat.le_of_lt hz1_0; have hz1_1 : w.heap.size + 1 < w1.heap.size := lt_below hb1 ltg; have hl1_1 := Nat.le_of_lt hz1_1; have hA1 := bnext (w0 := w) bgo hb1; have hs1 := hA1.size; clear hb1)
    | (go_at_call 32; refine (c2 _ (hT.go bgo)).mono ?_; rintro r w2 ⟨rfl, hb2⟩; obtain ⟨hc2, hf2⟩ := bcell hb2; have hz2_0 : w.heap.size < w2.heap.size := lt_below hb2 ltg; have hl2_0 := Nat.le_of_lt hz2_0; have hz2_1 : w.heap.size + 1 < w2.heap.size := lt_below hb2 ltg; have hl2_1 := Nat.le_of_lt hz2_1; have hz2_2 : w1.heap.size < w2.heap.size := lt_below hb2 ltg; have hl2_2 := Nat.le_of_lt hz2_2; have hz2_3 : w1.heap.size + 1 < w2.heap.size := lt_below hb2 ltg; have hl2_3 := Nat.le_of_lt hz2_3; have hA2 := bnext (w0 := w) bgo hb2; have hs2 := hA2.size; clear hb2))
  exact bodyPost_ret (by simp only [results, Tryz.results20]; go_simp) rfl ⟨rfl, bgo⟩
end
/-- what a pattern means, and its base -/
theorem unp_v (n : Int) (B : Nat) (w : World) (hT : Tab w) (hB : B < 2 ^ 256) : ∃ c s g x k b, (mE n B = 0 → OV c s g x k b = OV (mD n B).c (mD n B).s (mD n B).g (mD n B).x (mD n B).k ((mX n : Nat) : Int)) ∧
    ∀ W, Tab W → Calls Tryz.prog 20 #[.int .i64 n, A4 B] W fun r w' => r = .returned (.tuple #[OV c s g x k b, .int .i64 (mE n B)]) ∧ Below W.heap.size W w' := by
  by_cases ho : okN n
  · have c1 := fun W hW => ofv_any n W hW
    rw [show infoE n = 0 from if_pos ho] at c1
    by_cases hb : binN n
    · have e1 : mE n B = unE n B := if_pos hb
      have e2 : mD n B = unD n B := if_pos hb
      have e3 : mX n = 2 := if_pos hb
      rw [e1, e2, e3]
      exact ⟨_, _, _, _, _, _, fun _ => rfl, fun W hW => unp_b n B _ _ _ _ _ _ _ _ _ _ _ _ _ _ _ _ W hW c1 (bin_fields hb).2.1 (fun W' h => unpack_any n B W' h hB)⟩
    · have e1 : mE n B = vUE n B := if_neg hb
      have e2 : mD n B = vUD n B := if_neg hb
      have e3 : mX n = 10 := if_neg hb
      have h10 : baseN n = 10 := (not_bin hb).elim (fun h => h.2) (fun h => absurd ho h)
      rw [e1, e2, e3]
      exact ⟨_, _, _, _, _, _, fun _ => rfl, fun W hW => unp_d n B _ _ _ _ _ _ _ _ _ _ _ _ _ _ _ _ W hW c1 h10 _ (fun W' h => dunpk14 n B hB W' h)⟩
  · have c1 := fun W hW => ofv_any n W hW
    rw [show infoE n = 1 from if_neg ho] at c1
    have hb : ¬ binN n := fun h => ho (by unfold binN at h; unfold okN; omega)
    have hd : ¬ goodD n B := fun h => ho (dec_fields h.1).1
    have e1 : mE n B = 1 := (if_neg hb).trans (if_neg hd)
    rw [e1]
    exact ⟨_, _, _, _, _, _, fun h => absurd h (by decide), fun W hW => unp_e n B _ _ _ _ _ _ _ _ _ _ W hW c1⟩
section
variable (f n : Int) (A B : Nat) (c x b : Int) (s g : Bool) (k : Nat) (c' x' b' : Int) (s' g' : Bool) (k' : Nat) (E E' : Int) (w : World) (hT : Tab w)
  (c1 : ∀ W, Tab W → Calls Tryz.prog 20 #[.int .i64 f, A4 A] W fun r w' => r = .returned (.tuple #[OV c s g x k b, .int .i64 E]) ∧ Below W.heap.size W w')
include hT c1
set_option maxHeartbeats 4000000 in
theorem both_e (hE : (E == 0) = false) :
    Calls Tryz.prog 17 #[.int .i64 f, A4 A, .int .i64 n, A4 B] w fun r w' => r = .returned (.tuple #[OV c s g x k b, OV 0 false false 0 0 0, .int .i64 E]) ∧ Below w.heap.size w w' := by
  have hsm := cell_set_map
  have z0 : W4 0 0 = 0 ∧ W4 0 1 = 0 ∧ W4 0 2 = 0 ∧ W4 0 3 = 0 := by unfold W4; decide
  obtain ⟨z0, z1, z2, z3⟩ := z0
  have hcs : OCs 0 false false 0 0 0 = #[.int .i64 0, .bool false, .bool false, .int .i64 0, .int .u64 0, .int .u64 0, .int .u64 0, .int .u64 0, .int .i64 0] := by unfold OCs; rw [z0, z1, z2, z3]
  go_enter Tryz.func17, Tryz.ntmps17
  go_wp2_with (go_at_call 20; refine (c1 _ (hT.go bgo)).mono ?_; rintro r w1 ⟨rfl, hb1⟩; obtain ⟨hc1, hf1⟩ := bcell hb1; have hz1_0 : w.heap.size < w1.heap.size := lt_below hb1 ltg; have hl1_0 := Nat.le_of_lt hz1_0; have hz1_1 : w.heap.size + 1 < w1.heap.size := lt_below hb1 ltg; have hl1_1 := Nat.le_of_lt hz1_1; have hz1_2 : w.heap.size + 1 + 1 < w1.heap.size := lt_below hb1 ltg; have hl1_2 := Nat.le_of_lt hz1_2; have hz1_3 : w.heap.size + 1 + 1 + 1 < w1.heap.size := lt_below hb1 ltg; have hl1_3 := Nat.le_of_lt hz1_3; have hA1 := bnext (w0 := w) bgo hb1; have hs1 := hA1.size; clear hb1)
  refine regBo (b := w.heap.size) (w0 := w) (h := w.heap.size + 1 + 1) (j := w.heap.size + 1 + 1 + 1) (c := c) (s := s) (g := g) (x := x) (k := k) (e := b) (c' := 0) (s' := false) (g' := false) (x' := 0) (k' := 0) (e' := 0) (E := E) rfl rfl rfl rfl bgo (by omega) (by omega) (by omega) ⟨by first | omega | (simp; omega) | simp, rfl, fun i hi => ?_, fun i => by go_simp⟩ ⟨by first | omega | (simp; omega) | simp, rfl, fun i hi => ?_, fun i => by go_simp⟩ ?_
  · rcases nine_cases hi with rfl | rfl | rfl | rfl | rfl | rfl | rfl | rfl | rfl <;> go_simp
  · rw [hcs]
    rcases nine_cases hi with rfl | rfl | rfl | rfl | rfl | rfl | rfl | rfl | rfl <;> go_simp
  intro a' w4 hbe h8 h9 h10 hsz hdf hF2
  have ha := act_of [25, 26, 27, 0, 1, 10] 6 rfl hsz hdf hF2
  rw [ha]
  simp only [List.foldl_cons, List.foldl_nil, Act.put, List.setIfInBounds_toArray, List.set_cons_succ, List.set_cons_zero, h10]
  generalize slot a' 25 = s25
  generalize slot a' 26 = s26
  generalize slot a' 27 = s27
  generalize slot a' 0 = s0
  generalize slot a' 1 = s1
  clear ha h10 hsz hdf hF2
  obtain ⟨l8, _, k8, _⟩ := h8
  obtain ⟨l9, _, k9, _⟩ := h9
  have p0 : w4.cell? ⟨w.heap.size + 1 + 1, 0, none⟩ = some (.int .i64 c) := k8 0 (by decide)
  have p1 : w4.cell? ⟨w.heap.size + 1 + 1, 1, none⟩ = some (.bool s) := k8 1 (by decide)
  have p2 : w4.cell? ⟨w.heap.size + 1 + 1, 2, none⟩ = some (.bool g) := k8 2 (by decide)
  have p3 : w4.cell? ⟨w.heap.size + 1 + 1, 3, none⟩ = some (.int .i64 x) := k8 3 (by decide)
  have p4 : w4.cell? ⟨w.heap.size + 1 + 1, 4, none⟩ = some (.int .u64 (W4 k 0)) := k8 4 (by decide)
  have p5 : w4.cell? ⟨w.heap.size + 1 + 1, 5, none⟩ = some (.int .u64 (W4 k 1)) := k8 5 (by decide)
  have p6 : w4.cell? ⟨w.heap.size + 1 + 1, 6, none⟩ = some (.int .u64 (W4 k 2)) := k8 6 (by decide)
  have p7 : w4.cell? ⟨w.heap.size + 1 + 1, 7, none⟩ = some (.int .u64 (W4 k 3)) := k8 7 (by decide)
  have p8 : w4.cell? ⟨w.heap.size + 1 + 1, 8, none⟩ = some (.int .i64 b) := k8 8 (by decide)
  have q0 : w4.cell? ⟨w.heap.size + 1 + 1 + 1, 0, none⟩ = some (.int .i64 0) := k9 0 (by decide)
  have q1 : w4.cell? ⟨w.heap.size + 1 + 1 + 1, 1, none⟩ = some (.bool false) := k9 1 (by decide)
  have q2 : w4.cell? ⟨w.heap.size + 1 + 1 + 1, 2, none⟩ = some (.bool false) := k9 2 (by decide)
  have q3 : w4.cell? ⟨w.heap.size + 1 + 1 + 1, 3, none⟩ = some (.int .i64 0) := k9 3 (by decide)
  have q4 : w4.cell? ⟨w.heap.size + 1 + 1 + 1, 4, none⟩ = some (.int .u64 (W4 0 0)) := k9 4 (by decide)
  have q5 : w4.cell? ⟨w.heap.size + 1 + 1 + 1, 5, none⟩ = some (.int .u64 (W4 0 1)) := k9 5 (by decide)
  have q6 : w4.cell? ⟨w.heap.size + 1 + 1 + 1, 6, none⟩ = some (.int .u64 (W4 0 2)) := k9 6 (by decide)
  have q7 : w4.cell? ⟨w.heap.size + 1 + 1 + 1, 7, none⟩ = some (.int .u64 (W4 0 3)) := k9 7 (by decide)
  have q8 : w4.cell? ⟨w.heap.size + 1 + 1 + 1, 8, none⟩ = some (.int .i64 0) := k9 8 (by decide)
  clear k8 k9
  go_wp2
  exact bodyPost_ret (by simp only [results, Tryz.results17]; go_simp) rfl ⟨rfl, bgo⟩
variable (c2 : ∀ W, Tab W → Calls Tryz.prog 20 #[.int .i64 n, A4 B] W fun r w' => r = .returned (.tuple #[OV c' s' g' x' k' b', .int .i64 E']) ∧ Below W.heap.size W w')
include c2
set_option maxHeartbeats 4000000 in
theorem both_k (hE : E = 0) :
    Calls Tryz.prog 17 #[.int .i64 f, A4 A, .int .i64 n, A4 B] w fun r w' => r = .returned (.tuple #[OV c s g x k b, OV c' s' g' x' k' b', .int .i64 E']) ∧ Below w.heap.size w w' := by
  subst hE
  have hsm := cell_set_map
  go_enter Tryz.func17, Tryz.ntmps17
  go_wp2_with (first
    | (have := hA1; go_at_call 20; refine (c2 _ (hT.go bgo)).mono ?_; rintro r w2 ⟨rfl, hb2⟩; obtain ⟨hc2, hf2⟩ := bcell hb2; have hz2_0 : w.heap.size < w2.heap.size := lt_below hb2 ltg; have hl2_0 := Nat.le_of_lt hz2_0; have hz2_1 : w.heap.size + 1 < w2.heap.size := lt_below hb2 ltg; have hl2_1 := Nat.le_of_lt hz2_1; have hz2_2 : w.heap.size + 1 + 1 < w2.heap.size := lt_below hb2 ltg; have hl2_2 := Nat.le_of_lt hz2_2; have hz2_3 : w.heap.size + 1 + 1 + 1 < w2.heap.size := lt_below hb2 ltg; have hl2_3 := Nat.le_of_lt hz2_3; have hA2 := bnext (w0 := w) bgo hb2; have hs2 := hA2.size; clear hb2)
    | (go_at_call 20; refine (c1 _ (hT.go bgo)).mono ?_; rintro r w1 ⟨rfl, hb1⟩; obtain ⟨hc1, hf1⟩ := bcell hb1; have hz1_0 : w.heap.size < w1.heap.size := lt_below hb1 ltg; have hl1_0 := Nat.le_of_lt hz1_0; have hz1_1 : w.heap.size + 1 < w1.heap.size := lt_below hb1 ltg; have hl1_1 := Nat.le_of_lt hz1_1; have hz1_2 : w.heap.size + 1 + 1 < w1.heap.size := lt_below hb1 ltg; have hl1_2 := Nat.le_of_lt hz1_2; have hz1_3 : w.heap.size + 1 + 1 + 1 < w1.heap.size := lt_below hb1 ltg; have hl1_3 := Nat.le_of_lt hz1_3; have hA1 := bnext (w0 := w) bgo hb1; have hs1 := hA1.size; clear hb1))
  refine regBo (b := w.heap.size) (w0 := w) (h := w.heap.size + 1 + 1) (j := w.heap.size + 1 + 1 + 1) (c := c) (s := s) (g := g) (x := x) (k := k) (e := b) (c' := c') (s' := s') (g' := g') (x' := x') (k' := k') (e' := b') (E := E') rfl rfl rfl rfl bgo (by omega) (by omega) (by omega) ⟨by first | omega | (simp; omega) | simp, rfl, fun i hi => ?_, fun i => by go_simp⟩ ⟨by first | omega | (simp; omega) | simp, rfl, fun i hi => ?_, fun i => by go_simp⟩ ?_
  · rcases nine_cases hi with rfl | rfl | rfl | rfl | rfl | rfl | rfl | rfl | rfl <;> go_simp
  · rcases nine_cases hi with rfl | rfl | rfl | rfl | rfl | rfl | rfl | rfl | rfl <;> go_simp
  intro a' w4 hbe h8 h9 h10 hsz hdf hF2
  have ha := act_of [25, 26, 27, 0, 1, 10] 6 rfl hsz hdf hF2
  rw [ha]
  simp only [List.foldl_cons, List.foldl_nil, Act.put, List.setIfInBounds_toArray, List.set_cons_succ, List.set_cons_zero, h10]
  generalize slot a' 25 = s25
  generalize slot a' 26 = s26
  generalize slot a' 27 = s27
  generalize slot a' 0 = s0
  generalize slot a' 1 = s1
  clear ha h10 hsz hdf hF2
  obtain ⟨l8, _, k8, _⟩ := h8
  obtain ⟨l9, _, k9, _⟩ := h9
  have p0 : w4.cell? ⟨w.heap.size + 1 + 1, 0, none⟩ = some (.int .i64 c) := k8 0 (by decide)
  have p1 : w4.cell? ⟨w.heap.size + 1 + 1, 1, none⟩ = some (.bool s) := k8 1 (by decide)
  have p2 : w4.cell? ⟨w.heap.size + 1 + 1, 2, none⟩ = some (.bool g) := k8 2 (by decide)
  have p3 : w4.cell? ⟨w.heap.size + 1 + 1, 3, none⟩ = some (.int .i64 x) := k8 3 (by decide)
  have p4 : w4.cell? ⟨w.heap.size + 1 + 1, 4, none⟩ = some (.int .u64 (W4 k 0)) := k8 4 (by decide)
  have p5 : w4.cell? ⟨w.heap.size + 1 + 1, 5, none⟩ = some (.int .u64 (W4 k 1)) := k8 5 (by decide)
  have p6 : w4.cell? ⟨w.heap.size + 1 + 1, 6, none⟩ = some (.int .u64 (W4 k 2)) := k8 6 (by decide)
  have p7 : w4.cell? ⟨w.heap.size + 1 + 1, 7, none⟩ = some (.int .u64 (W4 k 3)) := k8 7 (by decide)
  have p8 : w4.cell? ⟨w.heap.size + 1 + 1, 8, none⟩ = some (.int .i64 b) := k8 8 (by decide)
  have q0 : w4.cell? ⟨w.heap.size + 1 + 1 + 1, 0, none⟩ = some (.int .i64 c') := k9 0 (by decide)
  have q1 : w4.cell? ⟨w.heap.size + 1 + 1 + 1, 1, none⟩ = some (.bool s') := k9 1 (by decide)
  have q2 : w4.cell? ⟨w.heap.size + 1 + 1 + 1, 2, none⟩ = some (.bool g') := k9 2 (by decide)
  have q3 : w4.cell? ⟨w.heap.size + 1 + 1 + 1, 3, none⟩ = some (.int .i64 x') := k9 3 (by decide)
  have q4 : w4.cell? ⟨w.heap.size + 1 + 1 + 1, 4, none⟩ = some (.int .u64 (W4 k' 0)) := k9 4 (by decide)
  have q5 : w4.cell? ⟨w.heap.size + 1 + 1 + 1, 5, none⟩ = some (.int .u64 (W4 k' 1)) := k9 5 (by decide)
  have q6 : w4.cell? ⟨w.heap.size + 1 + 1 + 1, 6, none⟩ = some (.int .u64 (W4 k' 2)) := k9 6 (by decide)
  have q7 : w4.cell? ⟨w.heap.size + 1 + 1 + 1, 7, none⟩ = some (.int .u64 (W4 k' 3)) := k9 7 (by decide)
  have q8 : w4.cell? ⟨w.heap.size + 1 + 1 + 1, 8, none⟩ = some (.int .i64 b') := k9 8 (by decide)
  clear k8 k9
  go_wp2
  exact bodyPost_ret (by simp only [results, Tryz.results17]; go_simp) rfl ⟨rfl, bgo⟩
end
end Go.Proofs.YtgknbdehlmlipabGreatDoor

namespace Go.Proofs.YtgknbdehlmlipabGreatDoor
open Go.RowKit
attribute [local irreducible] W4 NT NV
section
variable {a : Act} {w : World} {K : Act → World → Prop} {Q : Exit → Act → World → Prop} {d p : Nat} {ty : TypeId} {pos : String} {after : Array Edge} {gd : Option (Nat × Bool)}
end
def TW2 (X Y : Nat) (v : Value) (w : World) : Prop := ∃ a b, v = .tuple #[a, b] ∧ NT 7000 X a w ∧ NT 7000 Y b w
theorem TW2.next {X Y : Nat} {v : Value} {w w' : World} (h : TW2 X Y v w) (hb : Below w.heap.size w w') : TW2 X Y v w' := by
  obtain ⟨a, b, e, h1, h2⟩ := h
  exact ⟨a, b, e, h1.next hb, h2.next hb⟩
theorem oS_bd (d : Dat) : -1 ≤ oS d ∧ oS d ≤ 1 := by unfold oS; split <;> (try split) <;> omega
end Go.Proofs.YtgknbdehlmlipabGreatDoor

namespace Go.Proofs.YtgknbdehlmlipabGreatDoor
open Go.RowKit
attribute [local irreducible] W4 Nt
theorem oV_bd (a : Dat) (x : Nat) (b : Dat) (y : Nat) : -1 ≤ oV a x b y ∧ oV a x b y ≤ 1 := by
  have hS := oS_bd a
  have hm : ∀ t : Int, -1 ≤ t ∧ t ≤ 1 → -1 ≤ oS a * t ∧ oS a * t ≤ 1 := fun t ht => by
    have : oS a = -1 ∨ oS a = 0 ∨ oS a = 1 := by omega
    rcases this with e | e | e <;> rw [e] <;> omega
  unfold oV
  split
  · exact sgn_bd _ _
  · split
    · exact hm _ (sgn_bd _ _)
    · exact hm _ (sgn_bd _ _)
end Go.Proofs.YtgknbdehlmlipabGreatDoor

namespace Go.Proofs.YtgknbdehlmlipabGreatDoor
open Go.RowKit
/-- what order's calls answer, in a class of worlds -/
structure OrdC (TT : World → Prop) : Prop where
  next : ∀ w w', TT w → Below w.heap.size w w' → TT w'
  cm : ∀ n Ar Br W, Ar < 2 ^ 256 → Br < 2 ^ 256 → TT W → Calls Tryz.prog 9 #[.int .i64 n, A4 Ar, A4 Br] W fun r w' => r = .returned (.tuple #[.int .i64 (oMc n Ar n Br), .bool (oMo n Ar n Br), .int .i64 (oME n Ar n Br)]) ∧ Below W.heap.size W w'
/-- and Total -/
structure OrdT (TT : World → Prop) : Prop where
  ttl : ∀ n Ar Br W, Ar < 2 ^ 256 → Br < 2 ^ 256 → TT W → Calls Tryz.prog 10 #[.int .i64 n, A4 Ar, A4 Br] W fun r w' => r = .returned (.tuple #[.int .i64 (oTc n Ar Br), .int .i64 (oTE n Ar Br)]) ∧ Below W.heap.size W w'
theorem awk20_T : oMc 3 1065353216 3 1073741824 = -1 ∧ oMo 3 1065353216 3 1073741824 = true ∧ oME 3 1065353216 3 1073741824 = 0 := ⟨by kernel_rfl, by kernel_rfl, by kernel_rfl⟩
theorem awk20_W : (W4 1065353216 0 = 1065353216 ∧ W4 1065353216 1 = 0 ∧ W4 1065353216 2 = 0 ∧ W4 1065353216 3 = 0) ∧ (W4 1073741824 0 = 1073741824 ∧ W4 1073741824 1 = 0 ∧ W4 1073741824 2 = 0 ∧ W4 1073741824 3 = 0) := ⟨⟨by decide, by decide, by decide, by decide⟩, ⟨by decide, by decide, by decide, by decide⟩⟩
attribute [local irreducible] W4
set_option maxHeartbeats 1000000 in
theorem awake20 {TT : World → Prop} (h : OrdC TT) (w : World) (hT : TT w) : Calls Tryz.prog 4 #[] w fun r w' => r = .returned (.bool true) ∧ Below w.heap.size w w' := by
  have c9 := fun W hW => h.cm 3 1065353216 1073741824 W (by decide) (by decide) hW
  obtain ⟨e1, e2, e4⟩ := awk20_T
  obtain ⟨⟨w0, w1, w2, w3⟩, u0, u1, u2, u3⟩ := awk20_W
  rw [e1, e2, e4] at c9
  unfold A4 at c9
  rw [w0, w1, w2, w3, u0, u1, u2, u3] at c9
  clear w0 w1 w2 w3 u0 u1 u2 u3 e1 e2 e4
  have hsm := cell_set_map
  go_enter Tryz.func4, Tryz.ntmps4
  go_wp2_with (go_at_call 9; refine (c9 _ (h.next _ _ hT bgo)).mono ?_; rintro r w1 ⟨rfl, hb1⟩; obtain ⟨hc1, hf1⟩ := bcell hb1; have hA1 := bnext (w0 := w) bgo hb1; have hs1 := hA1.size; clear hb1)
  go_ret
  exact ⟨by first | rfl | simp, bgo⟩
/-- a format's least exponent -/
def oL (n : Int) : Int := if binN n then leastN n else (fD n).l
theorem mD_K {n : Int} {B : Nat} (h : mE n B = 0) : oK (oL n) (mD n B) := by
  unfold mE at h
  unfold oL mD
  by_cases hb : binN n
  · rw [if_pos hb] at h
    rw [if_pos hb, if_pos hb]
    have hg : goodN n B := by
      refine Classical.byContradiction fun q => ?_
      rw [show unE n B = 1 from if_neg q] at h
      omega
    rcases und_is hg with ⟨h1, h2, h3, h4, h5, h6⟩ | ⟨h1, h2, h3, h4⟩ | ⟨h1, h2, h3, h4⟩
    · exact Or.inl ⟨h1, h2, h4⟩
    · exact Or.inr (Or.inl ⟨h1, h2, h3, h4⟩)
    · exact Or.inr (Or.inr ⟨h1, h2⟩)
  · rw [if_neg hb] at h
    rw [if_neg hb, if_neg hb]
    have hg : goodD n B := by
      refine Classical.byContradiction fun q => ?_
      rw [show vUE n B = 1 from if_neg q] at h
      omega
    rw [show vUD n B = vM (fD n) B from if_pos hg]
    rcases vM_is (fD_ok n) B with ⟨h1, h2, h3, h4, h5⟩ | ⟨h1, h2, h3, h4⟩ | ⟨h1, h2, h3⟩
    · exact Or.inl ⟨h1, h2, h4⟩
    · exact Or.inr (Or.inl ⟨h1, h2, h4, h3⟩)
    · exact Or.inr (Or.inr ⟨h1, h2⟩)
theorem oMc_bd (f : Int) (A : Nat) (g : Int) (B : Nat) : -1 ≤ oMc f A g B ∧ oMc f A g B ≤ 1 := by
  unfold oMc
  split
  · decide
  · split
    · decide
    · exact oV_bd _ _ _ _
theorem oT_bd (a b : Dat) (x : Nat) : -1 ≤ oT a b x ∧ oT a b x ≤ 1 := by
  have hm : ∀ t : Int, -1 ≤ t ∧ t ≤ 1 → -1 ≤ oG a * t ∧ oG a * t ≤ 1 := fun t ht => by
    rcases oG_sq a with ⟨_, e⟩ | ⟨_, e⟩ <;> rw [e] <;> omega
  unfold oT
  split
  · exact sgn_bd _ _
  · split
    · exact hm _ (sgn_bd _ _)
    · split
      · exact hm _ (sgn_bd _ _)
      · exact oV_bd _ _ _ _
end Go.Proofs.YtgknbdehlmlipabGreatDoor

namespace Go.Proofs.YtgknbdehlmlipabGreatDoor
open Go.RowKit
/-- the neighbour's pattern, of what is no NaN -/
def nxP (n : Int) (B : Nat) (up : Bool) : Nat :=
  if (unD n B).c = 1 ∧ (unD n B).k = 0 then 1 + sgN n (!up)
  else if (unD n B).s = up then B - 1 else if (unD n B).c = 2 then B else B + 1
def nxV (n : Int) (B : Nat) (up : Bool) : Nat := if goodN n B then (if (unD n B).c = 3 then quV n B else nxP n B up) else 0
def nxF (n : Int) (B : Nat) : Int := if goodN n B ∧ (unD n B).c = 3 ∧ (unD n B).g = true then 1 else 0
def nxE (n : Int) (B : Nat) : Int := if okN n ∧ B < 2 ^ (widthN n).toNat then (if binN n then 0 else 6) else 1
section
variable {n : Int} (hb : binN n) {s : Bool} {x : Int} {k : Nat} (h : isD (fN n) (leastN n) (mostN n) ⟨1, s, false, x, k⟩)
include hb h
end
theorem nx_zero {n : Int} (hb : binN n) (s : Bool) : pkV n ⟨1, s, false, leastN n, 1⟩ = 1 + sgN n s := by
  have hf := (bin_fm hb).f240
  have h' : isD (fN n) (leastN n) (mostN n) ⟨1, s, false, leastN n, 1⟩ := Or.inl ⟨rfl, rfl, show 1 < 2 ^ (fN n + 1) from Nat.lt_of_lt_of_le (by decide : 1 < 2 ^ 1) (Nat.pow_le_pow_right (by decide) (by omega)), Int.le_refl _, (top_is hb).2.2, Or.inr rfl⟩
  rw [pk_fin hb h', Int.sub_self]
  simp
theorem fit_good {n : Int} (hb : binN n) (B : Nat) : (okN n ∧ B < 2 ^ (widthN n).toNat) ↔ goodN n B := by
  obtain ⟨hok, _, _, _, hw, _⟩ := bin_fields hb
  rw [hw, Int.toNat_natCast]
  exact ⟨fun q => ⟨hb, q.2⟩, fun q => ⟨hok, q.2⟩⟩
attribute [local irreducible] W4 NT NV
end Go.Proofs.YtgknbdehlmlipabGreatDoor

namespace Go.Proofs.YtgknbdehlmlipabGreatDoor
open Go.RowKit
/-- the place of a pattern -/
def sg (n : Int) (B : Nat) : Int := smP n (unD n B)
end Go.Proofs.YtgknbdehlmlipabGreatDoor
