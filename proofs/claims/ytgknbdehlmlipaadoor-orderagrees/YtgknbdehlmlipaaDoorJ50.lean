/-
  Texts that the proof leans on.
-/
import Derived.Test.YtgknbdehlmlipaaDoorJ47
import Derived.Test.YtgknbdehlmlipaaDoorJ23
import Derived.Test.YtgknbdehlmlipaaDoorJ32
import Derived.Test.YtgknbdehlmlipaaDoorJ36
import Derived.Test.YtgknbdehlmlipaaDoorJ27
import Derived.Test.YtgknbdehlmlipaaDoorJ21
import Derived.Deep.RegionWith
import Derived.Test.YtgknbdehlmlipaaDoorJ28
import Derived.Test.YtgknbdehlmlipaaDoorJ29
import Derived.Deep.Cut
import Derived.Deep.CutRange
import Derived.Test.YtgknbdehlmlipaaDoorJ18
import Derived.Test.YtgknbdehlmlipaaDoorJ11
import Derived.Test.YtgknbdehlmlipaaDoorJ17
import Derived.Test.YtgknbdehlmlipaaDoorJ19
import Derived.Laws.BytesArg
import Derived.Test.YtgknbdehlmlipaaDoorJ10
import Derived.Test.YtgknbdehlmlipaaDoorJ14
import Derived.Shelf.SlicesE.Reverse
import Derived.RegionTactic
import Derived.ChangeAlike
import Derived.BigRegion
import Derived.Laws.Strings2
import Derived.Lib.AppendStr
import Derived.Lib.Builder
import Derived.Deep.AppendLies
import Derived.Test.YtgknbdehlmlipaaDoorJ5
import Derived.Test.YtgknbdehlmlipaaDoorJ1
import Derived.Test.YtgknbdehlmlipaaDoorJ7
import Derived.Test.YtgknbdehlmlipaaDoorJ6
import Derived.Test.YtgknbdehlmlipaaDoorJ38
import Derived.Test.YtgknbdehlmlipaaDoorJ41
import Derived.Test.YtgknbdehlmlipaaDoorJ31
import Derived.Test.YtgknbdehlmlipaaDoorJ13
import Derived.Test.YtgknbdehlmlipaaDoorJ42
import Derived.Test.YtgknbdehlmlipaaDoorJ45
import Derived.Test.YtgknbdehlmlipaaDoorJ46
import Derived.Test.YtgknbdehlmlipaaDoorJ48
import Derived.Test.YtgknbdehlmlipaaDoorJ49
import Derived.Test.YtgknbdehlmlipaaDoorJ3
import Derived.Test.YtgknbdehlmlipaaDoorJ26
import Derived.Test.YtgknbdehlmlipaaDoorJ34
set_option linter.unusedVariables false
set_option linter.unusedSectionVars false
set_option linter.unusedSimpArgs false
set_option maxRecDepth 20000
namespace Go.Proofs.YtgknbdehlmlipaaDoor
open Go.RowKit

theorem NT.head {K V : Nat} {v : Value} {w : World} (h : NT K V v w) (hV : V ≠ 0) : ∃ g k cap z0, v = .slice (some ⟨g, 0, none⟩) k cap ∧ 0 < k ∧ k ≤ K ∧ g < w.heap.size ∧ w.cell? ⟨g, 0, none⟩ = some (.int .u64 z0) ∧ 0 ≤ z0 ∧ z0 ≤ 18446744073709551615 ∧ z0 % 2 = ((V % 2 : Nat) : Int) := by
  have hz := h.zero
  obtain ⟨g, k, cap, z, rfl, hk, ⟨n1, n2, n3, n4, n5⟩, hv, hs⟩ := h
  obtain ⟨g', k', cap', e, _, hz'⟩ := hz
  cases e
  have hk0 : k ≠ 0 := fun e => hV (hz'.1 e)
  rcases n5 with ⟨n5, _⟩ | ⟨b, off, e, hb, hc⟩
  · cases n5
  · cases e
    have hc0 := hc 0 (by omega)
    have hw := n3 0
    have hp := val_odd (by omega : 0 < k) hv
    exact ⟨g, k, cap, z 0, rfl, by omega, hk, hb, hc0, hw.1, hw.2, by omega⟩
attribute [local irreducible] W4 Nz Nt NT NV
end Go.Proofs.YtgknbdehlmlipaaDoor

namespace Go.Proofs.YtgknbdehlmlipaaDoor
open Go.RowKit

attribute [local irreducible] W4 Nz Nt NT
def TU2 (X : Nat) (v : Value) (w : World) : Prop := ∃ q, v = .tuple #[q, .int .i64 0] ∧ NT 2001 X q w
theorem TU2.next {X : Nat} {v : Value} {w w' : World} (h : TU2 X v w) (hb : Below w.heap.size w w') : TU2 X v w' := by
  obtain ⟨q, e, hq⟩ := h
  exact ⟨q, e, hq.next hb⟩
end Go.Proofs.YtgknbdehlmlipaaDoor

namespace Go.Proofs.YtgknbdehlmlipaaDoor
open Go.RowKit
attribute [local irreducible] W4
theorem mD_256 (n : Int) (B : Nat) : (mD n B).k < 2 ^ 256 := by
  unfold mD
  split
  · exact unD_k n B
  · exact vUD_256 n B
end Go.Proofs.YtgknbdehlmlipaaDoor

namespace Go.Proofs.YtgknbdehlmlipaaDoor
open Go.RowKit
attribute [local irreducible] W4
theorem mX_or (n : Int) : mX n = 2 ∨ mX n = 10 := by unfold mX; split; exact Or.inl rfl; exact Or.inr rfl
theorem mD_x (n : Int) (B : Nat) : (-17000 ≤ (mD n B).x ∧ (mD n B).x ≤ 17000) ∧ (mX n = 10 → -10000 ≤ (mD n B).x ∧ (mD n B).x ≤ 10000) := by
  unfold mD mX
  by_cases h : binN n
  · rw [if_pos h, if_pos h]
    refine ⟨?_, fun q => absurd q (by decide)⟩
    by_cases hg : goodN n B
    · have hl : -16990 ≤ leastN n ∧ mostN n ≤ 16990 := by rcases bin_cases h with rfl | rfl | rfl | rfl | rfl | rfl <;> decide
      rcases und_is hg with ⟨h1, h2, h3, h4, h5, h6⟩ | ⟨h1, h2, h3, h4⟩ | ⟨h1, h2, h3, h4⟩ <;> omega
    · have e : unD n B = ⟨0, false, false, 0, 0⟩ := if_neg hg
      rw [e]
      decide
  · rw [if_neg h, if_neg h]
    have hx : -10000 ≤ (vUD n B).x ∧ (vUD n B).x ≤ 10000 := by
      by_cases hg : goodD n B
      · rw [show vUD n B = vM (fD n) B from if_pos hg]
        have hf := fD_ok n
        obtain ⟨m0, m1, l0, l1, lm, j0, j1⟩ := ok_m hf
        rcases vM_is hf B with ⟨h1, h2, h3, h4, h5⟩ | ⟨h1, h2, h3, h4⟩ | ⟨h1, h2, h3⟩
        · unfold DF.m at *; omega
        · omega
        · omega
      · rw [show vUD n B = ⟨0, false, false, 0, 0⟩ from if_neg hg]
        decide
    exact ⟨by omega, fun _ => hx⟩
end Go.Proofs.YtgknbdehlmlipaaDoor

namespace Go.Proofs.YtgknbdehlmlipaaDoor
open Go.RowKit
theorem nine_cases {i : Nat} (h : i < 9) : i = 0 ∨ i = 1 ∨ i = 2 ∨ i = 3 ∨ i = 4 ∨ i = 5 ∨ i = 6 ∨ i = 7 ∨ i = 8 := by omega
attribute [local irreducible] W4 Nt Nz NT
section
variable (n : Int) (B : Nat) (c x : Int) (s g : Bool) (k : Nat) (E b num wi pr ex le mo pa : Int) (nm : ByteArray) (de : Bool) (w : World) (hT : Tab w)
include hT
set_option maxHeartbeats 2000000 in
theorem unp_e
    (c1 : ∀ W, Tab W → Calls Tryd.prog 20 #[.int .i64 n] W fun r w' => r = .returned (.tuple #[.agg #[.int .i64 num, .string nm, .int .i64 b, .int .i64 wi, .int .i64 pr, .int .i64 ex, .int .i64 le, .int .i64 mo, .int .i64 pa, .bool de], .int .i64 1]) ∧ Below W.heap.size W w') :
    Calls Tryd.prog 13 #[.int .i64 n, A4 B] w fun r w' => r = .returned (.tuple #[OV 0 false false 0 0 0, .int .i64 1]) ∧ Below w.heap.size w w' := by
  have hsm := cell_set_map
  have z0 : W4 0 0 = 0 ∧ W4 0 1 = 0 ∧ W4 0 2 = 0 ∧ W4 0 3 = 0 := by unfold W4; decide
  obtain ⟨z0, z1, z2, z3⟩ := z0
  unfold OV
  rw [z0, z1, z2, z3]
  go_enter Tryd.func13, Tryd.ntmps13
  go_wp2_with (go_at_call 20; refine (c1 _ (hT.go bgo)).mono ?_; rintro r w1 ⟨rfl, hb1⟩; obtain ⟨hc1, hf1⟩ := bcell hb1; have hz1_0 : w.heap.size < w1.heap.size := lt_below hb1 ltg; have hl1_0 := Nat.le_of_lt hz1_0; have hz1_1 : w.heap.size + 1 < w1.heap.size := lt_below hb1 ltg; have hl1_1 := Nat.le_of_lt hz1_1; have hA1 := bnext (w0 := w) bgo hb1; have hs1 := hA1.size; clear hb1)
  exact bodyPost_ret (by simp only [results, Tryd.results13]; go_simp) rfl ⟨rfl, bgo⟩
variable (c1 : ∀ W, Tab W → Calls Tryd.prog 20 #[.int .i64 n] W fun r w' => r = .returned (.tuple #[.agg #[.int .i64 num, .string nm, .int .i64 b, .int .i64 wi, .int .i64 pr, .int .i64 ex, .int .i64 le, .int .i64 mo, .int .i64 pa, .bool de], .int .i64 0]) ∧ Below W.heap.size W w')
include c1
set_option maxHeartbeats 4000000 in
theorem unp_b (hb : b = 2)
    (c2 : ∀ W, Tab W → Calls Tryd.prog 21 #[.int .i64 n, A4 B] W fun r w' => r = .returned (.tuple #[DV c s g x k, .int .i64 E]) ∧ Below W.heap.size W w') :
    Calls Tryd.prog 13 #[.int .i64 n, A4 B] w fun r w' => r = .returned (.tuple #[OV c s g x k 2, .int .i64 E]) ∧ Below w.heap.size w w' := by
  have hsm := cell_set_map
  subst hb
  unfold OV
  go_enter Tryd.func13, Tryd.ntmps13
  go_wp2_with (first
    | (go_at_call 20; refine (c1 _ (hT.go bgo)).mono ?_; rintro r w1 ⟨rfl, hb1⟩; obtain ⟨hc1, hf1⟩ := bcell hb1; have hz1_0 : w.heap.size < w1.heap.size := lt_below hb1 ltg; have hl1_0 := Nat.le_of_lt hz1_0; have hz1_1 : w.heap.size + 1 < w1.heap.size := lt_below hb1 ltg; have hl1_1 := Nat.le_of_lt hz1_1; have hA1 := bnext (w0 := w) bgo hb1; have hs1 := hA1.size; clear hb1)
    | (go_at_call 21; refine (c2 _ (hT.go bgo)).mono ?_; rintro r w2 ⟨rfl, hb2⟩; obtain ⟨hc2, hf2⟩ := bcell hb2; have hz2_0 : w.heap.size < w2.heap.size := lt_below hb2 ltg; have hl2_0 := Nat.le_of_lt hz2_0; have hz2_1 : w.heap.size + 1 < w2.heap.size := lt_below hb2 ltg; have hl2_1 := Nat.le_of_lt hz2_1; have hz2_2 : w1.heap.size < w2.heap.size := lt_below hb2 ltg; have hl2_2 := Nat.le_of_lt hz2_2; have hz2_3 : w1.heap.size + 1 < w2.heap.size := lt_below hb2 ltg; have hl2_3 := Nat.le_of_lt hz2_3; have hA2 := bnext (w0 := w) bgo hb2; have hs2 := hA2.size; clear hb2))
  exact bodyPost_ret (by simp only [results, Tryd.results13]; go_simp) rfl ⟨rfl, bgo⟩
set_option maxHeartbeats 4000000 in
theorem unp_d (hb : b = 10) (ok : Bool)
    (c2 : ∀ W, Tab W → Calls Tryd.prog 22 #[.int .i64 n, A4 B] W fun r w' => r = .returned (.tuple #[DV c s g x k, .bool ok, .int .i64 E]) ∧ Below W.heap.size W w') :
    Calls Tryd.prog 13 #[.int .i64 n, A4 B] w fun r w' => r = .returned (.tuple #[OV c s g x k 10, .int .i64 E]) ∧ Below w.heap.size w w' := by
  have hsm := cell_set_map
  subst hb
  unfold OV
  go_enter Tryd.func13, Tryd.ntmps13
  go_wp2_with (first
    | (go_at_call 20; refine (c1 _ (hT.go bgo)).mono ?_; rintro r w1 ⟨rfl, hb1⟩; obtain ⟨hc1, hf1⟩ := bcell hb1; have hz1_0 : w.heap.size < w1.heap.size := lt_below hb1 ltg; have hl1_0 := Nat.le_of_lt hz1_0; have hz1_1 : w.heap.size + 1 < w1.heap.size := lt_below hb1 ltg; have hl1_1 := Nat.le_of_lt hz1_1; have hA1 := bnext (w0 := w) bgo hb1; have hs1 := hA1.size; clear hb1)
    | (go_at_call 22; refine (c2 _ (hT.go bgo)).mono ?_; rintro r w2 ⟨rfl, hb2⟩; obtain ⟨hc2, hf2⟩ := bcell hb2; have hz2_0 : w.heap.size < w2.heap.size := lt_below hb2 ltg; have hl2_0 := Nat.le_of_lt hz2_0; have hz2_1 : w.heap.size + 1 < w2.heap.size := lt_below hb2 ltg; have hl2_1 := Nat.le_of_lt hz2_1; have hz2_2 : w1.heap.size < w2.heap.size := lt_below hb2 ltg; have hl2_2 := Nat.le_of_lt hz2_2; have hz2_3 : w1.heap.size + 1 < w2.heap.size := lt_below hb2 ltg; have hl2_3 := Nat.le_of_lt hz2_3; have hA2 := bnext (w0 := w) bgo hb2; have hs2 := hA2.size; clear hb2))
  exact bodyPost_ret (by simp only [results, Tryd.results13]; go_simp) rfl ⟨rfl, bgo⟩
end
/-- what a pattern means, and its base -/
theorem unp_v (n : Int) (B : Nat) (w : World) (hT : Tab w) (hB : B < 2 ^ 256) : ∃ c s g x k b, (mE n B = 0 → OV c s g x k b = OV (mD n B).c (mD n B).s (mD n B).g (mD n B).x (mD n B).k ((mX n : Nat) : Int)) ∧
    ∀ W, Tab W → Calls Tryd.prog 13 #[.int .i64 n, A4 B] W fun r w' => r = .returned (.tuple #[OV c s g x k b, .int .i64 (mE n B)]) ∧ Below W.heap.size W w' := by
  by_cases ho : okN n
  · have c1 := fun W hW => ofv_any n W hW
    rw [show infoE n = 0 from if_pos ho] at c1
    by_cases hb : binN n
    · have e1 : mE n B = unE n B := if_pos hb
      have e2 : mD n B = unD n B := if_pos hb
      have e3 : mX n = 2 := if_pos hb
      rw [e1, e2, e3]
      exact ⟨_, _, _, _, _, _, fun _ => rfl, fun W hW => unp_b n B _ _ _ _ _ _ _ _ _ _ _ _ _ _ _ _ W hW c1 (bin_fields hb).2.1 (fun W' h => unpack_any n B W' h hB)⟩
    · have e1 : mE n B = vUE n B := if_neg hb
      have e2 : mD n B = vUD n B := if_neg hb
      have e3 : mX n = 10 := if_neg hb
      have h10 : baseN n = 10 := (not_bin hb).elim (fun h => h.2) (fun h => absurd ho h)
      rw [e1, e2, e3]
      exact ⟨_, _, _, _, _, _, fun _ => rfl, fun W hW => unp_d n B _ _ _ _ _ _ _ _ _ _ _ _ _ _ _ _ W hW c1 h10 _ (fun W' h => dunpk14 n B hB W' h)⟩
  · have c1 := fun W hW => ofv_any n W hW
    rw [show infoE n = 1 from if_neg ho] at c1
    have hb : ¬ binN n := fun h => ho (by unfold binN at h; unfold okN; omega)
    have hd : ¬ goodD n B := fun h => ho (dec_fields h.1).1
    have e1 : mE n B = 1 := (if_neg hb).trans (if_neg hd)
    rw [e1]
    exact ⟨_, _, _, _, _, _, fun h => absurd h (by decide), fun W hW => unp_e n B _ _ _ _ _ _ _ _ _ _ W hW c1⟩
section
variable (f n : Int) (A B : Nat) (c x b : Int) (s g : Bool) (k : Nat) (c' x' b' : Int) (s' g' : Bool) (k' : Nat) (E E' : Int) (w : World) (hT : Tab w)
  (c1 : ∀ W, Tab W → Calls Tryd.prog 13 #[.int .i64 f, A4 A] W fun r w' => r = .returned (.tuple #[OV c s g x k b, .int .i64 E]) ∧ Below W.heap.size W w')
include hT c1
set_option maxHeartbeats 4000000 in
theorem both_e (hE : (E == 0) = false) :
    Calls Tryd.prog 8 #[.int .i64 f, A4 A, .int .i64 n, A4 B] w fun r w' => r = .returned (.tuple #[OV c s g x k b, OV 0 false false 0 0 0, .int .i64 E]) ∧ Below w.heap.size w w' := by
  have hsm := cell_set_map
  have z0 : W4 0 0 = 0 ∧ W4 0 1 = 0 ∧ W4 0 2 = 0 ∧ W4 0 3 = 0 := by unfold W4; decide
  obtain ⟨z0, z1, z2, z3⟩ := z0
  have hcs : OCs 0 false false 0 0 0 = #[.int .i64 0, .bool false, .bool false, .int .i64 0, .int .u64 0, .int .u64 0, .int .u64 0, .int .u64 0, .int .i64 0] := by unfold OCs; rw [z0, z1, z2, z3]
  go_enter Tryd.func8, Tryd.ntmps8
  go_wp2_with (go_at_call 13; refine (c1 _ (hT.go bgo)).mono ?_; rintro r w1 ⟨rfl, hb1⟩; obtain ⟨hc1, hf1⟩ := bcell hb1; have hz1_0 : w.heap.size < w1.heap.size := lt_below hb1 ltg; have hl1_0 := Nat.le_of_lt hz1_0; have hz1_1 : w.heap.size + 1 < w1.heap.size := lt_below hb1 ltg; have hl1_1 := Nat.le_of_lt hz1_1; have hz1_2 : w.heap.size + 1 + 1 < w1.heap.size := lt_below hb1 ltg; have hl1_2 := Nat.le_of_lt hz1_2; have hz1_3 : w.heap.size + 1 + 1 + 1 < w1.heap.size := lt_below hb1 ltg; have hl1_3 := Nat.le_of_lt hz1_3; have hA1 := bnext (w0 := w) bgo hb1; have hs1 := hA1.size; clear hb1)
  refine regBo (b := w.heap.size) (w0 := w) (h := w.heap.size + 1 + 1) (j := w.heap.size + 1 + 1 + 1) (c := c) (s := s) (g := g) (x := x) (k := k) (e := b) (c' := 0) (s' := false) (g' := false) (x' := 0) (k' := 0) (e' := 0) (E := E) rfl rfl rfl rfl bgo (by omega) (by omega) (by omega) ⟨by first | omega | (simp; omega) | simp, rfl, fun i hi => ?_, fun i => by go_simp⟩ ⟨by first | omega | (simp; omega) | simp, rfl, fun i hi => ?_, fun i => by go_simp⟩ ?_
  · rcases nine_cases hi with rfl | rfl | rfl | rfl | rfl | rfl | rfl | rfl | rfl <;> go_simp
  · rw [hcs]
    rcases nine_cases hi with rfl | rfl | rfl | rfl | rfl | rfl | rfl | rfl | rfl <;> go_simp
  intro a' w4 hbe h8 h9 h10 hsz hdf hF2
  have ha := act_of [25, 26, 27, 0, 1, 10] 6 rfl hsz hdf hF2
  rw [ha]
  simp only [List.foldl_cons, List.foldl_nil, Act.put, List.setIfInBounds_toArray, List.set_cons_succ, List.set_cons_zero, h10]
  generalize slot a' 25 = s25
  generalize slot a' 26 = s26
  generalize slot a' 27 = s27
  generalize slot a' 0 = s0
  generalize slot a' 1 = s1
  clear ha h10 hsz hdf hF2
  obtain ⟨l8, _, k8, _⟩ := h8
  obtain ⟨l9, _, k9, _⟩ := h9
  have p0 : w4.cell? ⟨w.heap.size + 1 + 1, 0, none⟩ = some (.int .i64 c) := k8 0 (by decide)
  have p1 : w4.cell? ⟨w.heap.size + 1 + 1, 1, none⟩ = some (.bool s) := k8 1 (by decide)
  have p2 : w4.cell? ⟨w.heap.size + 1 + 1, 2, none⟩ = some (.bool g) := k8 2 (by decide)
  have p3 : w4.cell? ⟨w.heap.size + 1 + 1, 3, none⟩ = some (.int .i64 x) := k8 3 (by decide)
  have p4 : w4.cell? ⟨w.heap.size + 1 + 1, 4, none⟩ = some (.int .u64 (W4 k 0)) := k8 4 (by decide)
  have p5 : w4.cell? ⟨w.heap.size + 1 + 1, 5, none⟩ = some (.int .u64 (W4 k 1)) := k8 5 (by decide)
  have p6 : w4.cell? ⟨w.heap.size + 1 + 1, 6, none⟩ = some (.int .u64 (W4 k 2)) := k8 6 (by decide)
  have p7 : w4.cell? ⟨w.heap.size + 1 + 1, 7, none⟩ = some (.int .u64 (W4 k 3)) := k8 7 (by decide)
  have p8 : w4.cell? ⟨w.heap.size + 1 + 1, 8, none⟩ = some (.int .i64 b) := k8 8 (by decide)
  have q0 : w4.cell? ⟨w.heap.size + 1 + 1 + 1, 0, none⟩ = some (.int .i64 0) := k9 0 (by decide)
  have q1 : w4.cell? ⟨w.heap.size + 1 + 1 + 1, 1, none⟩ = some (.bool false) := k9 1 (by decide)
  have q2 : w4.cell? ⟨w.heap.size + 1 + 1 + 1, 2, none⟩ = some (.bool false) := k9 2 (by decide)
  have q3 : w4.cell? ⟨w.heap.size + 1 + 1 + 1, 3, none⟩ = some (.int .i64 0) := k9 3 (by decide)
  have q4 : w4.cell? ⟨w.heap.size + 1 + 1 + 1, 4, none⟩ = some (.int .u64 (W4 0 0)) := k9 4 (by decide)
  have q5 : w4.cell? ⟨w.heap.size + 1 + 1 + 1, 5, none⟩ = some (.int .u64 (W4 0 1)) := k9 5 (by decide)
  have q6 : w4.cell? ⟨w.heap.size + 1 + 1 + 1, 6, none⟩ = some (.int .u64 (W4 0 2)) := k9 6 (by decide)
  have q7 : w4.cell? ⟨w.heap.size + 1 + 1 + 1, 7, none⟩ = some (.int .u64 (W4 0 3)) := k9 7 (by decide)
  have q8 : w4.cell? ⟨w.heap.size + 1 + 1 + 1, 8, none⟩ = some (.int .i64 0) := k9 8 (by decide)
  clear k8 k9
  go_wp2
  exact bodyPost_ret (by simp only [results, Tryd.results8]; go_simp) rfl ⟨rfl, bgo⟩
variable (c2 : ∀ W, Tab W → Calls Tryd.prog 13 #[.int .i64 n, A4 B] W fun r w' => r = .returned (.tuple #[OV c' s' g' x' k' b', .int .i64 E']) ∧ Below W.heap.size W w')
include c2
set_option maxHeartbeats 4000000 in
theorem both_k (hE : E = 0) :
    Calls Tryd.prog 8 #[.int .i64 f, A4 A, .int .i64 n, A4 B] w fun r w' => r = .returned (.tuple #[OV c s g x k b, OV c' s' g' x' k' b', .int .i64 E']) ∧ Below w.heap.size w w' := by
  subst hE
  have hsm := cell_set_map
  go_enter Tryd.func8, Tryd.ntmps8
  go_wp2_with (first
    | (have := hA1; go_at_call 13; refine (c2 _ (hT.go bgo)).mono ?_; rintro r w2 ⟨rfl, hb2⟩; obtain ⟨hc2, hf2⟩ := bcell hb2; have hz2_0 : w.heap.size < w2.heap.size := lt_below hb2 ltg; have hl2_0 := Nat.le_of_lt hz2_0; have hz2_1 : w.heap.size + 1 < w2.heap.size := lt_below hb2 ltg; have hl2_1 := Nat.le_of_lt hz2_1; have hz2_2 : w.heap.size + 1 + 1 < w2.heap.size := lt_below hb2 ltg; have hl2_2 := Nat.le_of_lt hz2_2; have hz2_3 : w.heap.size + 1 + 1 + 1 < w2.heap.size := lt_below hb2 ltg; have hl2_3 := Nat.le_of_lt hz2_3; have hA2 := bnext (w0 := w) bgo hb2; have hs2 := hA2.size; clear hb2)
    | (go_at_call 13; refine (c1 _ (hT.go bgo)).mono ?_; rintro r w1 ⟨rfl, hb1⟩; obtain ⟨hc1, hf1⟩ := bcell hb1; have hz1_0 : w.heap.size < w1.heap.size := lt_below hb1 ltg; have hl1_0 := Nat.le_of_lt hz1_0; have hz1_1 : w.heap.size + 1 < w1.heap.size := lt_below hb1 ltg; have hl1_1 := Nat.le_of_lt hz1_1; have hz1_2 : w.heap.size + 1 + 1 < w1.heap.size := lt_below hb1 ltg; have hl1_2 := Nat.le_of_lt hz1_2; have hz1_3 : w.heap.size + 1 + 1 + 1 < w1.heap.size := lt_below hb1 ltg; have hl1_3 := Nat.le_of_lt hz1_3; have hA1 := bnext (w0 := w) bgo hb1; have hs1 := hA1.size; clear hb1))
  refine regBo (b := w.heap.size) (w0 := w) (h := w.heap.size + 1 + 1) (j := w.heap.size + 1 + 1 + 1) (c := c) (s := s) (g := g) (x := x) (k := k) (e := b) (c' := c') (s' := s') (g' := g') (x' := x') (k' := k') (e' := b') (E := E') rfl rfl rfl rfl bgo (by omega) (by omega) (by omega) ⟨by first | omega | (simp; omega) | simp, rfl, fun i hi => ?_, fun i => by go_simp⟩ ⟨by first | omega | (simp; omega) | simp, rfl, fun i hi => ?_, fun i => by go_simp⟩ ?_
  · rcases nine_cases hi with rfl | rfl | rfl | rfl | rfl | rfl | rfl | rfl | rfl <;> go_simp
  · rcases nine_cases hi with rfl | rfl | rfl | rfl | rfl | rfl | rfl | rfl | rfl <;> go_simp
  intro a' w4 hbe h8 h9 h10 hsz hdf hF2
  have ha := act_of [25, 26, 27, 0, 1, 10] 6 rfl hsz hdf hF2
  rw [ha]
  simp only [List.foldl_cons, List.foldl_nil, Act.put, List.setIfInBounds_toArray, List.set_cons_succ, List.set_cons_zero, h10]
  generalize slot a' 25 = s25
  generalize slot a' 26 = s26
  generalize slot a' 27 = s27
  generalize slot a' 0 = s0
  generalize slot a' 1 = s1
  clear ha h10 hsz hdf hF2
  obtain ⟨l8, _, k8, _⟩ := h8
  obtain ⟨l9, _, k9, _⟩ := h9
  have p0 : w4.cell? ⟨w.heap.size + 1 + 1, 0, none⟩ = some (.int .i64 c) := k8 0 (by decide)
  have p1 : w4.cell? ⟨w.heap.size + 1 + 1, 1, none⟩ = some (.bool s) := k8 1 (by decide)
  have p2 : w4.cell? ⟨w.heap.size + 1 + 1, 2, none⟩ = some (.bool g) := k8 2 (by decide)
  have p3 : w4.cell? ⟨w.heap.size + 1 + 1, 3, none⟩ = some (.int .i64 x) := k8 3 (by decide)
  have p4 : w4.cell? ⟨w.heap.size + 1 + 1, 4, none⟩ = some (.int .u64 (W4 k 0)) := k8 4 (by decide)
  have p5 : w4.cell? ⟨w.heap.size + 1 + 1, 5, none⟩ = some (.int .u64 (W4 k 1)) := k8 5 (by decide)
  have p6 : w4.cell? ⟨w.heap.size + 1 + 1, 6, none⟩ = some (.int .u64 (W4 k 2)) := k8 6 (by decide)
  have p7 : w4.cell? ⟨w.heap.size + 1 + 1, 7, none⟩ = some (.int .u64 (W4 k 3)) := k8 7 (by decide)
  have p8 : w4.cell? ⟨w.heap.size + 1 + 1, 8, none⟩ = some (.int .i64 b) := k8 8 (by decide)
  have q0 : w4.cell? ⟨w.heap.size + 1 + 1 + 1, 0, none⟩ = some (.int .i64 c') := k9 0 (by decide)
  have q1 : w4.cell? ⟨w.heap.size + 1 + 1 + 1, 1, none⟩ = some (.bool s') := k9 1 (by decide)
  have q2 : w4.cell? ⟨w.heap.size + 1 + 1 + 1, 2, none⟩ = some (.bool g') := k9 2 (by decide)
  have q3 : w4.cell? ⟨w.heap.size + 1 + 1 + 1, 3, none⟩ = some (.int .i64 x') := k9 3 (by decide)
  have q4 : w4.cell? ⟨w.heap.size + 1 + 1 + 1, 4, none⟩ = some (.int .u64 (W4 k' 0)) := k9 4 (by decide)
  have q5 : w4.cell? ⟨w.heap.size + 1 + 1 + 1, 5, none⟩ = some (.int .u64 (W4 k' 1)) := k9 5 (by decide)
  have q6 : w4.cell? ⟨w.heap.size + 1 + 1 + 1, 6, none⟩ = some (.int .u64 (W4 k' 2)) := k9 6 (by decide)
  have q7 : w4.cell? ⟨w.heap.size + 1 + 1 + 1, 7, none⟩ = some (.int .u64 (W4 k' 3)) := k9 7 (by decide)
  have q8 : w4.cell? ⟨w.heap.size + 1 + 1 + 1, 8, none⟩ = some (.int .i64 b') := k9 8 (by decide)
  clear k8 k9
  go_wp2
  exact bodyPost_ret (by simp only [results, Tryd.results8]; go_simp) rfl ⟨rfl, bgo⟩
end
end Go.Proofs.YtgknbdehlmlipaaDoor

namespace Go.Proofs.YtgknbdehlmlipaaDoor
open Go.RowKit
attribute [local irreducible] W4 NT NV
section
variable {a : Act} {w : World} {K : Act → World → Prop} {Q : Exit → Act → World → Prop} {d p : Nat} {ty : TypeId} {pos : String} {after : Array Edge} {gd : Option (Nat × Bool)}
end
def TW2 (X Y : Nat) (v : Value) (w : World) : Prop := ∃ a b, v = .tuple #[a, b] ∧ NT 7000 X a w ∧ NT 7000 Y b w
theorem TW2.next {X Y : Nat} {v : Value} {w w' : World} (h : TW2 X Y v w) (hb : Below w.heap.size w w') : TW2 X Y v w' := by
  obtain ⟨a, b, e, h1, h2⟩ := h
  exact ⟨a, b, e, h1.next hb, h2.next hb⟩
end Go.Proofs.YtgknbdehlmlipaaDoor

namespace Go.Proofs.YtgknbdehlmlipaaDoor
open Go.RowKit
/-- what order's calls answer, in a class of worlds -/
structure OrdC (TT : World → Prop) : Prop where
  next : ∀ w w', TT w → Below w.heap.size w w' → TT w'
  cm : ∀ n Ar Br W, Ar < 2 ^ 256 → Br < 2 ^ 256 → TT W → Calls Tryd.prog 5 #[.int .i64 n, A4 Ar, A4 Br] W fun r w' => r = .returned (.tuple #[.int .i64 (oMc n Ar n Br), .bool (oMo n Ar n Br), .int .i64 (oME n Ar n Br)]) ∧ Below W.heap.size W w'
/-- and Total -/
structure OrdT (TT : World → Prop) : Prop where
  ttl : ∀ n Ar Br W, Ar < 2 ^ 256 → Br < 2 ^ 256 → TT W → Calls Tryd.prog 6 #[.int .i64 n, A4 Ar, A4 Br] W fun r w' => r = .returned (.tuple #[.int .i64 (oTc n Ar Br), .int .i64 (oTE n Ar Br)]) ∧ Below W.heap.size W w'
theorem awk20_T : oMc 3 1065353216 3 1073741824 = -1 ∧ oMo 3 1065353216 3 1073741824 = true ∧ oME 3 1065353216 3 1073741824 = 0 := ⟨by kernel_rfl, by kernel_rfl, by kernel_rfl⟩
theorem awk20_W : (W4 1065353216 0 = 1065353216 ∧ W4 1065353216 1 = 0 ∧ W4 1065353216 2 = 0 ∧ W4 1065353216 3 = 0) ∧ (W4 1073741824 0 = 1073741824 ∧ W4 1073741824 1 = 0 ∧ W4 1073741824 2 = 0 ∧ W4 1073741824 3 = 0) := ⟨⟨by decide, by decide, by decide, by decide⟩, ⟨by decide, by decide, by decide, by decide⟩⟩
attribute [local irreducible] W4
set_option maxHeartbeats 1000000 in
theorem awake20 {TT : World → Prop} (h : OrdC TT) (w : World) (hT : TT w) : Calls Tryd.prog 4 #[] w fun r w' => r = .returned (.bool true) ∧ Below w.heap.size w w' := by
  have c9 := fun W hW => h.cm 3 1065353216 1073741824 W (by decide) (by decide) hW
  obtain ⟨e1, e2, e4⟩ := awk20_T
  obtain ⟨⟨w0, w1, w2, w3⟩, u0, u1, u2, u3⟩ := awk20_W
  rw [e1, e2, e4] at c9
  unfold A4 at c9
  rw [w0, w1, w2, w3, u0, u1, u2, u3] at c9
  clear w0 w1 w2 w3 u0 u1 u2 u3 e1 e2 e4
  have hsm := cell_set_map
  go_enter Tryd.func4, Tryd.ntmps4
  go_wp2_with (go_at_call 5; refine (c9 _ (h.next _ _ hT bgo)).mono ?_; rintro r w1 ⟨rfl, hb1⟩; obtain ⟨hc1, hf1⟩ := bcell hb1; have hA1 := bnext (w0 := w) bgo hb1; have hs1 := hA1.size; clear hb1)
  go_ret
  exact ⟨by first | rfl | simp, bgo⟩
section
variable (TT : World → Prop) (hTT : ∀ w w', TT w → Below w.heap.size w w' → TT w') (w : World) (hT : TT w)
  (c8 : ∀ W, TT W → Calls Tryd.prog 4 #[] W fun r w' => r = .returned (.bool true) ∧ Below W.heap.size W w')
variable (f g : Int) (Ar Br Cr : Nat)
include hTT hT c8
variable (n : Int)
set_option maxHeartbeats 4000000 in
theorem ag20_w (C T : Int) (o : Bool) (E F : Int) (h : (E != 0) = true ∨ ((E != 0) = false ∧ F = 0 ∧ (o = false ∨ (o = true ∧ C = 0) ∨ (o = true ∧ (C == 0) = false ∧ C = T))))
    (c9 : ∀ W, TT W → Calls Tryd.prog 5 #[.int .i64 n, A4 Ar, A4 Br] W fun r w' => r = .returned (.tuple #[.int .i64 C, .bool o, .int .i64 E]) ∧ Below W.heap.size W w')
    (c11 : ∀ W, TT W → Calls Tryd.prog 6 #[.int .i64 n, A4 Ar, A4 Br] W fun r w' => r = .returned (.tuple #[.int .i64 T, .int .i64 F]) ∧ Below W.heap.size W w') :
    Calls Tryd.prog 3 #[.int .i64 n, A4 Ar, A4 Br] w fun r w' => r = .returned (.bool true) ∧ Below w.heap.size w w' := by
  have hsm := cell_set_map
  unfold A4 at *
  rcases h with h | ⟨h, rfl, rfl | ⟨rfl, rfl⟩ | ⟨rfl, h2, rfl⟩⟩
  all_goals (
    go_enter Tryd.func3, Tryd.ntmps3
    go_wp2_with (first
      | (go_at_call 4; refine (c8 _ (hTT _ _ hT bgo)).mono ?_; rintro r w1 ⟨rfl, hb1⟩; obtain ⟨hc1, hf1⟩ := bcell hb1; have hz1_0 : w.heap.size < w1.heap.size := lt_below hb1 ltg; have hl1_0 := Nat.le_of_lt hz1_0; have hz1_1 : w.heap.size + 1 < w1.heap.size := lt_below hb1 ltg; have hl1_1 := Nat.le_of_lt hz1_1; have hA1 := bnext (w0 := w) bgo hb1; have hs1 := hA1.size; clear hb1)
      | (go_at_call 5; refine (c9 _ (hTT _ _ hT bgo)).mono ?_; rintro r w2 ⟨rfl, hb2⟩; obtain ⟨hc2, hf2⟩ := bcell hb2; have hz2_0 : w.heap.size < w2.heap.size := lt_below hb2 ltg; have hl2_0 := Nat.le_of_lt hz2_0; have hz2_1 : w.heap.size + 1 < w2.heap.size := lt_below hb2 ltg; have hl2_1 := Nat.le_of_lt hz2_1; have hA2 := bnext (w0 := w) bgo hb2; have hs2 := hA2.size; clear hb2)
      | (go_at_call 6; refine (c11 _ (hTT _ _ hT bgo)).mono ?_; rintro r w3 ⟨rfl, hb3⟩; obtain ⟨hc3, hf3⟩ := bcell hb3; have hz3_0 : w.heap.size < w3.heap.size := lt_below hb3 ltg; have hl3_0 := Nat.le_of_lt hz3_0; have hz3_1 : w.heap.size + 1 < w3.heap.size := lt_below hb3 ltg; have hl3_1 := Nat.le_of_lt hz3_1; have hA3 := bnext (w0 := w) bgo hb3; have hs3 := hA3.size; clear hb3))
    go_ret
    exact ⟨by first | rfl | simp, bgo⟩)

end
/-- a format's least exponent -/
def oL (n : Int) : Int := if binN n then leastN n else (fD n).l
theorem mX_pos (n : Int) : 0 < mX n := by rcases mX_or n with h | h <;> omega
theorem mD_K {n : Int} {B : Nat} (h : mE n B = 0) : oK (oL n) (mD n B) := by
  unfold mE at h
  unfold oL mD
  by_cases hb : binN n
  · rw [if_pos hb] at h
    rw [if_pos hb, if_pos hb]
    have hg : goodN n B := by
      refine Classical.byContradiction fun q => ?_
      rw [show unE n B = 1 from if_neg q] at h
      omega
    rcases und_is hg with ⟨h1, h2, h3, h4, h5, h6⟩ | ⟨h1, h2, h3, h4⟩ | ⟨h1, h2, h3, h4⟩
    · exact Or.inl ⟨h1, h2, h4⟩
    · exact Or.inr (Or.inl ⟨h1, h2, h3, h4⟩)
    · exact Or.inr (Or.inr ⟨h1, h2⟩)
  · rw [if_neg hb] at h
    rw [if_neg hb, if_neg hb]
    have hg : goodD n B := by
      refine Classical.byContradiction fun q => ?_
      rw [show vUE n B = 1 from if_neg q] at h
      omega
    rw [show vUD n B = vM (fD n) B from if_pos hg]
    rcases vM_is (fD_ok n) B with ⟨h1, h2, h3, h4, h5⟩ | ⟨h1, h2, h3, h4⟩ | ⟨h1, h2, h3⟩
    · exact Or.inl ⟨h1, h2, h4⟩
    · exact Or.inr (Or.inl ⟨h1, h2, h4, h3⟩)
    · exact Or.inr (Or.inr ⟨h1, h2⟩)
section
variable {TT : World → Prop} (h : OrdC TT) (w : World) (hT : TT w)
include h hT
theorem agrees20_v (hO : OrdT TT) (n : Int) (Ar Br : Nat) (hA : Ar < 2 ^ 256) (hB : Br < 2 ^ 256) :
    Calls Tryd.prog 3 #[.int .i64 n, A4 Ar, A4 Br] w fun r w' => r = .returned (.bool true) ∧ Below w.heap.size w w' := by
  refine ag20_w TT h.next w hT (fun W hW => awake20 h W hW) Ar Br n _ _ _ _ _ ?_ (fun W hW => h.cm n Ar Br W hA hB hW) (fun W hW => hO.ttl n Ar Br W hA hB hW)
  by_cases q : mE n Ar ≠ 0 ∨ mE n Br ≠ 0
  · left
    rw [show oME n Ar n Br = 1 from if_pos q]
    rfl
  · right
    have h1 : mE n Ar = 0 := Classical.byContradiction fun p => q (Or.inl p)
    have h2 : mE n Br = 0 := Classical.byContradiction fun p => q (Or.inr p)
    have eO : oMo n Ar n Br = (if (mD n Ar).c = 3 ∨ (mD n Br).c = 3 then false else true) := if_neg q
    have eC : oMc n Ar n Br = (if (mD n Ar).c = 3 ∨ (mD n Br).c = 3 then 0 else oV (mD n Ar) (mX n) (mD n Br) (mX n)) := if_neg q
    have eT : oTc n Ar Br = oT (mD n Ar) (mD n Br) (mX n) := if_neg q
    refine ⟨by rw [show oME n Ar n Br = 0 from if_neg q]; rfl, if_neg q, ?_⟩
    by_cases h3 : (mD n Ar).c = 3 ∨ (mD n Br).c = 3
    · left
      rw [eO, if_pos h3]
    · right
      rw [if_neg h3] at eO eC
      rw [eC, eT]
      by_cases h0 : oV (mD n Ar) (mX n) (mD n Br) (mX n) = 0
      · exact Or.inl ⟨eO, h0⟩
      · exact Or.inr ⟨eO, by simpa using h0, (oV_oT (mX_pos n) (mD_K h1) (mD_K h2) (fun p => h3 (Or.inl p)) (fun p => h3 (Or.inr p)) h0).symm⟩
end
end Go.Proofs.YtgknbdehlmlipaaDoor

namespace Go.Proofs.YtgknbdehlmlipaaDoor
open Go.RowKit
attribute [local irreducible] W4 Nt Nz NT
abbrev FnV (f : Nat) : Value := .func (.func f) #[] #[]
section
variable (c x b : Int) (s g : Bool) (k : Nat) (c' x' b' : Int) (s' g' : Bool) (k' : Nat) (R R' : Int) (w : World)
set_option maxHeartbeats 4000000 in
theorem sg_s
    (c1 : ∀ W, Calls Tryd.prog 12 #[OV c s g x k b, OV c' s' g' x' k' b'] W fun r w' => r = .returned (.int .i64 R) ∧ Below W.heap.size W w')
    (c2 : ∀ W, Calls Tryd.prog 12 #[OV c' s' g' x' k' b', OV c s g x k b] W fun r w' => r = .returned (.int .i64 R') ∧ Below W.heap.size W w') :
    Calls Tryd.prog 9 #[OV c s g x k b, OV c' s' g' x' k' b', FnV 12] w fun r w' => r = .returned (.int .i64 (sgV s s' R R')) ∧ Below w.heap.size w w' := by
  have hsm := cell_set_map
  cases s <;> cases s'
  · go_enter Tryd.func9, Tryd.ntmps9
    go_wp2_with (go_at_call 12; refine (c1 _).mono ?_; rintro r w1 ⟨rfl, hb1⟩; obtain ⟨hc1, hf1⟩ := bcell hb1; have hz1_0 : w.heap.size < w1.heap.size := lt_below hb1 ltg; have hl1_0 := Nat.le_of_lt hz1_0; have hz1_1 : w.heap.size + 1 < w1.heap.size := lt_below hb1 ltg; have hl1_1 := Nat.le_of_lt hz1_1; have hA1 := bnext (w0 := w) bgo hb1; have hs1 := hA1.size; clear hb1)
    go_ret
    exact ⟨by first | rfl | simp, bgo⟩
  · go_enter Tryd.func9, Tryd.ntmps9
    go_wp2
    go_ret
    exact ⟨by first | rfl | simp, bgo⟩
  · go_enter Tryd.func9, Tryd.ntmps9
    go_wp2
    go_ret
    exact ⟨by first | rfl | simp, bgo⟩
  · go_enter Tryd.func9, Tryd.ntmps9
    go_wp2_with (go_at_call 12; refine (c2 _).mono ?_; rintro r w2 ⟨rfl, hb2⟩; obtain ⟨hc2, hf2⟩ := bcell hb2; have hz2_0 : w.heap.size < w2.heap.size := lt_below hb2 ltg; have hl2_0 := Nat.le_of_lt hz2_0; have hz2_1 : w.heap.size + 1 < w2.heap.size := lt_below hb2 ltg; have hl2_1 := Nat.le_of_lt hz2_1; have hA2 := bnext (w0 := w) bgo hb2; have hs2 := hA2.size; clear hb2)
    go_ret
    exact ⟨by first | rfl | simp, bgo⟩
set_option maxHeartbeats 4000000 in
theorem sg_o
    (c1 : ∀ W, Calls Tryd.prog 10 #[OV c s g x k b, OV c' s' g' x' k' b'] W fun r w' => r = .returned (.int .i64 R) ∧ Below W.heap.size W w')
    (c2 : ∀ W, Calls Tryd.prog 10 #[OV c' s' g' x' k' b', OV c s g x k b] W fun r w' => r = .returned (.int .i64 R') ∧ Below W.heap.size W w') :
    Calls Tryd.prog 9 #[OV c s g x k b, OV c' s' g' x' k' b', FnV 10] w fun r w' => r = .returned (.int .i64 (sgV s s' R R')) ∧ Below w.heap.size w w' := by
  have hsm := cell_set_map
  cases s <;> cases s'
  · go_enter Tryd.func9, Tryd.ntmps9
    go_wp2_with (go_at_call 10; refine (c1 _).mono ?_; rintro r w1 ⟨rfl, hb1⟩; obtain ⟨hc1, hf1⟩ := bcell hb1; have hz1_0 : w.heap.size < w1.heap.size := lt_below hb1 ltg; have hl1_0 := Nat.le_of_lt hz1_0; have hz1_1 : w.heap.size + 1 < w1.heap.size := lt_below hb1 ltg; have hl1_1 := Nat.le_of_lt hz1_1; have hA1 := bnext (w0 := w) bgo hb1; have hs1 := hA1.size; clear hb1)
    go_ret
    exact ⟨by first | rfl | simp, bgo⟩
  · go_enter Tryd.func9, Tryd.ntmps9
    go_wp2
    go_ret
    exact ⟨by first | rfl | simp, bgo⟩
  · go_enter Tryd.func9, Tryd.ntmps9
    go_wp2
    go_ret
    exact ⟨by first | rfl | simp, bgo⟩
  · go_enter Tryd.func9, Tryd.ntmps9
    go_wp2_with (go_at_call 10; refine (c2 _).mono ?_; rintro r w2 ⟨rfl, hb2⟩; obtain ⟨hc2, hf2⟩ := bcell hb2; have hz2_0 : w.heap.size < w2.heap.size := lt_below hb2 ltg; have hl2_0 := Nat.le_of_lt hz2_0; have hz2_1 : w.heap.size + 1 < w2.heap.size := lt_below hb2 ltg; have hl2_1 := Nat.le_of_lt hz2_1; have hA2 := bnext (w0 := w) bgo hb2; have hs2 := hA2.size; clear hb2)
    go_ret
    exact ⟨by first | rfl | simp, bgo⟩
end
set_option maxHeartbeats 4000000 in
/-- cmp.Or of two -/
theorem cor_v (Z C : Int) (v : Value) (w : World) (h : TwI Z C v w) : Calls Tryd.prog 15 #[v] w fun r w' => r = .returned (.int .i64 (if Z ≠ 0 then Z else C)) ∧ Below w.heap.size w w' := by
  unfold TwI at h
  obtain ⟨g, rfl, hlt, h0, h1⟩ := h
  go_enter Tryd.func15, Tryd.ntmps15
  go_wp2
  go_loopw [5, 8] (fun v5 t wr => ∃ i : Nat, i ≤ 2 ∧ t = .int .i64 i ∧ (1 ≤ i → Z = 0) ∧ (2 ≤ i → C = 0) ∧ Below w.heap.size w wr) (fun _ t _ => 2 - (intOf t).toNat)
  case atStart => exact ⟨0, by decide, rfl, fun h => absurd h (by decide), fun h => absurd h (by decide), bgo⟩
  case round =>
    obtain ⟨i, hi, rfl, hz, hc, hb⟩ := hrel
    have q0 : wr.cell? ⟨g, 0, none⟩ = some (.int .i64 Z) := (hb.cell (p := ⟨g, 0, none⟩) hlt).trans h0
    have q1 : wr.cell? ⟨g, 1, none⟩ = some (.int .i64 C) := (hb.cell (p := ⟨g, 1, none⟩) hlt).trans h1
    have hor : i = 0 ∨ i = 1 ∨ i = 2 := by omega
    rcases hor with rfl | rfl | rfl
    · by_cases hZ : Z = 0
      · have hZ' : (Z != 0) = false := by simpa using hZ
        go_wp2
        go_roundw
        case rel => exact ⟨1, by decide, rfl, fun _ => hZ, fun h => absurd h (by decide), hb⟩
        case measure => simp [intOf]
      · have hZ' : (Z != 0) = true := by simpa using hZ
        go_wp2
        go_ret
        exact ⟨by simp [hZ], hb⟩
    · have hZ := hz (by decide)
      by_cases hC : C = 0
      · have hC' : (C != 0) = false := by simpa using hC
        go_wp2
        go_roundw
        case rel => exact ⟨2, by decide, rfl, fun _ => hZ, fun _ => hC, hb⟩
        case measure => simp [intOf]
      · have hC' : (C != 0) = true := by simpa using hC
        go_wp2
        go_ret
        exact ⟨by first | rfl | simp, hb⟩
    · have hZ := hz (by decide)
      have hC := hc (by decide)
      go_wp2
      go_ret
      exact ⟨by simp [hZ, hC], hb⟩
section
variable (c x b : Int) (s g : Bool) (k : Nat) (hk : k < 2 ^ 256) (c' x' b' : Int) (s' g' : Bool) (k' : Nat) (hk' : k' < 2 ^ 256) (w : World)
set_option maxHeartbeats 4000000 in
/-- outward, of two classes -/
theorem ow_c (h : (c != c') = true) : Calls Tryd.prog 10 #[OV c s g x k b, OV c' s' g' x' k' b'] w fun r w' => r = .returned (.int .i64 (sgn c c')) ∧ Below w.heap.size w w' := by
  have hsm := cell_set_map
  have c9 := fun W => compare_int c c' W
  go_enter Tryd.func10, Tryd.ntmps10
  go_wp2_with (go_at_call 14; refine (c9 _).mono ?_; rintro r w1 ⟨rfl, rfl⟩)
  go_ret
  exact ⟨by first | rfl | simp, bgo⟩
set_option maxHeartbeats 4000000 in
/-- outward, of numbers -/
theorem ow_n (h : (c != c') = false) (h3 : (c != 3) = true) (Z : Int)
    (c1 : ∀ W, Calls Tryd.prog 12 #[OV c s g x k b, OV c' s' g' x' k' b'] W fun r w' => r = .returned (.int .i64 Z) ∧ Below W.heap.size W w') :
    Calls Tryd.prog 10 #[OV c s g x k b, OV c' s' g' x' k' b'] w fun r w' => r = .returned (.int .i64 (if Z ≠ 0 then Z else sgn x x')) ∧ Below w.heap.size w w' := by
  have hsm := cell_set_map
  have c9 : ∀ W, Calls Tryd.prog 14 #[.int .i64 x, .int .i64 x'] W fun r w' => r = .returned (.int .i64 (sgn x x')) ∧ Below W.heap.size W w' := fun W => (compare_int x x' W).mono fun r w' h => ⟨h.1, h.2 ▸ Below.refl _ _⟩
  generalize hR : (if Z ≠ 0 then Z else sgn x x') = R
  go_enter Tryd.func10, Tryd.ntmps10
  go_wp2
  refine regOw4 (h := w.heap.size) (j := w.heap.size + 1) (k := k) (k' := k') (c := c) (x := x) (b := b) (s := s) (g := g) (c' := c') (x' := x') (b' := b') (s' := s') (g' := g') (Z := Z) (C := sgn x x') (R := R) (fun _ _ d _ _ h => by cases d <;> exact h) rfl rfl rfl (by first | omega | (simp; omega) | simp) (by go_simp) (by go_simp) (by go_simp) (by go_simp) (by go_simp) (by go_simp) (by go_simp) (by go_simp) (by go_simp) (by first | omega | (simp; omega) | simp) (by go_simp) (by go_simp) (by go_simp) (by go_simp) (by go_simp) (by go_simp) (by go_simp) (by go_simp) (by go_simp) c1 c9 (fun W v hv => by rw [← hR]; exact cor_v Z (sgn x x') v W hv) ?_
  intro a' w4 h4 hsz hdf hF2 hb4
  have ha := act_of slotsAOw4 13 rfl hsz hdf hF2
  rw [ha]
  simp only [slotsAOw4, List.foldl_cons, List.foldl_nil, Act.put, List.setIfInBounds_toArray, List.set_cons_succ, List.set_cons_zero, h4]
  generalize slot a' 25 = s25
  generalize slot a' 26 = s26
  generalize slot a' 27 = s27
  generalize slot a' 28 = s28
  generalize slot a' 29 = s29
  generalize slot a' 30 = s30
  generalize slot a' 31 = s31
  generalize slot a' 32 = s32
  generalize slot a' 33 = s33
  generalize slot a' 34 = s34
  generalize slot a' 35 = s35
  generalize slot a' 36 = s36
  clear ha h4 hsz hdf hF2
  obtain ⟨hc4, hf4⟩ := bcell hb4; have hz4_0 : w.heap.size < w4.heap.size := lt_below hb4 ltg; have hl4_0 := Nat.le_of_lt hz4_0; have hz4_1 : w.heap.size + 1 < w4.heap.size := lt_below hb4 ltg; have hl4_1 := Nat.le_of_lt hz4_1; have hA4 := bnext (w0 := w) bgo hb4; have hs4 := hA4.size; clear hb4
  go_wp2
  go_ret
  exact ⟨by first | rfl | simp, bgo⟩
set_option maxHeartbeats 4000000 in
/-- outward, of NaNs of two kinds -/
theorem ow_s (h : (c != c') = false) (h3 : (c != 3) = false) (R : Int) (hg : (g = true ∧ g' = false ∧ R = -1) ∨ (g = false ∧ g' = true ∧ R = 1)) :
    Calls Tryd.prog 10 #[OV c s g x k b, OV c' s' g' x' k' b'] w fun r w' => r = .returned (.int .i64 R) ∧ Below w.heap.size w w' := by
  have hsm := cell_set_map
  rcases hg with ⟨rfl, rfl, rfl⟩ | ⟨rfl, rfl, rfl⟩
  all_goals
    go_enter Tryd.func10, Tryd.ntmps10
    go_wp2
    go_ret
    exact ⟨by first | rfl | simp, bgo⟩
include hk hk'
set_option maxHeartbeats 4000000 in
/-- outward, of NaNs of one kind -/
theorem ow_p (h : (c != c') = false) (h3 : (c != 3) = false) (hg : g = g') (R : Int)
    (c3 : ∀ W v v', Nt 4 k v W → Nt 4 k' v' W → Calls Tryd.prog 16 #[v, v'] W fun r w' => r = .returned (.int .i64 R) ∧ Below W.heap.size W w') :
    Calls Tryd.prog 10 #[OV c s g x k b, OV c' s' g' x' k' b'] w fun r w' => r = .returned (.int .i64 R) ∧ Below w.heap.size w w' := by
  have hbx := fun W hW => op_new (w0 := w) (w := W) (c := c) (s := s) (g := g) (x := x) (b := b) (t := 36) hk hW
  have hby : ∀ W, Below ((w.alloc (.cells (OCs c s g x k b) 36)).alloc (.cells (OCs c' s' g' x' k' b') 36)).heap.size ((w.alloc (.cells (OCs c s g x k b) 36)).alloc (.cells (OCs c' s' g' x' k' b') 36)) W → Nt 4 k' (.slice (some ⟨w.heap.size + 1, 4, none⟩) 4 4) W := fun W hW => by
    have := op_new (w0 := w.alloc (.cells (OCs c s g x k b) 36)) (w := W) (c := c') (s := s') (g := g') (x := x') (b := b') (t := 36) hk' hW
    rwa [show (w.alloc (.cells (OCs c s g x k b) 36)).heap.size = w.heap.size + 1 by simp] at this
  clear hk hk'
  have hsm := cell_set_map
  subst hg
  cases g
  all_goals
    go_enter Tryd.func10, Tryd.ntmps10
    go_wp2
    refine wp_tail 6 (by kernel_rfl) (by kernel_rfl) (by kernel_rfl) (fun _ _ d _ _ h => by cases d <;> exact h) fun hne hcell => ?_
    simp only [List.take_succ_cons, List.take_zero, List.drop_succ_cons, List.drop_zero]
    repeat go_big_quiet_step (fail)
    refine wpQuiet_nil fun w2 hb2 => ?_
    have hv0 := hbx _ (bnx (below1 _ _) hb2)
    have hv1 := hby _ hb2
    obtain ⟨hc2, hf2⟩ := bcell hb2; have hz2_0 : w.heap.size < w2.heap.size := lt_below hb2 ltg; have hl2_0 := Nat.le_of_lt hz2_0; have hz2_1 : w.heap.size + 1 < w2.heap.size := lt_below hb2 ltg; have hl2_1 := Nat.le_of_lt hz2_1; have hA2 := bnext (w0 := w) bgo hb2; have hs2 := hA2.size; clear hb2
    go_wp2_with (go_at_call 16; refine (c3 _ _ _ hv0 hv1).mono ?_; rintro r w3 ⟨rfl, hb3⟩; obtain ⟨hc3, hf3⟩ := bcell hb3; have hz3_0 : w.heap.size < w3.heap.size := lt_below hb3 ltg; have hl3_0 := Nat.le_of_lt hz3_0; have hz3_1 : w.heap.size + 1 < w3.heap.size := lt_below hb3 ltg; have hl3_1 := Nat.le_of_lt hz3_1; have hA3 := bnext (w0 := w) bgo hb3; have hs3 := hA3.size; clear hb3)
    go_ret
    exact ⟨by first | rfl | simp, bgo⟩
end
end Go.Proofs.YtgknbdehlmlipaaDoor

namespace Go.Proofs.YtgknbdehlmlipaaDoor
open Go.RowKit
attribute [local irreducible] W4 Nt Nz NT
section
variable (f n : Int) (A B : Nat) (c x b : Int) (s g : Bool) (k : Nat) (c' x' b' : Int) (s' g' : Bool) (k' : Nat) (E : Int) (w : World) (hT : Tab w)
  (cB : ∀ W, Tab W → Calls Tryd.prog 8 #[.int .i64 f, A4 A, .int .i64 n, A4 B] W fun r w' => r = .returned (.tuple #[OV c s g x k b, OV c' s' g' x' k' b', .int .i64 E]) ∧ Below W.heap.size W w')
include hT cB
set_option maxHeartbeats 4000000 in
theorem mx_e (h : (E != 0) = true ∨ ((E != 0) = false ∧ E = 0 ∧ ((c == 3) = true ∨ ((c == 3) = false ∧ (c' == 3) = true)))) :
    Calls Tryd.prog 7 #[.int .i64 f, A4 A, .int .i64 n, A4 B] w fun r w' => r = .returned (.tuple #[.int .i64 0, .bool false, .int .i64 E]) ∧ Below w.heap.size w w' := by
  have hsm := cell_set_map
  rcases h with h | ⟨h, rfl, h3 | ⟨h3, h4⟩⟩
  all_goals
    go_enter Tryd.func7, Tryd.ntmps7
    go_wp2_with (go_at_call 8; refine (cB _ (hT.go bgo)).mono ?_; rintro r w1 ⟨rfl, hb1⟩; obtain ⟨hc1, hf1⟩ := bcell hb1; have hz1_0 : w.heap.size < w1.heap.size := lt_below hb1 ltg; have hl1_0 := Nat.le_of_lt hz1_0; have hz1_1 : w.heap.size + 1 < w1.heap.size := lt_below hb1 ltg; have hl1_1 := Nat.le_of_lt hz1_1; have hA1 := bnext (w0 := w) bgo hb1; have hs1 := hA1.size; clear hb1)
    exact bodyPost_ret (by simp only [results, Tryd.results7]; go_simp) rfl ⟨rfl, bgo⟩
variable (hE : E = 0) (h3 : (c == 3) = false) (h4 : (c' == 3) = false)
include hE h3 h4
set_option maxHeartbeats 4000000 in
theorem mx_0
    (c1 : ∀ W, Calls Tryd.prog 11 #[OV c s g x k b] W fun r w' => r = .returned (.bool true) ∧ Below W.heap.size W w')
    (c2 : ∀ W, Calls Tryd.prog 11 #[OV c' s' g' x' k' b'] W fun r w' => r = .returned (.bool true) ∧ Below W.heap.size W w') :
    Calls Tryd.prog 7 #[.int .i64 f, A4 A, .int .i64 n, A4 B] w fun r w' => r = .returned (.tuple #[.int .i64 0, .bool true, .int .i64 0]) ∧ Below w.heap.size w w' := by
  subst hE
  have hsm := cell_set_map
  go_enter Tryd.func7, Tryd.ntmps7
  go_wp2_with (first
    | (go_at_call 8; refine (cB _ (hT.go bgo)).mono ?_; rintro r w1 ⟨rfl, hb1⟩; obtain ⟨hc1, hf1⟩ := bcell hb1; have hz1_0 : w.heap.size < w1.heap.size := lt_below hb1 ltg; have hl1_0 := Nat.le_of_lt hz1_0; have hz1_1 : w.heap.size + 1 < w1.heap.size := lt_below hb1 ltg; have hl1_1 := Nat.le_of_lt hz1_1; have hA1 := bnext (w0 := w) bgo hb1; have hs1 := hA1.size; clear hb1)
    | (have := hA2; go_at_call 11; refine (c2 _).mono ?_; rintro r w3 ⟨rfl, hb3⟩; obtain ⟨hc3, hf3⟩ := bcell hb3; have hz3_0 : w.heap.size < w3.heap.size := lt_below hb3 ltg; have hl3_0 := Nat.le_of_lt hz3_0; have hz3_1 : w.heap.size + 1 < w3.heap.size := lt_below hb3 ltg; have hl3_1 := Nat.le_of_lt hz3_1; have hz3_2 : w1.heap.size < w3.heap.size := lt_below hb3 ltg; have hl3_2 := Nat.le_of_lt hz3_2; have hz3_3 : w1.heap.size + 1 < w3.heap.size := lt_below hb3 ltg; have hl3_3 := Nat.le_of_lt hz3_3; have hA3 := bnext (w0 := w) bgo hb3; have hs3 := hA3.size; clear hb3)
    | (go_at_call 11; refine (c1 _).mono ?_; rintro r w2 ⟨rfl, hb2⟩; obtain ⟨hc2, hf2⟩ := bcell hb2; have hz2_0 : w.heap.size < w2.heap.size := lt_below hb2 ltg; have hl2_0 := Nat.le_of_lt hz2_0; have hz2_1 : w.heap.size + 1 < w2.heap.size := lt_below hb2 ltg; have hl2_1 := Nat.le_of_lt hz2_1; have hz2_2 : w1.heap.size < w2.heap.size := lt_below hb2 ltg; have hl2_2 := Nat.le_of_lt hz2_2; have hz2_3 : w1.heap.size + 1 < w2.heap.size := lt_below hb2 ltg; have hl2_3 := Nat.le_of_lt hz2_3; have hA2 := bnext (w0 := w) bgo hb2; have hs2 := hA2.size; clear hb2))
  exact bodyPost_ret (by simp only [results, Tryd.results7]; go_simp) rfl ⟨rfl, bgo⟩
set_option maxHeartbeats 4000000 in
theorem mx_v (n1 n2 : Bool) (hn : n1 = false ∨ (n1 = true ∧ n2 = false)) (R : Int)
    (c1 : ∀ W, Calls Tryd.prog 11 #[OV c s g x k b] W fun r w' => r = .returned (.bool n1) ∧ Below W.heap.size W w')
    (c2 : ∀ W, Calls Tryd.prog 11 #[OV c' s' g' x' k' b'] W fun r w' => r = .returned (.bool n2) ∧ Below W.heap.size W w')
    (c3 : ∀ W, Calls Tryd.prog 9 #[OV c s g x k b, OV c' s' g' x' k' b', FnV 12] W fun r w' => r = .returned (.int .i64 R) ∧ Below W.heap.size W w') :
    Calls Tryd.prog 7 #[.int .i64 f, A4 A, .int .i64 n, A4 B] w fun r w' => r = .returned (.tuple #[.int .i64 R, .bool true, .int .i64 0]) ∧ Below w.heap.size w w' := by
  subst hE
  have hsm := cell_set_map
  rcases hn with rfl | ⟨rfl, rfl⟩
  all_goals
    go_enter Tryd.func7, Tryd.ntmps7
    go_wp2_with (first
      | (go_at_call 8; refine (cB _ (hT.go bgo)).mono ?_; rintro r w1 ⟨rfl, hb1⟩; obtain ⟨hc1, hf1⟩ := bcell hb1; have hz1_0 : w.heap.size < w1.heap.size := lt_below hb1 ltg; have hl1_0 := Nat.le_of_lt hz1_0; have hz1_1 : w.heap.size + 1 < w1.heap.size := lt_below hb1 ltg; have hl1_1 := Nat.le_of_lt hz1_1; have hA1 := bnext (w0 := w) bgo hb1; have hs1 := hA1.size; clear hb1)
      | (have := hA2; go_at_call 11; refine (c2 _).mono ?_; rintro r w3 ⟨rfl, hb3⟩; obtain ⟨hc3, hf3⟩ := bcell hb3; have hz3_0 : w.heap.size < w3.heap.size := lt_below hb3 ltg; have hl3_0 := Nat.le_of_lt hz3_0; have hz3_1 : w.heap.size + 1 < w3.heap.size := lt_below hb3 ltg; have hl3_1 := Nat.le_of_lt hz3_1; have hz3_2 : w1.heap.size < w3.heap.size := lt_below hb3 ltg; have hl3_2 := Nat.le_of_lt hz3_2; have hz3_3 : w1.heap.size + 1 < w3.heap.size := lt_below hb3 ltg; have hl3_3 := Nat.le_of_lt hz3_3; have hA3 := bnext (w0 := w) bgo hb3; have hs3 := hA3.size; clear hb3)
      | (go_at_call 11; refine (c1 _).mono ?_; rintro r w2 ⟨rfl, hb2⟩; obtain ⟨hc2, hf2⟩ := bcell hb2; have hz2_0 : w.heap.size < w2.heap.size := lt_below hb2 ltg; have hl2_0 := Nat.le_of_lt hz2_0; have hz2_1 : w.heap.size + 1 < w2.heap.size := lt_below hb2 ltg; have hl2_1 := Nat.le_of_lt hz2_1; have hz2_2 : w1.heap.size < w2.heap.size := lt_below hb2 ltg; have hl2_2 := Nat.le_of_lt hz2_2; have hz2_3 : w1.heap.size + 1 < w2.heap.size := lt_below hb2 ltg; have hl2_3 := Nat.le_of_lt hz2_3; have hA2 := bnext (w0 := w) bgo hb2; have hs2 := hA2.size; clear hb2)
      | (go_at_call 9; refine (c3 _).mono ?_; rintro r w4 ⟨rfl, hb4⟩; obtain ⟨hc4, hf4⟩ := bcell hb4; have hz4_0 : w.heap.size < w4.heap.size := lt_below hb4 ltg; have hl4_0 := Nat.le_of_lt hz4_0; have hz4_1 : w.heap.size + 1 < w4.heap.size := lt_below hb4 ltg; have hl4_1 := Nat.le_of_lt hz4_1; have hz4_2 : w1.heap.size < w4.heap.size := lt_below hb4 ltg; have hl4_2 := Nat.le_of_lt hz4_2; have hz4_3 : w1.heap.size + 1 < w4.heap.size := lt_below hb4 ltg; have hl4_3 := Nat.le_of_lt hz4_3; have hA4 := bnext (w0 := w) bgo hb4; have hs4 := hA4.size; clear hb4))
    exact bodyPost_ret (by simp only [results, Tryd.results7]; go_simp) rfl ⟨rfl, bgo⟩
end
section
variable (n : Int) (A B : Nat) (c x b : Int) (s g : Bool) (k : Nat) (c' x' b' : Int) (s' g' : Bool) (k' : Nat) (E : Int) (w : World) (hT : Tab w)
  (cB : ∀ W, Tab W → Calls Tryd.prog 8 #[.int .i64 n, A4 A, .int .i64 n, A4 B] W fun r w' => r = .returned (.tuple #[OV c s g x k b, OV c' s' g' x' k' b', .int .i64 E]) ∧ Below W.heap.size W w')
include hT cB
set_option maxHeartbeats 4000000 in
theorem tl_e (h : (E != 0) = true) :
    Calls Tryd.prog 6 #[.int .i64 n, A4 A, A4 B] w fun r w' => r = .returned (.tuple #[.int .i64 0, .int .i64 E]) ∧ Below w.heap.size w w' := by
  have hsm := cell_set_map
  go_enter Tryd.func6, Tryd.ntmps6
  go_wp2_with (go_at_call 8; refine (cB _ (hT.go bgo)).mono ?_; rintro r w1 ⟨rfl, hb1⟩; obtain ⟨hc1, hf1⟩ := bcell hb1; have hz1_0 : w.heap.size < w1.heap.size := lt_below hb1 ltg; have hl1_0 := Nat.le_of_lt hz1_0; have hz1_1 : w.heap.size + 1 < w1.heap.size := lt_below hb1 ltg; have hl1_1 := Nat.le_of_lt hz1_1; have hA1 := bnext (w0 := w) bgo hb1; have hs1 := hA1.size; clear hb1)
  exact bodyPost_ret (by simp only [results, Tryd.results6]; go_simp) rfl ⟨rfl, bgo⟩
set_option maxHeartbeats 4000000 in
theorem tl_v (hE : E = 0) (R : Int)
    (c3 : ∀ W, Calls Tryd.prog 9 #[OV c s g x k b, OV c' s' g' x' k' b', FnV 10] W fun r w' => r = .returned (.int .i64 R) ∧ Below W.heap.size W w') :
    Calls Tryd.prog 6 #[.int .i64 n, A4 A, A4 B] w fun r w' => r = .returned (.tuple #[.int .i64 R, .int .i64 0]) ∧ Below w.heap.size w w' := by
  subst hE
  have hsm := cell_set_map
  go_enter Tryd.func6, Tryd.ntmps6
  go_wp2_with (first
    | (go_at_call 8; refine (cB _ (hT.go bgo)).mono ?_; rintro r w1 ⟨rfl, hb1⟩; obtain ⟨hc1, hf1⟩ := bcell hb1; have hz1_0 : w.heap.size < w1.heap.size := lt_below hb1 ltg; have hl1_0 := Nat.le_of_lt hz1_0; have hz1_1 : w.heap.size + 1 < w1.heap.size := lt_below hb1 ltg; have hl1_1 := Nat.le_of_lt hz1_1; have hA1 := bnext (w0 := w) bgo hb1; have hs1 := hA1.size; clear hb1)
    | (go_at_call 9; refine (c3 _).mono ?_; rintro r w4 ⟨rfl, hb4⟩; obtain ⟨hc4, hf4⟩ := bcell hb4; have hz4_0 : w.heap.size < w4.heap.size := lt_below hb4 ltg; have hl4_0 := Nat.le_of_lt hz4_0; have hz4_1 : w.heap.size + 1 < w4.heap.size := lt_below hb4 ltg; have hl4_1 := Nat.le_of_lt hz4_1; have hz4_2 : w1.heap.size < w4.heap.size := lt_below hb4 ltg; have hl4_2 := Nat.le_of_lt hz4_2; have hz4_3 : w1.heap.size + 1 < w4.heap.size := lt_below hb4 ltg; have hl4_3 := Nat.le_of_lt hz4_3; have hA4 := bnext (w0 := w) bgo hb4; have hs4 := hA4.size; clear hb4))
  exact bodyPost_ret (by simp only [results, Tryd.results6]; go_simp) rfl ⟨rfl, bgo⟩
end
set_option maxHeartbeats 1000000 in
theorem cmp_l (n : Int) (A B : Nat) (C E : Int) (o : Bool) (w : World) (hT : Tab w)
    (c1 : ∀ W, Tab W → Calls Tryd.prog 7 #[.int .i64 n, A4 A, .int .i64 n, A4 B] W fun r w' => r = .returned (.tuple #[.int .i64 C, .bool o, .int .i64 E]) ∧ Below W.heap.size W w') :
    Calls Tryd.prog 5 #[.int .i64 n, A4 A, A4 B] w fun r w' => r = .returned (.tuple #[.int .i64 C, .bool o, .int .i64 E]) ∧ Below w.heap.size w w' := by
  have hsm := cell_set_map
  go_enter Tryd.func5, Tryd.ntmps5
  go_wp2_with (go_at_call 7; refine (c1 _ (hT.go bgo)).mono ?_; rintro r w1 ⟨rfl, hb1⟩; obtain ⟨hc1, hf1⟩ := bcell hb1; have hz1_0 : w.heap.size < w1.heap.size := lt_below hb1 ltg; have hl1_0 := Nat.le_of_lt hz1_0; have hz1_1 : w.heap.size + 1 < w1.heap.size := lt_below hb1 ltg; have hl1_1 := Nat.le_of_lt hz1_1; have hA1 := bnext (w0 := w) bgo hb1; have hs1 := hA1.size; clear hb1)
  exact bodyPost_ret (by simp only [results, Tryd.results5]; go_simp) rfl ⟨rfl, bgo⟩
end Go.Proofs.YtgknbdehlmlipaaDoor

namespace Go.Proofs.YtgknbdehlmlipaaDoor
open Go.RowKit
attribute [local irreducible] W4 Nt Nz NT
theorem mE_or (n : Int) (B : Nat) : mE n B = 0 ∨ mE n B = 1 := by
  unfold mE unE vUE
  split <;> split <;> simp
abbrev ODv (d : Dat) (X : Nat) : Value := OV d.c d.s d.g d.x d.k ((X : Nat) : Int)
theorem both_no {f n : Int} {A B : Nat} (hA : A < 2 ^ 256) (hB : B < 2 ^ 256) (w : World) (hT : Tab w) (h : mE f A ≠ 0 ∨ mE n B ≠ 0) :
    ∃ c s g x k b c' s' g' x' k' b', ∀ W, Tab W → Calls Tryd.prog 8 #[.int .i64 f, A4 A, .int .i64 n, A4 B] W fun r w' => r = .returned (.tuple #[OV c s g x k b, OV c' s' g' x' k' b', .int .i64 1]) ∧ Below W.heap.size W w' := by
  obtain ⟨c, s, g, x, k, b, _, cU⟩ := unp_v f A w hT hA
  obtain ⟨c', s', g', x', k', b', _, cV⟩ := unp_v n B w hT hB
  rcases mE_or f A with h1 | h1
  · rcases mE_or n B with h2 | h2
    · omega
    · rw [h1] at cU
      rw [h2] at cV
      exact ⟨c, s, g, x, k, b, c', s', g', x', k', b', fun W hW => both_k f n A B c x b s g k c' x' b' s' g' k' 0 1 W hW cU cV rfl⟩
  · rw [h1] at cU
    exact ⟨c, s, g, x, k, b, 0, false, false, 0, 0, 0, fun W hW => both_e f n A B c x b s g k 1 W hW cU rfl⟩
theorem both_yes {f n : Int} {A B : Nat} (hA : A < 2 ^ 256) (hB : B < 2 ^ 256) (w : World) (hT : Tab w) (h1 : mE f A = 0) (h2 : mE n B = 0) :
    ∀ W, Tab W → Calls Tryd.prog 8 #[.int .i64 f, A4 A, .int .i64 n, A4 B] W fun r w' => r = .returned (.tuple #[ODv (mD f A) (mX f), ODv (mD n B) (mX n), .int .i64 0]) ∧ Below W.heap.size W w' := by
  obtain ⟨c, s, g, x, k, b, e1, cU⟩ := unp_v f A w hT hA
  obtain ⟨c', s', g', x', k', b', e2, cV⟩ := unp_v n B w hT hB
  rw [e1 h1, h1] at cU
  rw [e2 h2, h2] at cV
  exact fun W hW => both_k f n A B _ _ _ _ _ _ _ _ _ _ _ _ 0 0 W hW cU cV rfl
theorem mD_c {n : Int} {B : Nat} (h : mE n B = 0) : (mD n B).c = 1 ∨ (mD n B).c = 2 ∨ (mD n B).c = 3 := by
  rcases mD_K h with ⟨q, _⟩ | ⟨q, _⟩ | ⟨q, _⟩ <;> omega
theorem szD_v {a b : Dat} {X Y : Nat} (hX : X = 2 ∨ X = 10) (hY : Y = 2 ∨ Y = 10) (hc : a.c = 1 ∨ a.c = 2) (hc' : b.c = 1 ∨ b.c = 2) (hk : a.k < 2 ^ 256) (hk' : b.k < 2 ^ 256)
    (hx : (-17000 ≤ a.x ∧ a.x ≤ 17000) ∧ (X = 10 → -10000 ≤ a.x ∧ a.x ≤ 10000)) (hy : (-17000 ≤ b.x ∧ b.x ≤ 17000) ∧ (Y = 10 → -10000 ≤ b.x ∧ b.x ≤ 10000)) (W : World) :
    Calls Tryd.prog 12 #[ODv a X, ODv b Y] W fun r w' => r = .returned (.int .i64 (szD a X b Y)) ∧ Below W.heap.size W w' :=
  osz_v hX hY rfl rfl hc hc' hk hk' (by omega) (by omega) hx.2 hy.2 W
theorem ord_mx (f : Int) (A : Nat) (n : Int) (B : Nat) (w : World) (hA : A < 2 ^ 256) (hB : B < 2 ^ 256) (hT : Tab w) :
    Calls Tryd.prog 7 #[.int .i64 f, A4 A, .int .i64 n, A4 B] w fun r w' => r = .returned (.tuple #[.int .i64 (oMc f A n B), .bool (oMo f A n B), .int .i64 (oME f A n B)]) ∧ Below w.heap.size w w' := by
  unfold oMc oMo oME
  by_cases h : mE f A ≠ 0 ∨ mE n B ≠ 0
  · rw [if_pos h, if_pos h, if_pos h]
    obtain ⟨c, s, g, x, k, b, c', s', g', x', k', b', cB⟩ := both_no hA hB w hT h
    exact mx_e f n A B c x b s g k c' x' b' s' g' k' 1 w hT cB (Or.inl rfl)
  · have h1 : mE f A = 0 := Classical.byContradiction fun q => h (Or.inl q)
    have h2 : mE n B = 0 := Classical.byContradiction fun q => h (Or.inr q)
    rw [if_neg h, if_neg h, if_neg h]
    have cB := both_yes hA hB w hT h1 h2
    have ka := mD_256 f A
    have kb := mD_256 n B
    have ca := mD_c h1
    have cb := mD_c h2
    have xa := mD_x f A
    have xb := mD_x n B
    have Xa := mX_or f
    have Xb := mX_or n
    generalize mD f A = a at *
    generalize mD n B = d at *
    generalize mX f = X at *
    generalize mX n = Y at *
    by_cases h3 : a.c = 3 ∨ d.c = 3
    · rw [if_pos h3, if_pos h3]
      refine mx_e f n A B _ _ _ _ _ _ _ _ _ _ _ _ 0 w hT cB (Or.inr ⟨rfl, rfl, ?_⟩)
      by_cases q : a.c = 3
      · exact Or.inl (by rw [q]; rfl)
      · exact Or.inr ⟨by simpa using q, by rw [h3.resolve_left q]; rfl⟩
    · rw [if_neg h3, if_neg h3]
      have ha2 : a.c = 1 ∨ a.c = 2 := by omega
      have hb2 : d.c = 1 ∨ d.c = 2 := by omega
      have e3 : (a.c == 3) = false := by simpa using fun q => h3 (Or.inl q)
      have e4 : (d.c == 3) = false := by simpa using fun q => h3 (Or.inr q)
      have c1 := fun W => ont_v a.c a.x ((X : Nat) : Int) a.s a.g a.k ka W
      have c2 := fun W => ont_v d.c d.x ((Y : Nat) : Int) d.s d.g d.k kb W
      by_cases hna : nghtD a
      · by_cases hnb : nghtD d
        · rw [oV_nn hna hnb]
          have d1 : decide (a.c = 1 ∧ a.k = 0) = true := decide_eq_true hna
          have d2 : decide (d.c = 1 ∧ d.k = 0) = true := decide_eq_true hnb
          rw [d1] at c1
          rw [d2] at c2
          exact mx_0 f n A B _ _ _ _ _ _ _ _ _ _ _ _ 0 w hT cB rfl e3 e4 c1 c2
        · rw [← oV_sg ha2 hb2 (fun q => hnb q.2)]
          exact mx_v f n A B _ _ _ _ _ _ _ _ _ _ _ _ 0 w hT cB rfl e3 e4 _ _ (Or.inr ⟨decide_eq_true hna, decide_eq_false hnb⟩) _ c1 c2 (fun W => sg_s _ _ _ _ _ _ _ _ _ _ _ _ _ _ W (fun W => szD_v Xa Xb ha2 hb2 ka kb xa xb W) (fun W => szD_v Xb Xa hb2 ha2 kb ka xb xa W))
      · rw [← oV_sg ha2 hb2 (fun q => hna q.1)]
        exact mx_v f n A B _ _ _ _ _ _ _ _ _ _ _ _ 0 w hT cB rfl e3 e4 _ _ (Or.inl (decide_eq_false hna)) _ c1 c2 (fun W => sg_s _ _ _ _ _ _ _ _ _ _ _ _ _ _ W (fun W => szD_v Xa Xb ha2 hb2 ka kb xa xb W) (fun W => szD_v Xb Xa hb2 ha2 kb ka xb xa W))
theorem outD_v {a b : Dat} {X : Nat} (hX : X = 2 ∨ X = 10) (hc : a.c = 1 ∨ a.c = 2 ∨ a.c = 3) (hc' : b.c = 1 ∨ b.c = 2 ∨ b.c = 3) (hk : a.k < 2 ^ 256) (hk' : b.k < 2 ^ 256)
    (hx : (-17000 ≤ a.x ∧ a.x ≤ 17000) ∧ (X = 10 → -10000 ≤ a.x ∧ a.x ≤ 10000)) (hy : (-17000 ≤ b.x ∧ b.x ≤ 17000) ∧ (X = 10 → -10000 ≤ b.x ∧ b.x ≤ 10000)) (W : World) :
    Calls Tryd.prog 10 #[ODv a X, ODv b X] W fun r w' => r = .returned (.int .i64 (outD a b X)) ∧ Below W.heap.size W w' := by
  unfold outD
  by_cases h : a.c ≠ b.c
  · rw [if_pos h]
    exact ow_c _ _ _ _ _ _ _ _ _ _ _ _ W (by simpa using h)
  · rw [if_neg h]
    have h' : a.c = b.c := Classical.byContradiction h
    have e1 : (a.c != b.c) = false := by simpa using h'
    by_cases h3 : a.c ≠ 3
    · rw [if_pos h3]
      exact ow_n _ _ _ _ _ _ _ _ _ _ _ _ W e1 (by simpa using h3) _ (fun W => szD_v hX hX (by omega) (by omega) hk hk' hx hy W)
    · rw [if_neg h3]
      have e3 : (a.c != 3) = false := by simpa using h3
      by_cases hg : a.g ≠ b.g
      · rw [if_pos hg]
        refine ow_s _ _ _ _ _ _ _ _ _ _ _ _ W e1 e3 _ ?_
        revert hg
        cases a.g <;> cases b.g <;> simp
      · rw [if_neg hg]
        exact ow_p _ _ _ _ _ _ hk _ _ _ _ _ _ hk' W e1 e3 (Classical.byContradiction hg) _ (fun W v v' hv hv' => ncmp_v (by decide) (by decide) hv hv')
theorem ord_tl (n : Int) (A : Nat) (B : Nat) (w : World) (hA : A < 2 ^ 256) (hB : B < 2 ^ 256) (hT : Tab w) :
    Calls Tryd.prog 6 #[.int .i64 n, A4 A, A4 B] w fun r w' => r = .returned (.tuple #[.int .i64 (oTc n A B), .int .i64 (oTE n A B)]) ∧ Below w.heap.size w w' := by
  unfold oTc oTE
  by_cases h : mE n A ≠ 0 ∨ mE n B ≠ 0
  · rw [if_pos h, if_pos h]
    obtain ⟨c, s, g, x, k, b, c', s', g', x', k', b', cB⟩ := both_no hA hB w hT h
    exact tl_e n A B c x b s g k c' x' b' s' g' k' 1 w hT cB rfl
  · have h1 : mE n A = 0 := Classical.byContradiction fun q => h (Or.inl q)
    have h2 : mE n B = 0 := Classical.byContradiction fun q => h (Or.inr q)
    rw [if_neg h, if_neg h]
    have cB := both_yes hA hB w hT h1 h2
    have ka := mD_256 n A
    have kb := mD_256 n B
    have ca := mD_c h1
    have cb := mD_c h2
    have xa := mD_x n A
    have xb := mD_x n B
    have Xa := mX_or n
    rw [← oT_sg ca cb]
    exact tl_v n A B _ _ _ _ _ _ _ _ _ _ _ _ 0 w hT cB rfl _ (fun W => sg_o _ _ _ _ _ _ _ _ _ _ _ _ _ _ W (fun W => outD_v Xa ca cb ka kb xa xb W) (fun W => outD_v Xa cb ca kb ka xb xa W))
theorem ordC : OrdC Tab := ⟨fun w w' h hb => h.go hb, fun n Ar Br W hA hB hT => cmp_l n Ar Br _ _ _ W hT (fun W' hT' => ord_mx n Ar n Br W' hA hB hT')⟩
theorem ordT : OrdT Tab := ⟨fun n Ar Br W hA hB hT => ord_tl n Ar Br W hA hB hT⟩
theorem orderAgrees_any (n : Int) (Ar Br : Nat) (w : World) (hT : Tab w) (hA : Ar < 2 ^ 256) (hB : Br < 2 ^ 256) :
    Calls Tryd.prog 3 #[.int .i64 n, A4 Ar, A4 Br] w fun r w' => r = .returned (.bool true) ∧ Below w.heap.size w w' := by
  exact agrees20_v ordC w hT ordT n Ar Br hA hB
end Go.Proofs.YtgknbdehlmlipaaDoor
