/-
  Texts that the proof leans on.
-/
import Derived.Test.YtgknbdehlmlipabGreatDoorJ8
import Derived.Test.YtgknbdehlmlipabGreatDoorJ29
import Derived.Test.YtgknbdehlmlipabGreatDoorJ26
import Derived.Test.YtgknbdehlmlipabGreatDoorJ22
import Derived.Test.YtgknbdehlmlipabGreatDoorJ3
import Derived.Test.YtgknbdehlmlipabGreatDoorJ5
import Derived.Test.YtgknbdehlmlipabGreatDoorJ30
set_option linter.unusedVariables false
set_option linter.unusedSectionVars false
set_option linter.unusedSimpArgs false
set_option maxRecDepth 20000
namespace Go.Proofs.YtgknbdehlmlipabGreatDoor
open Go.RowKit

theorem NT.nz {K V : Nat} {v : Value} {w : World} (h : NT K V v w) : Nz K V v w := by
  obtain ⟨g, k, cap, z, h1, h2, h3, h4, h5⟩ := h
  exact ⟨_, k, cap, z, h1, h2, h3, h4, h5⟩
theorem NT.nt {K V : Nat} {v : Value} {w : World} (h : NT K V v w) : Nt K V v w := h.nz.nt
theorem nmul_w {K K' A P : Nat} {v v' : Value} {w : World} (hK : K < 100000000) (hK' : K' < 100000000) (h : Nt K A v w) (h' : Nt K' P v' w) (hb : bl A + bl P ≤ 127000) :
    Calls Tryz.prog 82 #[v, v'] w fun r w' => ∃ q, r = .returned (.tuple #[q, .int .i64 0]) ∧ NT 2001 (A * P) q w' ∧ Below w.heap.size w w' := by
  obtain ⟨a, k, cap, z, rfl, hk, hN, hv⟩ := h
  obtain ⟨a', k', cap', z', rfl, hk', hN', hv'⟩ := h'
  have s1 := (size_bl (m := (bl A + 63) / 64) hN.2.2.1 hv).2 (by omega)
  have s2 := (size_bl (m := (bl P + 63) / 64) hN'.2.2.1 hv').2 (by omega)
  refine (nmul_any a a' k cap k' cap' z z' w (by omega) (by omega) hN hN' (by omega)).mono fun r w' ⟨g, q, cp, y, e1, hq, hNq, hvq, hsq, hB⟩ => ⟨_, e1, ⟨g, q, cp, y, rfl, by omega, hNq, ?_, hsq⟩, hB⟩
  rw [hvq, hv, hv']; simp
theorem nshl_w {K V : Nat} {v : Value} {w : World} (d : Nat) (hK : K < 100000000) (h : Nt K V v w) (hd : bl V + d ≤ 127000) :
    Calls Tryz.prog 83 #[v, .int .i64 (d : Int)] w fun e w' => ∃ r, e = .returned (.tuple #[r, .int .i64 0]) ∧ NT 2001 (V * 2 ^ d) r w' ∧ Below w.heap.size w w' := by
  obtain ⟨a, k, cap, z, rfl, hk, hN, hv⟩ := h
  have hs := (size_bl (m := (bl V + 63) / 64) hN.2.2.1 hv).2 (by omega)
  refine (nshl_any a k cap z d w (by omega) hN (by omega) (by omega)).mono fun e w' ⟨g, k', cap', z', h1, h2, h3, h4, h5, h6⟩ => ⟨_, h1, ⟨g, k', cap', z', rfl, h2, h3, ?_, h5⟩, h6⟩
  rw [h4, hv]; simp
theorem npow5z (m : Nat) (w : World) (hm : m ≤ 12000) : Calls Tryz.prog 81 #[.int .i64 5, .int .i64 (m : Int)] w fun r w' => ∃ v, r = .returned (.tuple #[v, .int .i64 0]) ∧ NT 2001 (5 ^ m) v w' ∧ Below w.heap.size w w' := by
  refine (npow_any 5 m w (Or.inl rfl) hm).mono fun r w' ⟨g, k, cap, z, e1, hk, hN, hv, hs, hB⟩ => ⟨_, e1, ⟨g, k, cap, z, rfl, hk, hN, ?_, hs⟩, hB⟩
  rw [hv]; simp
theorem nt_un1 {W : World} {g V : Nat} {vi : Int} (hg : g = W.heap.size) (hv : vi = (V : Int)) (hb : V < 18446744073709551616) (h0 : V ≠ 0) : NT 1 V (.slice (some ⟨g, 0, none⟩) 1 1) (W.alloc (.cells #[.int .u64 vi] 22)) := by
  subst hg hv
  refine ⟨_, 1, 1, oneW V, rfl, Nat.le_refl _, num_one W V (by omega), val_one1 V, ?_⟩
  have : oneW (V : Int) 0 ≠ 0 := by simp [oneW]; omega
  simp [sizeL, this]
attribute [local irreducible] W4 Nz Nt NT
/-- the guessed place of the first digit -/
def gsP (k : Nat) (x : Int) : Int := (((bl k : Int) - 1 + x) * 30103).tdiv 100000 - 1
end Go.Proofs.YtgknbdehlmlipabGreatDoor

namespace Go.Proofs.YtgknbdehlmlipabGreatDoor
open Go.RowKit
/-- an operand: a datum and its format's base -/
abbrev OV (c : Int) (s g : Bool) (x : Int) (k : Nat) (b : Int) : Value := .agg #[.int .i64 c, .bool s, .bool g, .int .i64 x, .int .u64 (W4 k 0), .int .u64 (W4 k 1), .int .u64 (W4 k 2), .int .u64 (W4 k 3), .int .i64 b]
abbrev OCs (c : Int) (s g : Bool) (x : Int) (k : Nat) (b : Int) : Array Value := #[.int .i64 c, .bool s, .bool g, .int .i64 x, .int .u64 (W4 k 0), .int .u64 (W4 k 1), .int .u64 (W4 k 2), .int .u64 (W4 k 3), .int .i64 b]
/-- four words in a block, as a slice -/
theorem nt_off {w : World} {h o k : Nat} (hk : k < 2 ^ 256) (hlt : h < w.heap.size) (hc : ∀ i, i < 4 → w.cell? ⟨h, o + i, none⟩ = some (.int .u64 (W4 k i))) :
    Nt 4 k (.slice (some ⟨h, o, none⟩) 4 4) w := by
  refine ⟨_, 4, 4, lowW (W4 k) 4, rfl, Nat.le_refl _, ⟨Nat.le_refl _, by unfold maxLen; omega, ?_, ?_, Or.inr ⟨h, o, rfl, hlt, ?_⟩⟩, ?_⟩
  · intro i
    by_cases hi : i < 4
    · rw [lowW_lt hi]; exact W4_words k i
    · rw [show lowW (W4 k) 4 i = 0 from if_neg hi]; exact ⟨Int.le_refl _, by decide⟩
  · intro i hi
    exact if_neg (by omega)
  · intro i hi
    rw [lowW_lt hi, hc i hi]
  · rw [val_congr (x := lowW (W4 k) 4) (y := W4 k) 4 (fun i hi => lowW_lt hi), W4_val4 hk]
theorem op_new {w0 w : World} {c x b : Int} {s g : Bool} {k : Nat} {t : TypeId} (hk : k < 2 ^ 256) (hb : Below (w0.alloc (.cells (OCs c s g x k b) t)).heap.size (w0.alloc (.cells (OCs c s g x k b) t)) w) :
    Nt 4 k (.slice (some ⟨w0.heap.size, 4, none⟩) 4 4) w := by
  have hs : w0.heap.size < (w0.alloc (.cells (OCs c s g x k b) t)).heap.size := by simp
  refine nt_off hk (Nat.lt_of_lt_of_le hs hb.size) fun i hi => ?_
  rw [hb.cell (p := ⟨w0.heap.size, 4 + i, none⟩) hs, World.cell?_alloc_new]
  have : i = 0 ∨ i = 1 ∨ i = 2 ∨ i = 3 := by omega
  rcases this with rfl | rfl | rfl | rfl <;> rfl
theorem b4_new {w0 w : World} {k : Nat} {t : TypeId} (hk : k < 2 ^ 256) (hb : Below (w0.alloc (.cells #[.int .u64 (W4 k 0), .int .u64 (W4 k 1), .int .u64 (W4 k 2), .int .u64 (W4 k 3)] t)).heap.size (w0.alloc (.cells #[.int .u64 (W4 k 0), .int .u64 (W4 k 1), .int .u64 (W4 k 2), .int .u64 (W4 k 3)] t)) w) :
    Nt 4 k (.slice (some ⟨w0.heap.size, 0, none⟩) 4 4) w := by
  have hs : w0.heap.size < (w0.alloc (.cells #[.int .u64 (W4 k 0), .int .u64 (W4 k 1), .int .u64 (W4 k 2), .int .u64 (W4 k 3)] t)).heap.size := by simp
  refine nt_off hk (Nat.lt_of_lt_of_le hs hb.size) fun i hi => ?_
  rw [hb.cell (p := ⟨w0.heap.size, 0 + i, none⟩) hs, World.cell?_alloc_new]
  have : i = 0 ∨ i = 1 ∨ i = 2 ∨ i = 3 := by omega
  rcases this with rfl | rfl | rfl | rfl <;> rfl
attribute [local irreducible] W4 Nt Nz NT
section
variable (c x b : Int) (s g : Bool) (k : Nat) (hk : k < 2 ^ 256) (w : World)
include hk
set_option maxHeartbeats 1000000 in
theorem ont_v : Calls Tryz.prog 22 #[OV c s g x k b] w fun r w' => r = .returned (.bool (decide (c = 1 ∧ k = 0))) ∧ Below w.heap.size w w' := by
  have hb0 := op_new (w0 := w) (w := w.alloc (.cells (OCs c s g x k b) 50)) (c := c) (s := s) (g := g) (x := x) (b := b) (t := 50) hk (Below.refl _ _)
  have hln := nlen_v (by decide) hb0
  have hd : (((bl k : Nat) : Int) == 0) = decide (k = 0) := by
    by_cases h : k = 0
    · subst h; rfl
    · rw [decide_eq_false h]; have := mt bl_zero.1 h; simp; omega
  have hsm := cell_set_map
  by_cases hc : c = 1
  · subst hc
    have e : decide ((1 : Int) = 1 ∧ k = 0) = decide (k = 0) := by simp
    rw [e]
    clear e
    go_enter Tryz.func22, Tryz.ntmps22
    go_wp2_with (go_at_call 34; refine hln.mono ?_; rintro r w1 ⟨rfl, rfl⟩)
    go_ret
    exact ⟨by first | rfl | simp, bgo⟩
  · have h1 : (c == 1) = false := by simpa using hc
    have e : decide (c = 1 ∧ k = 0) = false := by simp [hc]
    rw [e]
    clear e
    go_enter Tryz.func22, Tryz.ntmps22
    go_wp2
    go_ret
    exact ⟨by first | rfl | simp, bgo⟩
set_option maxHeartbeats 2000000 in
theorem reach_2 (hx : -20000 ≤ x ∧ x ≤ 20000) : Calls Tryz.prog 41 #[OV c s g x k 2] w fun r w' => r = .returned (.tuple #[.int .i64 (rcL 2 x k), .int .i64 (rcU 2 x k)]) ∧ Below w.heap.size w w' := by
  have hbl := bl_le.2 hk
  have hsm := cell_set_map
  have e1 : rcL 2 x k = 1000 * ((bl k : Int) - 1) + 1000 * x := rfl
  have e2 : rcU 2 x k = 1000 * (bl k : Int) + 1000 * x := rfl
  rw [e1, e2]
  clear e1 e2
  go_enter Tryz.func41, Tryz.ntmps41
  go_wp2
  refine wp_whole (by kernel_rfl) (by kernel_rfl) fun hne hcell => ?_
  repeat go_big_quiet_step (fail)
  refine wpQuiet_nil fun w1 hb1 => ?_
  have hb0 := op_new (w0 := w) (w := w1) (c := c) (s := s) (g := g) (x := x) (b := 2) (t := 50) hk hb1
  obtain ⟨hc1, hf1⟩ := bcell hb1; have hz1_0 : w.heap.size < w1.heap.size := lt_below hb1 ltg; have hl1_0 := Nat.le_of_lt hz1_0; have hA1 := bnext (w0 := w) bgo hb1; have hs1 := hA1.size; clear hb1
  go_wp2_with (go_at_call 34; refine (nlen_v (by decide) hb0).mono ?_; rintro r w2 ⟨rfl, rfl⟩)
  exact bodyPost_ret (v := .tuple #[.int .i64 (1000 * ((bl k : Int) - 1) + 1000 * x), .int .i64 (1000 * (bl k : Int) + 1000 * x)]) (by simp only [results, Tryz.results41]; go_simp) rfl ⟨rfl, bgo⟩
set_option maxHeartbeats 2000000 in
theorem reach_10 (hx : -10000 ≤ x ∧ x ≤ 10000) : Calls Tryz.prog 41 #[OV c s g x k 10] w fun r w' => r = .returned (.tuple #[.int .i64 (rcL 10 x k), .int .i64 (rcU 10 x k)]) ∧ Below w.heap.size w w' := by
  have hbl := bl_le.2 hk
  have hsm := cell_set_map
  have e1 : rcL 10 x k = 1000 * ((bl k : Int) - 1) + min (3321 * x) (3322 * x) := rfl
  have e2 : rcU 10 x k = 1000 * (bl k : Int) + max (3321 * x) (3322 * x) := rfl
  rw [e1, e2]
  clear e1 e2
  go_enter Tryz.func41, Tryz.ntmps41
  go_wp2
  refine wp_whole (by kernel_rfl) (by kernel_rfl) fun hne hcell => ?_
  repeat go_big_quiet_step (fail)
  refine wpQuiet_nil fun w1 hb1 => ?_
  have hq0 := op_new (w0 := w) (w := w1) (c := c) (s := s) (g := g) (x := x) (b := 10) (t := 50) hk hb1
  obtain ⟨hc1, hf1⟩ := bcell hb1; have hz1_0 : w.heap.size < w1.heap.size := lt_below hb1 ltg; have hl1_0 := Nat.le_of_lt hz1_0; have hA1 := bnext (w0 := w) bgo hb1; have hs1 := hA1.size; clear hb1
  go_wp2
  refine wp_whole (by kernel_rfl) (by kernel_rfl) fun hne hcell => ?_
  repeat go_big_quiet_step (fail)
  refine wpQuiet_nil fun w3 hb3 => ?_
  have hb0 := hq0.next hb3
  obtain ⟨hc3, hf3⟩ := bcell hb3; have hz3_0 : w.heap.size < w3.heap.size := lt_below hb3 ltg; have hl3_0 := Nat.le_of_lt hz3_0; have hA3 := bnext (w0 := w) bgo hb3; have hs3 := hA3.size; clear hb3
  go_wp2_with (go_at_call 34; refine (nlen_v (by decide) hb0).mono ?_; rintro r w2 ⟨rfl, rfl⟩)
  exact bodyPost_ret (v := .tuple #[.int .i64 (1000 * ((bl k : Int) - 1) + min (3321 * x) (3322 * x)), .int .i64 (1000 * (bl k : Int) + max (3321 * x) (3322 * x))]) (by simp only [results, Tryz.results41]; go_simp) rfl ⟨rfl, bgo⟩
set_option maxHeartbeats 1000000 in
theorem fives_2 : Calls Tryz.prog 60 #[OV c s g x k 2] w fun r w' => r = .returned (.int .i64 (fvE 2 x)) ∧ Below w.heap.size w w' := by
  have hsm := cell_set_map
  rw [show fvE 2 x = 0 from rfl]
  go_enter Tryz.func60, Tryz.ntmps60
  go_wp2
  go_ret
  exact ⟨by first | rfl | simp, bgo⟩
set_option maxHeartbeats 1000000 in
theorem fives_10 : Calls Tryz.prog 60 #[OV c s g x k 10] w fun r w' => r = .returned (.int .i64 (fvE 10 x)) ∧ Below w.heap.size w w' := by
  have hsm := cell_set_map
  rw [show fvE 10 x = x from rfl]
  go_enter Tryz.func60, Tryz.ntmps60
  go_wp2
  go_ret
  exact ⟨by first | rfl | simp, bgo⟩
end
end Go.Proofs.YtgknbdehlmlipabGreatDoor

namespace Go.Proofs.YtgknbdehlmlipabGreatDoor
open Go.RowKit

theorem und_is {m : Int} {B : Nat} (h : goodN m B) : isD (fN m) (leastN m) (mostN m) (unD m B) := by
  obtain ⟨S, E, F, hS, hE, hFr, hBe⟩ := fields_in h.2
  have hu : unD m B = mean (fN m) (eN m) (leastN m) S E F := by
    unfold unD; rw [if_pos h, hBe, unp_mean _ hS hE hFr]
  rw [hu]
  exact (mean_isD (bin_fm h.1) hS hE hFr).1
theorem fN_two {n : Int} (hb : binN n) : 2 ≤ fN n := by
  rcases bin_cases hb with rfl | rfl | rfl | rfl | rfl | rfl <;> decide
/-- a pattern that comes out is one of the format -/
theorem pk_good {n : Int} {D : Dat} (hb : binN n) (h : isD (fN n) (leastN n) (mostN n) D) : goodN n (pkV n D) ∧ unD n (pkV n D) = D :=
  back_pk (by unfold pkE; rw [if_pos hb, if_pos h])
theorem hush_is {f : Nat} {l m : Int} {D : Dat} (h : isD f l m D) : isD f l m (hush D) := by
  rcases h with ⟨h1, h2, h3, h4, h5, h6⟩ | ⟨h1, h2, h3, h4⟩ | ⟨h1, h2, h3, h4⟩
  · exact Or.inl ⟨h1, rfl, h3, h4, h5, h6⟩
  · exact Or.inr (Or.inl ⟨h1, rfl, h3, h4⟩)
  · exact Or.inr (Or.inr ⟨h1, h2, h3, Or.inr rfl⟩)
theorem qu_self {m : Int} {B : Nat} (h : goodN m B) : quV m B = pkV m (hush (unD m B)) ∧ quE m B = 0 ∧ ((unD m B).g = false → quV m B = B) := by
  have e1 : quV m B = pkV m (hush (unD m B)) := if_pos h
  refine ⟨e1, ?_, fun hg => ?_⟩
  · have : quE m B = pkE m (hush (unD m B)) := if_pos h
    rw [this]
    unfold pkE
    rw [if_pos h.1, if_pos (hush_is (und_is h))]
  · rw [e1, show hush (unD m B) = unD m B by unfold hush; rw [← hg]]
    exact (back_un h).2
/-! the sign -/
/-! the order -/
/-! what Convert answers -/
def cnG (m t d : Int) (B : Nat) : Prop := goodN m B ∧ binN t ∧ knB d
instance (m t d : Int) (B : Nat) : Decidable (cnG m t d B) := by unfold cnG; infer_instance
end Go.Proofs.YtgknbdehlmlipabGreatDoor
