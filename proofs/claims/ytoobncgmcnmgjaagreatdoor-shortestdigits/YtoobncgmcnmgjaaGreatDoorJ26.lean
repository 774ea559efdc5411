/-
  Texts that the proof leans on, joined: Sd9, Se9, Ord, Oc, Od.
-/
import Derived.Test.YtoobncgmcnmgjaaGreatDoorJ25
import Derived.Test.YtoobncgmcnmgjaaGreatDoorJ20
import Derived.Test.YtoobncgmcnmgjaaGreatDoorJ1
import Derived.StillTail
import Derived.Below
import Derived.WalkKit
set_option linter.unusedVariables false
set_option linter.unusedSectionVars false
set_option linter.unusedSimpArgs false
set_option maxRecDepth 20000
namespace Go.Proofs.YtoobncgmcnmgjaaGreatDoor
open Go.RowKit

attribute [local irreducible] W4 Nz Nt NT
section
variable (x p : Int) (A B C D : Nat) (w : World) (hx : -100000 ≤ x ∧ x ≤ 100000) (hp : -100000 ≤ p ∧ p ≤ 100000)
include hx hp
set_option maxHeartbeats 1000000 in
theorem frac_nn (h1 : p < 0) (h2 : x - p < 0)
    (c113 : ∀ W, Calls Tryz.prog 114 #[.int .i64 5, .int .i64 (-p)] W fun r w' => ∃ v, r = .returned (.tuple #[v, .int .i64 0]) ∧ NT 2001 A v w' ∧ Below W.heap.size W w')
    (c142 : ∀ W v, NT 1 1 v W → Calls Tryz.prog 143 #[v, .int .i64 (-(x - p))] W fun r w' => ∃ v, r = .returned (.tuple #[v, .int .i64 0]) ∧ NT 2001 B v w' ∧ Below W.heap.size W w') :
    Calls Tryz.prog 123 #[.int .i64 x, .int .i64 p] w fun r w' => ∃ a b, r = .returned (.tuple #[a, b]) ∧ NT 2001 A a w' ∧ NT 2001 B b w' ∧ Below w.heap.size w w' := by
  have hone : NT 1 1 (.slice (some ⟨w.heap.size + 1, 0, none⟩) 1 1) ((w.alloc (.cells #[.int .u64 1] 22)).alloc (.cells #[.int .u64 1] 22)) := nt_un1 (by simp) rfl (by decide) (by decide)
  have hb0 := bnx (below1 w (.cells #[.int .u64 1] 22)) (below1 (w.alloc (.cells #[.int .u64 1] 22)) (.cells #[.int .u64 1] 22))
  go_enter Tryz.func123, Tryz.ntmps123
  go_wp2_with (first
    | (go_at_call 114; refine (c113 _).mono ?_; rintro r w1 ⟨v1, rfl, hv1, hb1⟩)
    | (go_at_call 143; refine (c142 _ _ (hone.next hb1)).mono ?_; rintro r w2 ⟨v2, rfl, hv2, hb2⟩))
  exact bodyPost_ret (v := .tuple #[v1, v2]) (by simp only [results, Tryz.results123]; go_simp) rfl ⟨_, _, rfl, hv1.next hb2, hv2, bnx (bnx hb0 hb1) hb2⟩
set_option maxHeartbeats 1000000 in
theorem frac_np (h1 : p < 0) (h2 : ¬ x - p < 0)
    (c113 : ∀ W, Calls Tryz.prog 114 #[.int .i64 5, .int .i64 (-p)] W fun r w' => ∃ v, r = .returned (.tuple #[v, .int .i64 0]) ∧ NT 2001 A v w' ∧ Below W.heap.size W w')
    (c142 : ∀ W v, NT 2001 A v W → Calls Tryz.prog 143 #[v, .int .i64 (x - p)] W fun r w' => ∃ v, r = .returned (.tuple #[v, .int .i64 0]) ∧ NT 2001 B v w' ∧ Below W.heap.size W w') :
    Calls Tryz.prog 123 #[.int .i64 x, .int .i64 p] w fun r w' => ∃ a b, r = .returned (.tuple #[a, b]) ∧ NT 2001 B a w' ∧ NT 1 1 b w' ∧ Below w.heap.size w w' := by
  have hone : NT 1 1 (.slice (some ⟨w.heap.size + 1, 0, none⟩) 1 1) ((w.alloc (.cells #[.int .u64 1] 22)).alloc (.cells #[.int .u64 1] 22)) := nt_un1 (by simp) rfl (by decide) (by decide)
  have hb0 := bnx (below1 w (.cells #[.int .u64 1] 22)) (below1 (w.alloc (.cells #[.int .u64 1] 22)) (.cells #[.int .u64 1] 22))
  go_enter Tryz.func123, Tryz.ntmps123
  go_wp2_with (first
    | (go_at_call 114; refine (c113 _).mono ?_; rintro r w1 ⟨v1, rfl, hv1, hb1⟩)
    | (go_at_call 143; refine (c142 _ _ hv1).mono ?_; rintro r w2 ⟨v2, rfl, hv2, hb2⟩))
  exact bodyPost_ret (v := .tuple #[v2, _]) (by simp only [results, Tryz.results123]; go_simp) rfl ⟨_, _, rfl, hv2, (hone.next hb1).next hb2, bnx (bnx hb0 hb1) hb2⟩
set_option maxHeartbeats 1000000 in
theorem frac_pn (h1 : ¬ p < 0) (h2 : x - p < 0)
    (c113 : ∀ W, Calls Tryz.prog 114 #[.int .i64 5, .int .i64 p] W fun r w' => ∃ v, r = .returned (.tuple #[v, .int .i64 0]) ∧ NT 2001 A v w' ∧ Below W.heap.size W w')
    (c142 : ∀ W v, NT 2001 A v W → Calls Tryz.prog 143 #[v, .int .i64 (-(x - p))] W fun r w' => ∃ v, r = .returned (.tuple #[v, .int .i64 0]) ∧ NT 2001 B v w' ∧ Below W.heap.size W w') :
    Calls Tryz.prog 123 #[.int .i64 x, .int .i64 p] w fun r w' => ∃ a b, r = .returned (.tuple #[a, b]) ∧ NT 1 1 a w' ∧ NT 2001 B b w' ∧ Below w.heap.size w w' := by
  have hone : NT 1 1 (.slice (some ⟨w.heap.size, 0, none⟩) 1 1) (w.alloc (.cells #[.int .u64 1] 22)) := nt_un1 rfl rfl (by decide) (by decide)
  have hone1 := hone.next (below1 (w.alloc (.cells #[.int .u64 1] 22)) (.cells #[.int .u64 1] 22))
  have hb0 := bnx (below1 w (.cells #[.int .u64 1] 22)) (below1 (w.alloc (.cells #[.int .u64 1] 22)) (.cells #[.int .u64 1] 22))
  go_enter Tryz.func123, Tryz.ntmps123
  go_wp2_with (first
    | (go_at_call 114; refine (c113 _).mono ?_; rintro r w1 ⟨v1, rfl, hv1, hb1⟩)
    | (go_at_call 143; refine (c142 _ _ hv1).mono ?_; rintro r w2 ⟨v2, rfl, hv2, hb2⟩))
  exact bodyPost_ret (v := .tuple #[_, v2]) (by simp only [results, Tryz.results123]; go_simp) rfl ⟨_, _, rfl, (hone1.next hb1).next hb2, hv2, bnx (bnx hb0 hb1) hb2⟩
set_option maxHeartbeats 1000000 in
theorem frac_pp (h1 : ¬ p < 0) (h2 : ¬ x - p < 0)
    (c113 : ∀ W, Calls Tryz.prog 114 #[.int .i64 5, .int .i64 p] W fun r w' => ∃ v, r = .returned (.tuple #[v, .int .i64 0]) ∧ NT 2001 A v w' ∧ Below W.heap.size W w')
    (c142 : ∀ W v, NT 1 1 v W → Calls Tryz.prog 143 #[v, .int .i64 (x - p)] W fun r w' => ∃ v, r = .returned (.tuple #[v, .int .i64 0]) ∧ NT 2001 B v w' ∧ Below W.heap.size W w') :
    Calls Tryz.prog 123 #[.int .i64 x, .int .i64 p] w fun r w' => ∃ a b, r = .returned (.tuple #[a, b]) ∧ NT 2001 B a w' ∧ NT 2001 A b w' ∧ Below w.heap.size w w' := by
  have hone : NT 1 1 (.slice (some ⟨w.heap.size, 0, none⟩) 1 1) (w.alloc (.cells #[.int .u64 1] 22)) := nt_un1 rfl rfl (by decide) (by decide)
  have hone1 := hone.next (below1 (w.alloc (.cells #[.int .u64 1] 22)) (.cells #[.int .u64 1] 22))
  have hb0 := bnx (below1 w (.cells #[.int .u64 1] 22)) (below1 (w.alloc (.cells #[.int .u64 1] 22)) (.cells #[.int .u64 1] 22))
  go_enter Tryz.func123, Tryz.ntmps123
  go_wp2_with (first
    | (go_at_call 114; refine (c113 _).mono ?_; rintro r w1 ⟨v1, rfl, hv1, hb1⟩)
    | (go_at_call 143; refine (c142 _ _ (hone1.next hb1)).mono ?_; rintro r w2 ⟨v2, rfl, hv2, hb2⟩))
  exact bodyPost_ret (v := .tuple #[v2, v1]) (by simp only [results, Tryz.results123]; go_simp) rfl ⟨_, _, rfl, hv2, hv1.next hb2, bnx (bnx hb0 hb1) hb2⟩
end
/-- 2^x over 10^p, the twos of both together -/
theorem fraction_v (x p : Int) (w : World) (hx : -17000 ≤ x ∧ x ≤ 17000) (hp : -6000 ≤ p ∧ p ≤ 6000) :
    Calls Tryz.prog 123 #[.int .i64 x, .int .i64 p] w fun r w' => ∃ a b, r = .returned (.tuple #[a, b]) ∧ NT 2001 (5 ^ (-p).toNat * 2 ^ (x - p).toNat) a w' ∧ NT 2001 (5 ^ p.toNat * 2 ^ (-(x - p)).toNat) b w' ∧ Below w.heap.size w w' := by
  have b1 := five_bl (-p).toNat
  have b2 := five_bl p.toNat
  have bo : bl 1 = 1 := rfl
  have c113 : ∀ (m : Nat) (k : Int), k = (m : Int) → m ≤ 12000 → ∀ W, Calls Tryz.prog 114 #[.int .i64 5, .int .i64 k] W fun r w' => ∃ v, r = .returned (.tuple #[v, .int .i64 0]) ∧ NT 2001 (5 ^ m) v w' ∧ Below W.heap.size W w' := by
    rintro m k rfl hm W
    exact npow5z m W hm
  have c142 : ∀ (V K m : Nat) (k : Int), k = (m : Int) → K < 100000000 → bl V + m ≤ 127000 → ∀ W v, NT K V v W → Calls Tryz.prog 143 #[v, .int .i64 k] W fun r w' => ∃ v, r = .returned (.tuple #[v, .int .i64 0]) ∧ NT 2001 (V * 2 ^ m) v w' ∧ Below W.heap.size W w' := by
    rintro V K m k rfl hK hb W v hv
    exact nshl_w m hK hv.nt hb
  by_cases h1 : p < 0
  · have e1 : p.toNat = 0 := by omega
    by_cases h2 : x - p < 0
    · have e2 : (x - p).toNat = 0 := by omega
      refine (frac_nn x p _ _ w (by omega) (by omega) h1 h2 (c113 (-p).toNat _ (by omega) (by omega)) (c142 1 1 (-(x - p)).toNat _ (by omega) (by decide) (by omega))).mono fun r w' ⟨a, b, h3, h4, h5, h6⟩ => ⟨a, b, h3, ?_, ?_, h6⟩
      · rw [e2, Nat.pow_zero, Nat.mul_one]; exact h4
      · rw [e1, Nat.pow_zero]; exact h5
    · have e2 : (-(x - p)).toNat = 0 := by omega
      refine (frac_np x p _ _ w (by omega) (by omega) h1 h2 (c113 (-p).toNat _ (by omega) (by omega)) (fun W v hv => c142 _ 2001 (x - p).toNat _ (by omega) (by decide) (by omega) W v hv)).mono fun r w' ⟨a, b, h3, h4, h5, h6⟩ => ⟨a, b, h3, h4, ?_, h6⟩
      rw [e1, e2]; exact h5.more (by decide)
  · have e1 : (-p).toNat = 0 := by omega
    by_cases h2 : x - p < 0
    · have e2 : (x - p).toNat = 0 := by omega
      refine (frac_pn x p _ _ w (by omega) (by omega) h1 h2 (c113 p.toNat _ (by omega) (by omega)) (fun W v hv => c142 _ 2001 (-(x - p)).toNat _ (by omega) (by decide) (by omega) W v hv)).mono fun r w' ⟨a, b, h3, h4, h5, h6⟩ => ⟨a, b, h3, ?_, h5, h6⟩
      rw [e1, e2]; exact h4.more (by decide)
    · have e2 : (-(x - p)).toNat = 0 := by omega
      refine (frac_pp x p _ _ w (by omega) (by omega) h1 h2 (c113 p.toNat _ (by omega) (by omega)) (c142 1 1 (x - p).toNat _ (by omega) (by decide) (by omega))).mono fun r w' ⟨a, b, h3, h4, h5, h6⟩ => ⟨a, b, h3, ?_, ?_, h6⟩
      · rw [e1, Nat.pow_zero]; exact h4
      · rw [e2, Nat.pow_zero, Nat.mul_one]; exact h5
section
variable (n : Int) (c : Int) (s g : Bool) (x : Int) (k : Nat) (nm : ByteArray) (wd : Int) (f e : Nat) (l m : Int) (w : World) (hT : Tab w) (hk : k < 2 ^ 256) (hf : f ≤ 300)
  (c73 : ∀ W, Tab W → Calls Tryz.prog 74 #[.int .i64 n] W fun r w' => r = .returned (.tuple #[DI n nm wd f e l m, .int .i64 0]) ∧ Below W.heap.size W w')
  (c113 : ∀ W, Calls Tryz.prog 114 #[.int .i64 2, .int .i64 (f : Int)] W fun r w' => ∃ v, r = .returned (.tuple #[v, .int .i64 0]) ∧ Nt 2001 (2 ^ f) v w' ∧ Below W.heap.size W w')
include hT hk hf c73 c113
set_option maxHeartbeats 2000000 in
theorem near_l (h : ¬ l < x) :
    Calls Tryz.prog 124 #[.int .i64 n, DV c s g x k] w fun r w' => r = .returned (.bool false) ∧ Below w.heap.size w w' := by
  have hsm := cell_set_map
  unfold DV
  go_enter Tryz.func124, Tryz.ntmps124
  go_wp2_with (first
    | (go_at_call 74; refine (c73 _ (hT.go bgo)).mono ?_; rintro r w1 ⟨rfl, hb1⟩; obtain ⟨hc1, hf1⟩ := bcell hb1; have hz1_0 : w.heap.size < w1.heap.size := lt_below hb1 ltg; have hl1_0 := Nat.le_of_lt hz1_0; have hA1 := bnext (w0 := w) bgo hb1; have hs1 := hA1.size; clear hb1)
    | (go_at_call 114; refine (c113 _).mono ?_; rintro r w2 ⟨v2, rfl, hv2, hb2⟩; obtain ⟨hc2, hf2⟩ := bcell hb2; have hz2_0 : w.heap.size < w2.heap.size := lt_below hb2 ltg; have hl2_0 := Nat.le_of_lt hz2_0; have hz2_1 : w1.heap.size < w2.heap.size := lt_below hb2 ltg; have hl2_1 := Nat.le_of_lt hz2_1; have hA2 := bnext (w0 := w) bgo hb2; have hs2 := hA2.size; clear hb2))
  go_ret
  exact ⟨rfl, bgo⟩
set_option maxHeartbeats 2000000 in
theorem near_g (h : l < x) (sv : Int)
    (c98 : ∀ W v, Nt 4 k (.slice (some ⟨w.heap.size, 4, none⟩) 4 4) W → Nt 2001 (2 ^ f) v W → Calls Tryz.prog 99 #[.slice (some ⟨w.heap.size, 4, none⟩) 4 4, v] W fun r w' => r = .returned (.int .i64 sv) ∧ Below W.heap.size W w') :
    Calls Tryz.prog 124 #[.int .i64 n, DV c s g x k] w fun r w' => r = .returned (.bool (sv == 0)) ∧ Below w.heap.size w w' := by
  have hsm := cell_set_map
  unfold DV
  go_enter Tryz.func124, Tryz.ntmps124
  go_wp2_with (first
    | (go_at_call 74; refine (c73 _ (hT.go bgo)).mono ?_; rintro r w1 ⟨rfl, hb1⟩; obtain ⟨hc1, hf1⟩ := bcell hb1; have hz1_0 : w.heap.size < w1.heap.size := lt_below hb1 ltg; have hl1_0 := Nat.le_of_lt hz1_0; have hA1 := bnext (w0 := w) bgo hb1; have hs1 := hA1.size; clear hb1)
    | (go_at_call 114; refine (c113 _).mono ?_; rintro r w2 ⟨v2, rfl, hv2, hb2⟩; obtain ⟨hc2, hf2⟩ := bcell hb2; have hz2_0 : w.heap.size < w2.heap.size := lt_below hb2 ltg; have hl2_0 := Nat.le_of_lt hz2_0; have hz2_1 : w1.heap.size < w2.heap.size := lt_below hb2 ltg; have hl2_1 := Nat.le_of_lt hz2_1; have hA2 := bnext (w0 := w) bgo hb2; have hs2 := hA2.size; clear hb2)
    | (go_at_call 99; refine (c98 _ _ (nt_at hk (by assumption) (by go_simp) (by go_simp) (by go_simp) (by go_simp)) hv2).mono ?_; rintro r w3 ⟨rfl, hb3⟩; obtain ⟨hc3, hf3⟩ := bcell hb3; have hz3_0 : w.heap.size < w3.heap.size := lt_below hb3 ltg; have hl3_0 := Nat.le_of_lt hz3_0; have hz3_1 : w1.heap.size < w3.heap.size := lt_below hb3 ltg; have hl3_1 := Nat.le_of_lt hz3_1; have hA3 := bnext (w0 := w) bgo hb3; have hs3 := hA3.size; clear hb3))
  go_ret
  exact ⟨rfl, bgo⟩
end
/-- is the next number below nearer than the next one above -/
def nbB (n x : Int) (k : Nat) : Bool := decide (leastN n < x) && decide (k = 2 ^ fN n)
theorem near_v (n : Int) (c : Int) (s g : Bool) (x : Int) (k : Nat) (w : World) (hT : Tab w) (hb : binN n) (hk : k < 2 ^ 256) :
    Calls Tryz.prog 124 #[.int .i64 n, DV c s g x k] w fun r w' => r = .returned (.bool (nbB n x k)) ∧ Below w.heap.size w w' := by
  have hf := (bin_fm hb).f240
  have c73 := fun W (hT : Tab W) => dof_bin hb W hT
  have c113 := fun W => npow2z (fN n) W (by omega)
  unfold nbB
  by_cases h : leastN n < x
  · rw [decide_eq_true h, Bool.true_and]
    have := near_g n c s g x k (nameN n) (widthN n) (fN n) (eN n) (leastN n) (mostN n) w hT hk (by omega) c73 c113 h (sgn (k : Int) ((2 ^ fN n : Nat) : Int)) (fun W v h1 h2 => ncmp_v (by decide) (by decide) h1 h2)
    refine this.mono fun r w' ⟨h1, h2⟩ => ⟨?_, h2⟩
    rw [h1]
    rcases sgn_ways (k : Int) ((2 ^ fN n : Nat) : Int) with ⟨a, e⟩ | ⟨a, e⟩ | ⟨a, e⟩
    · rw [e, decide_eq_false (by omega)]; rfl
    · rw [e, decide_eq_true (by omega)]; rfl
    · rw [e, decide_eq_false (by omega)]; rfl
  · rw [decide_eq_false h, Bool.false_and]
    exact near_l n c s g x k (nameN n) (widthN n) (fN n) (eN n) (leastN n) (mostN n) w hT hk (by omega) c73 c113 h
end Go.Proofs.YtoobncgmcnmgjaaGreatDoor

namespace Go.Proofs.YtoobncgmcnmgjaaGreatDoor
open Go.RowKit

/-- a slice -/
def isSl (v : Value) : Prop := ∃ a k c, v = .slice a k c
theorem Nt.sl {K V : Nat} {v : Value} {w : World} (h : Nt K V v w) : isSl v := by
  obtain ⟨a, k, cap, z, h1, h2, h3, h4⟩ := h
  exact ⟨a, k, cap, h1⟩
/-- the block g is a reach -/
structure Rch (g : Nat) (vn vb va vw : Value) (c : Bool) (w : World) : Prop where
  blk : w.heap[g]? = some (.cells #[vn, vb, va, vw, .bool c] 131)
  s0 : isSl vn
  s1 : isSl vb
  s2 : isSl va
  s3 : isSl vw
/-- all but block g is as it was, but for what is new -/
structure Mut (g : Nat) (w w' : World) : Prop where
  os : w'.os = w.os
  tape : w'.tape = w.tape
  output : w'.output = w.output
  size : w.heap.size ≤ w'.heap.size
  block : ∀ k, k < w.heap.size → k ≠ g → w'.heap[k]? = w.heap[k]?
theorem Mut.refl (g : Nat) (w : World) : Mut g w w := ⟨rfl, rfl, rfl, Nat.le_refl _, fun _ _ _ => rfl⟩
theorem Mut.trans {g : Nat} {a b c : World} (h : Mut g a b) (k : Mut g b c) : Mut g a c :=
  ⟨k.os.trans h.os, k.tape.trans h.tape, k.output.trans h.output, Nat.le_trans h.size k.size, fun i hi hg => (k.block i (Nat.lt_of_lt_of_le hi h.size) hg).trans (h.block i hi hg)⟩
theorem Mut.below {g : Nat} {a b : World} (h : Below a.heap.size a b) : Mut g a b := ⟨h.os, h.tape, h.output, h.size, fun k hk _ => h.block k hk⟩
theorem Mut.set {g : Nat} {a b : World} (h : Mut g a b) (i : Nat) (v : Value) : Mut g a (b.setCell ⟨g, i, none⟩ v) :=
  h.trans ⟨rfl, rfl, rfl, by simp [World.setCell], fun k _ hk => Below.heap_setCell _ _ _ _ hk⟩
theorem Mut.out {g B : Nat} {w0 w w' : World} (h : Mut g w w') (h0 : Below B w0 w) (hB : B ≤ g) (hs : B ≤ w0.heap.size) : Below B w0 w' :=
  h0.trans ⟨h.os, h.tape, h.output, h.size, fun k hk => h.block k (by have := h0.size; omega) (by omega)⟩
theorem Rch.lt {g : Nat} {vn vb va vw : Value} {c : Bool} {w : World} (h : Rch g vn vb va vw c w) : g < w.heap.size := by
  rcases Nat.lt_or_ge g w.heap.size with h' | h'
  · exact h'
  · have := h.blk; rw [Array.getElem?_eq_none h'] at this; cases this
theorem Rch.next {g : Nat} {vn vb va vw : Value} {c : Bool} {w w' : World} (h : Rch g vn vb va vw c w) (hb : Below w.heap.size w w') : Rch g vn vb va vw c w' :=
  ⟨(hb.block g h.lt).trans h.blk, h.s0, h.s1, h.s2, h.s3⟩
theorem Rch.cell {g : Nat} {vn vb va vw : Value} {c : Bool} {w : World} (h : Rch g vn vb va vw c w) (i : Nat) : w.cell? ⟨g, i, none⟩ = (#[vn, vb, va, vw, .bool c] : Array Value)[i]? := by
  unfold World.cell?
  simp [h.blk]
theorem Rch.cells {g : Nat} {vn vb va vw : Value} {c : Bool} {w : World} (h : Rch g vn vb va vw c w) :
    w.cell? ⟨g, 0, none⟩ = some vn ∧ w.cell? ⟨g, 1, none⟩ = some vb ∧ w.cell? ⟨g, 2, none⟩ = some va ∧ w.cell? ⟨g, 3, none⟩ = some vw ∧ w.cell? ⟨g, 4, none⟩ = some (.bool c) :=
  ⟨h.cell 0, h.cell 1, h.cell 2, h.cell 3, h.cell 4⟩
theorem Rch.notint {g : Nat} {vn vb va vw : Value} {c : Bool} {w : World} (h : Rch g vn vb va vw c w) (i : Nat) (z : Int) : w.cell? ⟨g, i, none⟩ ≠ some (.int .u64 z) := by
  rw [h.cell i]
  obtain ⟨a0, k0, c0, rfl⟩ := h.s0
  obtain ⟨a1, k1, c1, rfl⟩ := h.s1
  obtain ⟨a2, k2, c2, rfl⟩ := h.s2
  obtain ⟨a3, k3, c3, rfl⟩ := h.s3
  match i with
  | 0 => simp
  | 1 => simp
  | 2 => simp
  | 3 => simp
  | 4 => simp
  | i + 5 => simp
theorem Nt.mut {K V g : Nat} {v vn vb va vw : Value} {c : Bool} {w w' : World} (h : Nt K V v w) (hr : Rch g vn vb va vw c w) (hm : Mut g w w') : Nt K V v w' := by
  obtain ⟨a, k, cap, z, h1, h2, ⟨n1, n2, n3, n4, n5⟩, h4⟩ := h
  refine ⟨a, k, cap, z, h1, h2, ⟨n1, n2, n3, n4, ?_⟩, h4⟩
  rcases n5 with n5 | ⟨b, off, e, hb, hc⟩
  · exact Or.inl n5
  · refine Or.inr ⟨b, off, e, Nat.lt_of_lt_of_le hb hm.size, fun i hi => ?_⟩
    by_cases hg : b = g
    · subst hg
      exact absurd (hc i hi) (hr.notint _ _)
    · exact (World.cell?_of_block (w := w) (a := ⟨b, off + i, none⟩) (hm.block b hb hg)).trans (hc i hi)
theorem Nz.mut {K V g : Nat} {v vn vb va vw : Value} {c : Bool} {w w' : World} (h : Nz K V v w) (hr : Rch g vn vb va vw c w) (hm : Mut g w w') : Nz K V v w' := by
  obtain ⟨a, k, cap, z, h1, h2, ⟨n1, n2, n3, n4, n5⟩, h4, h5⟩ := h
  refine ⟨a, k, cap, z, h1, h2, ⟨n1, n2, n3, n4, ?_⟩, h4, h5⟩
  rcases n5 with n5 | ⟨b, off, e, hb, hc⟩
  · exact Or.inl n5
  · refine Or.inr ⟨b, off, e, Nat.lt_of_lt_of_le hb hm.size, fun i hi => ?_⟩
    by_cases hg : b = g
    · subst hg
      exact absurd (hc i hi) (hr.notint _ _)
    · exact (World.cell?_of_block (w := w) (a := ⟨b, off + i, none⟩) (hm.block b hb hg)).trans (hc i hi)
theorem NT.mut {K V g : Nat} {v vn vb va vw : Value} {c : Bool} {w w' : World} (h : NT K V v w) (hr : Rch g vn vb va vw c w) (hm : Mut g w w') : NT K V v w' := by
  obtain ⟨a, k, cap, z, h1, h2, ⟨n1, n2, n3, n4, n5⟩, h4, h5⟩ := h
  refine ⟨a, k, cap, z, h1, h2, ⟨n1, n2, n3, n4, ?_⟩, h4, h5⟩
  rcases n5 with n5 | ⟨b, off, e, hb, hc⟩
  · exact Or.inl n5
  · refine Or.inr ⟨b, off, e, Nat.lt_of_lt_of_le hb hm.size, fun i hi => ?_⟩
    by_cases hg : b = g
    · subst hg
      exact absurd (hc i hi) (hr.notint _ _)
    · exact (World.cell?_of_block (w := w) (a := ⟨b, off + i, none⟩) (hm.block b hb hg)).trans (hc i hi)
theorem Rch.froz {g : Nat} {vn vb va vw : Value} {c : Bool} {w : World} (h : Rch g vn vb va vw c w) (i : Nat) : w.frozen? ⟨g, i, none⟩ = false := by
  unfold World.frozen?
  simp [h.blk]
theorem Rch.set {g : Nat} {vn vb va vw : Value} {c : Bool} {w : World} (h : Rch g vn vb va vw c w) (v : Value) (hv : isSl v) :
    Rch g v vb va vw c (w.setCell ⟨g, 0, none⟩ v) ∧ Rch g vn v va vw c (w.setCell ⟨g, 1, none⟩ v) ∧ Rch g vn vb v vw c (w.setCell ⟨g, 2, none⟩ v) ∧ Rch g vn vb va v c (w.setCell ⟨g, 3, none⟩ v) := by
  have hb := h.blk
  refine ⟨⟨?_, hv, h.s1, h.s2, h.s3⟩, ⟨?_, h.s0, hv, h.s2, h.s3⟩, ⟨?_, h.s0, h.s1, hv, h.s3⟩, ⟨?_, h.s0, h.s1, h.s2, hv⟩⟩ <;>
    simp [World.setCell, Array.getElem?_modify, hb]
/-- a number of one word -/
theorem Nz.small {K V : Nat} {v : Value} {w : World} (h : Nz K V v w) (hV : V < 18446744073709551616) :
    (V = 0 ∧ ∃ a cap, v = .slice a 0 cap) ∨ (V ≠ 0 ∧ ∃ b off cap, v = .slice (some ⟨b, off, none⟩) 1 cap ∧ b < w.heap.size ∧ w.cell? ⟨b, off, none⟩ = some (.int .u64 (V : Int))) := by
  obtain ⟨a, k, cap, z, h1, h2, ⟨n1, n2, n3, n4, n5⟩, h4, h5⟩ := h
  have hs : sizeL z k ≤ 1 := (size_bl n3 h4).2 (bl_le.2 (by omega))
  have hz := size_zero n3 h4
  rw [h5] at hs hz
  by_cases h0 : V = 0
  · obtain rfl := hz.2 h0
    exact Or.inl ⟨h0, a, cap, h1⟩
  · have hk : k ≠ 0 := fun e => h0 (hz.1 e)
    obtain rfl : k = 1 := by omega
    rcases n5 with ⟨_, n6⟩ | ⟨b, off, rfl, hb, hc⟩
    · omega
    · have e := hc 0 (by omega)
      rw [Nat.add_zero] at e
      have hv : z 0 = (V : Int) := by rw [← h4]; simp [val]
      rw [hv] at e
      exact Or.inr ⟨h0, b, off, cap, h1, hb, e⟩
attribute [local irreducible] W4 Nz Nt NT
section
variable (g : Nat) (vn vb va vw : Value) (c : Bool) (w : World) (hR : Rch g vn vb va vw c w)
include hR
set_option maxHeartbeats 1000000 in
theorem split_v {N Z : Nat} (hn : Nt 2001 N vn w) (hw : Nt 2001 Z vw w) (hZ : 0 < Z) (hN : N < 10 * Z) (hbn : bl N ≤ 128000) (hbz : bl Z ≤ 128000) :
    Calls Tryz.prog 100 #[.pointer (some ⟨g, 0, none⟩)] w fun r w' => ∃ v, r = .returned (.tuple #[.int .u64 ((N / Z : Nat) : Int), v]) ∧ Nz 2001 (N % Z) v w' ∧ Below w.heap.size w w' := by
  have hd : N / Z < 10 := (Nat.div_lt_iff_lt_mul hZ).2 hN
  obtain ⟨k0, k1, k2, k3, k4⟩ := hR.cells
  have hlt := hR.lt
  have c127 := fun W (hW : Below w.heap.size w W) => ndiv_v (w := W) (by decide) (by decide) (hn.next hW) (hw.next hW) hbn hbz (Nat.pos_iff_ne_zero.1 hZ)
  obtain ⟨a0, n0, p0, rfl⟩ := hn.sl
  obtain ⟨a3, n3, p3, rfl⟩ := hw.sl
  clear hR hn hw k1 k2 k4
  go_enter Tryz.func100, Tryz.ntmps100
  go_wp2
  refine wp_tail 8 (by kernel_rfl) (by kernel_rfl) (by kernel_rfl) (fun _ _ d _ _ h => by cases d <;> exact h) fun hne hcell => ?_
  simp only [List.take_succ_cons, List.take_zero, List.drop_succ_cons, List.drop_zero]
  repeat go_big_quiet_step (fail)
  refine wpQuiet_nil fun w0 hb0 => ?_
  go_upto_region 2 with (go_at_call 128; refine (c127 _ hb0).mono ?_; rintro r w1 ⟨q, v, rfl, hq, hv, hb1⟩)
  replace hb1 := bnx hb0 hb1
  rcases hq.small (by omega) with ⟨h0, aq, cq, rfl⟩ | ⟨h0, b, off, cq, rfl, hbq, hcq⟩
  · have e0 : Value.int .u64 ((N / Z : Nat) : Int) = .int .u64 0 := by rw [h0]; rfl
    clear c127
    go_wp2
    exact bodyPost_ret (v := .tuple #[.int .u64 0, v]) (by simp only [results, Tryz.results100]; go_simp) rfl ⟨_, by rw [e0], hv, hb1⟩
  · clear c127
    go_wp2
    exact bodyPost_ret (v := .tuple #[.int .u64 ((N / Z : Nat) : Int), v]) (by simp only [results, Tryz.results100]; go_simp) rfl ⟨_, rfl, hv, hb1⟩
set_option maxHeartbeats 1000000 in
theorem within_v {A B : Nat} {v v' : Value} (h : Nt 2003 A v w) (h' : Nt 4100 B v' w) :
    Calls Tryz.prog 101 #[.pointer (some ⟨g, 0, none⟩), v, v'] w fun r w' => r = .returned (.bool (wiN c A B)) ∧ Below w.heap.size w w' := by
  obtain ⟨k0, k1, k2, k3, k4⟩ := hR.cells
  have hlt := hR.lt
  have c98 := ncmp_v (w := w) (by decide) (by decide) h h'
  clear hR k0 k1 k2 k3 h h'
  unfold wiN
  rcases sgn_ways (A : Int) (B : Int) with ⟨a, e⟩ | ⟨a, e⟩ | ⟨a, e⟩
  · rw [decide_eq_true (show A < B by omega), Bool.true_or]
    rw [e] at c98
    go_enter Tryz.func101, Tryz.ntmps101
    go_wp2_with (go_at_call 99; refine c98.mono ?_; rintro r w1 ⟨rfl, hb1⟩; obtain ⟨hc1, hf1⟩ := bcell hb1; have hlt1 : g < w1.heap.size := Nat.lt_of_lt_of_le hlt hb1.size)
    go_ret
    exact ⟨rfl, hb1⟩
  · rw [decide_eq_false (show ¬ A < B by omega), decide_eq_true (show A = B by omega), Bool.false_or, Bool.true_and]
    rw [e] at c98
    go_enter Tryz.func101, Tryz.ntmps101
    go_wp2_with (go_at_call 99; refine c98.mono ?_; rintro r w1 ⟨rfl, hb1⟩; obtain ⟨hc1, hf1⟩ := bcell hb1; have hlt1 : g < w1.heap.size := Nat.lt_of_lt_of_le hlt hb1.size)
    go_ret
    exact ⟨rfl, hb1⟩
  · rw [decide_eq_false (show ¬ A < B by omega), decide_eq_false (show ¬ A = B by omega), Bool.false_or, Bool.false_and]
    rw [e] at c98
    go_enter Tryz.func101, Tryz.ntmps101
    go_wp2_with (go_at_call 99; refine c98.mono ?_; rintro r w1 ⟨rfl, hb1⟩; obtain ⟨hc1, hf1⟩ := bcell hb1; have hlt1 : g < w1.heap.size := Nat.lt_of_lt_of_le hlt hb1.size)
    go_ret
    exact ⟨rfl, hb1⟩
end
end Go.Proofs.YtoobncgmcnmgjaaGreatDoor

namespace Go.Proofs.YtoobncgmcnmgjaaGreatDoor
open Go.RowKit

section
variable {P : Program} {ops : Array Oper} {Q : Exit → Act → World → Prop} {md : Region.Mode}

/-- how many of the first n are still to come -/
def toCome (listed : Array Bool) : Nat → Nat
  | 0 => 0
  | n + 1 => toCome listed n + (if listed.getD n true then 0 else 1)
theorem toCome_out {listed : Array Bool} {i : Nat} : ∀ n, n ≤ i → toCome (listed.setIfInBounds i true) n = toCome listed n
  | 0, _ => rfl
  | n + 1, h => by unfold toCome; rw [toCome_out n (by omega), getD_set_ne true (by omega)]
theorem toCome_set {listed : Array Bool} {i : Nat} (hu : listed.getD i true = false) : ∀ n, i < n → toCome (listed.setIfInBounds i true) n + 1 = toCome listed n
  | 0, h => by omega
  | n + 1, h => by
    unfold toCome
    by_cases e : i = n
    · subst e
      have hlt : i < listed.size := by
        rcases Nat.lt_or_ge i listed.size with h' | h'
        · exact h'
        · simp [Array.getElem?_eq_none h'] at hu
      rw [toCome_out i (Nat.le_refl _), hu]
      simp [hlt]
    · rw [getD_set_ne true e]
      have := toCome_set hu n (by omega)
      omega
theorem toCome_zero {listed : Array Bool} : ∀ n, toCome listed n = 0 → ∀ i, i < n → listed.getD i true = true
  | 0, _, i, h => by omega
  | n + 1, h, i, hi => by
    unfold toCome at h
    by_cases e : i = n
    · subst e
      by_cases hl : listed.getD i true = true
      · exact hl
      · rw [if_neg hl] at h; omega
    · exact toCome_zero n (by omega) i (by omega)
theorem toCome_least {listed : Array Bool} : ∀ n, 0 < toCome listed n → ∃ i, i < n ∧ listed.getD i true = false ∧ ∀ j, j < i → listed.getD j true = true
  | 0, h => by simp [toCome] at h
  | n + 1, h => by
    by_cases h0 : 0 < toCome listed n
    · obtain ⟨i, h1, h2, h3⟩ := toCome_least n h0
      exact ⟨i, by omega, h2, h3⟩
    · unfold toCome at h
      have hz := toCome_zero (listed := listed) n (by omega)
      refine ⟨n, by omega, ?_, fun j hj => hz j hj⟩
      cases hl : listed.getD n true with
      | false => rfl
      | true => rw [hl, if_pos rfl] at h; omega

/-- of the first n each waits for earlier ones alone -/
def backB (md : Region.Mode) (ops : Array Oper) (n : Nat) : Bool :=
  (List.range n).all fun i => match ops[i]? with
    | some o => o.after.all fun e => !Region.binds md e || decide (e.on < i)
    | none => false
theorem backB_spec {n : Nat} (h : backB md ops n = true) (i : Nat) (hi : i < n) : ∃ o, ops[i]? = some o ∧ ∀ e ∈ o.after, Region.binds md e = true → e.on < i := by
  have h1 := List.all_eq_true.1 h i (List.mem_range.2 hi)
  cases ho : ops[i]? with
  | none => simp only [ho] at h1; cases h1
  | some o =>
    simp only [ho] at h1
    refine ⟨o, rfl, fun e he hb => ?_⟩
    have h2 := Array.all_eq_true_iff_forall_mem.1 h1 e he
    simpa [hb] using h2

theorem getD_true_in {listed : Array Bool} {i : Nat} (hi : i < listed.size) (h : listed.getD i true = true) : listed.getD i false = true := by
  simp [hi] at h ⊢; exact h

/-- what stands when the first n are done -/
def headDone (n m : Nat) : Array Bool := (List.replicate n true ++ List.replicate (m - n) false).toArray

theorem headDone_eq {n : Nat} {listed : Array Bool} (hn : n ≤ ops.size) (inv : HeadInv md ops n listed) (h : ∀ i, i < n → listed.getD i true = true) : listed = headDone n ops.size := by
  apply Array.ext
  · simp [headDone, inv.size]; omega
  · intro i h1 h2
    by_cases hi : i < n
    · have := h i hi
      simp [h1] at this
      rw [this]
      simp [headDone, List.getElem_append, hi]
    · have := inv.tail i (by omega) (by rw [← inv.size]; exact h1)
      simp [h1] at this
      rw [this]
      simp [headDone, List.getElem_append, hi]

theorem toCome_replicate (m : Nat) : ∀ n, n ≤ m → toCome (Array.replicate m false) n = n
  | 0, _ => rfl
  | n + 1, h => by unfold toCome; rw [toCome_replicate m n (by omega)]; simp [show n < m by omega]

/-- all the checks of a region in one -/
def invB (md : Region.Mode) (ops : Array Oper) (n : Nat) : Bool :=
  Region.sinkB md ops n && Region.chainB md ops n && decide (n < ops.size) && backB md ops n && Region.seqB md ops (ops.size - n) n (headDone n ops.size)

/-- what slot t of a frame holds -/
abbrev slot (a : Act) (t : Nat) : Value := a.tmps[t]?.getD undef
theorem slot_put_ne {a : Act} {d t : Nat} {v : Value} (h : d ≠ t) : slot (a.put (some d) v) t = slot a t := by
  simp [slot, Act.put, Array.getElem?_setIfInBounds_ne h]
theorem slot_put {a : Act} {d : Nat} {v : Value} (h : d < a.tmps.size) : slot (a.put (some d) v) d = v := by
  simp [slot, Act.put, h]

/-- what is said of a value stays, whatever memory is made -/
def Stays (p : Value → World → Prop) : Prop := ∀ v w w', p v w → Below w.heap.size w w' → p v w'

/-- each of the first n writes a slot of its own -/
def dstG (l : List Oper) (D : List Nat) (n m : Nat) : Bool :=
  (List.range n).all fun i => (match l[i]? with
    | some o => o.dst == some (D.getD i 0)
    | none => false) && decide (D.getD i 0 < m) && (List.range n).all fun j => j == i || D.getD j 0 != D.getD i 0
theorem dstG_spec {l : List Oper} {D : List Nat} {n m : Nat} (h : dstG l D n m = true) (i : Nat) (hi : i < n) :
    ∃ o, l[i]? = some o ∧ o.dst = some (D.getD i 0) ∧ D.getD i 0 < m ∧ ∀ j, j < n → j ≠ i → D.getD j 0 ≠ D.getD i 0 := by
  have h1 := List.all_eq_true.1 h i (List.mem_range.2 hi)
  cases ho : l[i]? with
  | none => simp [ho] at h1
  | some o =>
    simp only [ho, Bool.and_eq_true, decide_eq_true_eq, beq_iff_eq, List.all_eq_true, Bool.or_eq_true, bne_iff_ne, List.mem_range] at h1
    exact ⟨o, rfl, h1.1.1, h1.1.2, fun j hj hne => (h1.2 j hj).resolve_left hne⟩
/-- what an operation's guard looks at is done ahead of it -/
def gdB (l : List Oper) (n : Nat) : Bool :=
  (List.range n).all fun i => match l[i]? with
    | some o => match o.guard with
      | none => true
      | some (j, _) => decide (j < n) && o.after.any fun e => Region.binds .any e && e.on == j
    | none => false
theorem gdB_spec {l : List Oper} {n : Nat} (h : gdB l n = true) (i : Nat) (hi : i < n) (o : Oper) (ho : l[i]? = some o) (j : Nat) (b : Bool) (hg : o.guard = some (j, b)) :
    j < n ∧ ∃ e ∈ o.after, Region.binds .any e = true ∧ e.on = j := by
  have h1 := List.all_eq_true.1 h i (List.mem_range.2 hi)
  simp only [ho, hg, Bool.and_eq_true, decide_eq_true_eq, Array.any_eq_true', beq_iff_eq] at h1
  obtain ⟨h1, e, he, h2, h3⟩ := h1
  exact ⟨h1, e, he, h2, h3⟩

end
end Go.Proofs.YtoobncgmcnmgjaaGreatDoor

namespace Go.Proofs.YtoobncgmcnmgjaaGreatDoor
open Go.RowKit

section
variable {P : Program} {ops : Array Oper} {Q : Exit → Act → World → Prop} {md : Region.Mode}
theorem listed_set {listed : Array Bool} {i : Nat} (hi : i < listed.size) : (fun j => (listed.setIfInBounds i true).getD j false = true) = (fun j => listed.getD j false = true ∨ j = i) := by
  funext j
  apply propext
  by_cases e : j = i
  · subst e
    simp [hi]
  · rw [getD_set_ne false (fun h => e h.symm)]
    simp [e]
/-- 'B L a w': what stands where just the operations of L are done -/
theorem wpAny_inv3 {n : Nat} {B : (Nat → Prop) → Act → World → Prop} {tail : List Oper} (hs : Region.sinkB md ops n = true) (hc : Region.chainB md ops n = true) (hn : n < ops.size) (hb : backB md ops n = true)
    (htl : ∀ j, tail[j]? = ops[n + j]?) (hseq : Region.seqB md ops tail.length n (headDone n ops.size) = true)
    (hstep : ∀ (L : Nat → Prop) i o a w, i < n → ops[i]? = some o → ¬ L i → (∀ j oj, ops[j]? = some oj → L j → ∀ e ∈ oj.after, Region.binds md e = true → L e.on) → (∀ e ∈ o.after, Region.binds md e = true → L e.on) → B L a w → wpOp P ops Q i (fun a' w' => B (fun j => L j ∨ j = i) a' w') a w)
    (hend : ∀ (L : Nat → Prop) a w, (∀ i, i < n → L i) → B L a w → wpList P ops Q tail a w) :
    ∀ (f : Nat) (listed : Array Bool) (a : Act) (w : World), HeadInv md ops n listed → toCome listed n = f → B (fun j => listed.getD j false = true) a w → wpAny P md ops Q (f + tail.length) listed a w
  | 0, listed, a, w, inv, hf, hB => by
    have hz := toCome_zero n hf
    have he := headDone_eq (Nat.le_of_lt hn) inv hz
    have hw := hend _ a w (fun i hi => getD_true_in (by rw [inv.size]; omega) (hz i hi)) hB
    rw [Nat.zero_add, he]
    exact wpAny_of_seq tail n _ a w htl hseq hw
  | f + 1, listed, a, w, inv, hf, hB => by
    obtain ⟨k, hk, hku, hkl⟩ := toCome_least (listed := listed) n (by omega)
    rw [show f + 1 + tail.length = (f + tail.length) + 1 by omega]
    refine ⟨fun h0 => ?_, fun i hi => ?_⟩
    · obtain ⟨o, ho, hlt⟩ := backB_spec hb k hk
      have : k ∈ Region.ready md ops listed := mem_ready.2 ⟨hku, o, ho, fun e he hbd => by
        have := hlt e he hbd
        exact getD_true_in (by rw [inv.size]; omega) (hkl _ this)⟩
      rw [h0] at this; cases this
    · have hin : i < n := by
        rcases Nat.lt_or_ge i n with h | h
        · exact h
        · exact absurd hi (tail_waits hs hc hn inv _ k rfl hk hku i h)
      obtain ⟨hu, o, ho, hall⟩ := mem_ready.1 hi
      refine wpOp_mono (fun a' w' h3 => ?_) (hstep (fun j => listed.getD j false = true) i o a w hin ho (by show ¬ (listed.getD i false = true); rw [getD_both hu]; decide) inv.closed hall hB)
      refine wpAny_inv3 hs hc hn hb htl hseq hstep hend f _ a' w' (inv.set hi hin) (by have := toCome_set hu n hin; omega) ?_
      rw [listed_set (by rw [inv.size]; omega)]
      exact h3
theorem wp_region_inv3 (n : Nat) (B : (Nat → Prop) → Act → World → Prop) {id : Nat} {l : List Oper} {a : Act} {w : World} (hm : P.follows .mixedOrders = true) (hI : invB .any l.toArray n = true)
    (h0 : B (fun _ => False) a w.drew)
    (hstep : ∀ (L : Nat → Prop) i o a w, i < n → l[i]? = some o → ¬ L i → (∀ j oj, l[j]? = some oj → L j → ∀ e ∈ oj.after, Region.binds .any e = true → L e.on) → (∀ e ∈ o.after, Region.binds .any e = true → L e.on) → B L a w → wpOp P l.toArray Q i (fun a' w' => B (fun j => L j ∨ j = i) a' w') a w)
    (hend : ∀ (L : Nat → Prop) a w, (∀ i, i < n → L i) → B L a w → wpList P l.toArray Q (l.drop n) a w) : (Code.region id l.toArray true).wp P Q a w := by
  simp only [invB, Bool.and_eq_true, decide_eq_true_eq] at hI
  obtain ⟨⟨⟨⟨hs, hc⟩, hn⟩, hb⟩, hseq⟩ := hI
  have hdl : (l.drop n).length = l.toArray.size - n := by simp
  refine wp_region_any hm ?_
  have hf0 : (fun j => (Array.replicate l.toArray.size false).getD j false = true) = fun _ => False := by
    funext j
    rw [getD_replicate_false]
    simp
  have H := wpAny_inv3 (P := P) (Q := Q) (md := .any) (ops := l.toArray) (n := n) (B := B) (tail := l.drop n) hs hc hn hb (fun j => by simp [List.getElem?_drop]) (by rw [hdl]; exact hseq)
    (fun L i o a w hi ho hL hcl he hB => hstep L i o a w hi (by simpa using ho) hL (fun j oj hj => hcl j oj (by simpa using hj)) he hB) hend n (Array.replicate l.toArray.size false) a w.drew
    ⟨by simp, fun j oj _ hl => (by rw [getD_replicate_false] at hl; cases hl), fun t _ ht => getD_in (by simpa using ht) (getD_replicate_false _ _)⟩
    (toCome_replicate _ n (by simpa using Nat.le_of_lt hn)) (by rw [hf0]; exact h0)
  rw [hdl] at H
  have : n + (l.toArray.size - n) = l.toArray.size := by omega
  rw [this] at H
  exact H
end
end Go.Proofs.YtoobncgmcnmgjaaGreatDoor

namespace Go.Proofs.YtoobncgmcnmgjaaGreatDoor
open Go.RowKit

section
variable {P : Program} {Q : Exit → Act → World → Prop}
/-- each of the first n writes a slot of its own, or none, and has no guard -/
def dstM (l : List Oper) (D : List Nat) (n m : Nat) : Bool :=
  (List.range n).all fun i => (match l[i]? with
    | some o => (o.dst == none || (o.dst == some (D.getD i 0) && decide (D.getD i 0 < m))) && o.guard.isNone
    | none => false) && (List.range n).all fun j => j == i || D.getD j 0 != D.getD i 0
theorem dstM_spec {l : List Oper} {D : List Nat} {n m : Nat} (h : dstM l D n m = true) (i : Nat) (hi : i < n) (o : Oper) (ho : l[i]? = some o) :
    (o.dst = none ∨ (o.dst = some (D.getD i 0) ∧ D.getD i 0 < m)) ∧ o.guard = none ∧ ∀ j, j < n → j ≠ i → D.getD j 0 ≠ D.getD i 0 := by
  have h1 := List.all_eq_true.1 h i (List.mem_range.2 hi)
  simp only [ho, Bool.and_eq_true, decide_eq_true_eq, beq_iff_eq, List.all_eq_true, Bool.or_eq_true, bne_iff_ne, List.mem_range, Option.isNone_iff_eq_none] at h1
  exact ⟨h1.1.1, h1.1.2, fun j hj hne => (h1.2 j hj).resolve_left hne⟩
/-- the operation j writes its slot -/
def wrS (l : List Oper) (D : List Nat) (j : Nat) : Prop := (l[j]?).bind Oper.dst = some (D.getD j 0)
theorem wp_region_mem (n m : Nat) (D : List Nat) (S : List (Value → World → Prop)) (T : World → World → Prop) (M : (Nat → Prop) → (Nat → Value) → World → Prop) {id : Nat} {l : List Oper} {a0 : Act} {w0 : World} (hm : P.follows .mixedOrders = true) (hI : invB .any l.toArray n = true) (hD : dstM l D n m = true)
    (hsz : a0.tmps.size = m) (hS : ∀ p ∈ S, ∀ v w w', p v w → T w w' → p v w') (hM0 : M (fun _ => False) (slot a0) w0.drew)
    (hstep : ∀ (L : Nat → Prop) i o a w, i < n → l[i]? = some o → ¬ L i → (∀ j oj, l[j]? = some oj → L j → ∀ e ∈ oj.after, Region.binds .any e = true → L e.on) → (∀ e ∈ o.after, Region.binds .any e = true → L e.on) → M L (slot a) w →
      (∀ t, (∀ i, i < n → D.getD i 0 ≠ t) → slot a t = slot a0 t) → (∀ j, j < n → wrS l D j → L j → (S.getD j fun _ _ => True) (slot a (D.getD j 0)) w) →
      o.wp P a w (fun a' w' => ∃ v, a' = a.put o.dst v ∧ (S.getD i fun _ _ => True) v w' ∧ T w w' ∧ M (fun j => L j ∨ j = i) (fun t => if o.dst = some t then v else slot a t) w') Q)
    (hend : ∀ (L : Nat → Prop) a w, (∀ i, i < n → L i) → M L (slot a) w → a.tmps.size = m → a.defers = a0.defers → (∀ t, (∀ i, i < n → D.getD i 0 ≠ t) → slot a t = slot a0 t) → (∀ i, i < n → wrS l D i → (S.getD i fun _ _ => True) (slot a (D.getD i 0)) w) → wpList P l.toArray Q (l.drop n) a w) :
    (Code.region id l.toArray true).wp P Q a0 w0 := by
  have hSt : ∀ i v w w', (S.getD i fun _ _ => True) v w → T w w' → (S.getD i fun _ _ => True) v w' := by
    intro i
    rcases Nat.lt_or_ge i S.length with h | h
    · rw [List.getD_eq_getElem?_getD, List.getElem?_eq_getElem h]; exact hS _ (List.getElem_mem h)
    · rw [List.getD_eq_getElem?_getD, List.getElem?_eq_none h]; exact fun _ _ _ _ _ => trivial
  refine wp_region_inv3 n (fun L a w => M L (slot a) w ∧ a.tmps.size = m ∧ a.defers = a0.defers ∧ (∀ t, (∀ i, i < n → D.getD i 0 ≠ t) → slot a t = slot a0 t) ∧ ∀ j, j < n → wrS l D j → L j → (S.getD j fun _ _ => True) (slot a (D.getD j 0)) w) hm hI
    ⟨hM0, hsz, rfl, fun _ _ => rfl, fun _ _ _ h => h.elim⟩ ?_ (fun L a w hL hB => hend L a w hL hB.1 hB.2.1 hB.2.2.1 hB.2.2.2.1 fun i hi hw => hB.2.2.2.2 i hi hw (hL i hi))
  intro L i o a w hi ho hL hcl he hB
  obtain ⟨hd, hg, hne⟩ := dstM_spec hD i hi o ho
  have hw := hstep L i o a w hi ho hL hcl he hB.1 hB.2.2.2.1 hB.2.2.2.2
  unfold wpOp
  have ho' : l.toArray[i]? = some o := by simpa using ho
  simp only [ho']
  rw [if_pos (by unfold Region.wanted; rw [hg])]
  refine Or.inl (Oper.wp_mono ?_ hw)
  rintro a' w' ⟨v, rfl, hv, hT, hM⟩
  rcases hd with hd | ⟨hd, hlt⟩
  · have ea : a.put o.dst v = a := by rw [hd]; rfl
    have em : (fun t => if o.dst = some t then v else slot a t) = slot a := by funext t; rw [hd]; simp
    rw [ea]
    rw [em] at hM
    refine ⟨hM, hB.2.1, hB.2.2.1, hB.2.2.2.1, fun j hj hwj hLj => ?_⟩
    rcases hLj with hLj | rfl
    · exact hSt j _ _ _ (hB.2.2.2.2 j hj hwj hLj) hT
    · unfold wrS at hwj; rw [ho] at hwj; simp [hd] at hwj
  · have em : (fun t => if o.dst = some t then v else slot a t) = slot (a.put o.dst v) := by
      funext t
      rw [hd]
      by_cases h : D.getD i 0 = t
      · subst h
        rw [if_pos rfl, slot_put (by rw [hB.2.1]; exact hlt)]
      · rw [if_neg (fun e => h (Option.some.inj e)), slot_put_ne h]
    rw [em] at hM
    refine ⟨hM, by rw [hd]; simp [Act.put, hB.2.1], by rw [hd]; exact hB.2.2.1, fun t ht => ?_, fun j hj hwj hLj => ?_⟩
    · rw [hd, slot_put_ne (ht i hi)]; exact hB.2.2.2.1 t ht
    · by_cases hji : j = i
      · subst hji
        rw [hd, slot_put (by rw [hB.2.1]; exact hlt)]; exact hv
      · rw [hd, slot_put_ne (fun h => hne j hj hji h.symm)]
        exact hSt j _ _ _ (hB.2.2.2.2 j hj hwj (hLj.resolve_right hji)) hT
end
end Go.Proofs.YtoobncgmcnmgjaaGreatDoor
