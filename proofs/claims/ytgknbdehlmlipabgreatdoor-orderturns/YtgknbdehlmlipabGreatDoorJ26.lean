/-
  Texts that the proof leans on.
-/
import Derived.Test.YtgknbdehlmlipabGreatDoorJ23
import Derived.Test.YtgknbdehlmlipabGreatDoorJ3
import Derived.Test.YtgknbdehlmlipabGreatDoorJ22
import Derived.Test.YtgknbdehlmlipabGreatDoorJ19
import Derived.Test.YtgknbdehlmlipabGreatDoorJ20
import Derived.Deep.Cut
import Derived.Deep.CutRange
import Derived.Laws.IdiomCopy
import Derived.Deep.RegionWith
import Derived.Test.YtgknbdehlmlipabGreatDoorJ17
import Derived.Test.YtgknbdehlmlipabGreatDoorJ16
import Derived.Test.YtgknbdehlmlipabGreatDoorJ9
import Derived.Test.YtgknbdehlmlipabGreatDoorJ21
import Derived.Test.YtgknbdehlmlipabGreatDoorJ24
import Derived.Test.YtgknbdehlmlipabGreatDoorJ5
import Derived.Test.YtgknbdehlmlipabGreatDoorJ15
set_option linter.unusedVariables false
set_option linter.unusedSectionVars false
set_option linter.unusedSimpArgs false
set_option maxRecDepth 20000
namespace Go.Proofs.YtgknbdehlmlipabGreatDoor
open Go.RowKit

set_option maxHeartbeats 1000000 in
theorem pack_bad (n : Int) (d : Dat) (w : World) (hT : Tab w) (h : ¬ binN n) :
    Calls Tryz.prog 35 #[.int .i64 n, d.v] w fun x w' => x = .returned (.tuple #[Z4, .int .i64 1]) ∧ Below w.heap.size w w' := by
  have c31 := fun w hT => layoutOf_bad n w hT h
  obtain ⟨c, s, g, x, k⟩ := d
  unfold Dat.v
  dsimp only
  go_enter Tryz.func35, Tryz.ntmps35
  go_wp2_with (go_at_call 54; refine (c31 _ ((hT.alloc _).alloc _)).mono ?_; rintro x w1 ⟨rfl, hb1⟩; obtain ⟨hc1, hf1⟩ := bcell hb1; have hz1_0 : w.heap.size < w1.heap.size := lt_below hb1 ltg; have hl1_0 := Nat.le_of_lt hz1_0; have hz1_1 : w.heap.size + 1 < w1.heap.size := lt_below hb1 ltg; have hl1_1 := Nat.le_of_lt hz1_1; have hA1 := bnext (w0 := w) bgo hb1; have hs1 := hA1.size; clear hb1)
  have hsm := cell_set_map
  exact bodyPost_ret (v := .tuple #[Z4, .int .i64 1]) (by simp only [results, Tryz.results35]; go_simp) rfl ⟨rfl, bgo⟩
section
variable (n : Int) (f e : Nat) (l m : Int) (w : World) (hT : Tab w) (c x : Int) (s g : Bool) (k : Nat)
  (c31 : ∀ w, Tab w → Calls Tryz.prog 54 #[.int .i64 n] w fun x w' => x = .returned (.tuple #[LV f e l m, .int .i64 0]) ∧ Below w.heap.size w w')
include hT c31
set_option maxHeartbeats 1000000 in
theorem pack_1 (R : Nat) (E : Int) (c32 : ∀ w, Calls Tryz.prog 55 #[LV f e l m, DV 1 s g x k] w fun x w' => x = .returned (.tuple #[A4 R, .int .i64 E]) ∧ Below w.heap.size w w') :
    Calls Tryz.prog 35 #[.int .i64 n, DV 1 s g x k] w fun x w' => x = .returned (.tuple #[A4 R, .int .i64 E]) ∧ Below w.heap.size w w' := by
  go_enter Tryz.func35, Tryz.ntmps35
  go_wp2_with (first
    | (go_at_call 54; refine (c31 _ ((hT.alloc _).alloc _)).mono ?_; rintro x w1 ⟨rfl, hb1⟩; obtain ⟨hc1, hf1⟩ := bcell hb1; have hz1_0 : w.heap.size < w1.heap.size := lt_below hb1 ltg; have hl1_0 := Nat.le_of_lt hz1_0; have hz1_1 : w.heap.size + 1 < w1.heap.size := lt_below hb1 ltg; have hl1_1 := Nat.le_of_lt hz1_1; have hA1 := bnext (w0 := w) bgo hb1; have hs1 := hA1.size; clear hb1)
    | (go_at_call 55; refine (c32 _).mono ?_; rintro x w2 ⟨rfl, hb2⟩; obtain ⟨hc2, hf2⟩ := bcell hb2; have hz2_0 : w.heap.size < w2.heap.size := lt_below hb2 ltg; have hl2_0 := Nat.le_of_lt hz2_0; have hz2_1 : w.heap.size + 1 < w2.heap.size := lt_below hb2 ltg; have hl2_1 := Nat.le_of_lt hz2_1; have hz2_2 : w1.heap.size < w2.heap.size := lt_below hb2 ltg; have hl2_2 := Nat.le_of_lt hz2_2; have hA2 := bnext (w0 := w) bgo hb2; have hs2 := hA2.size; clear hb2))
  have hsm := cell_set_map
  exact bodyPost_ret (v := .tuple #[A4 R, .int .i64 E]) (by simp only [results, Tryz.results35]; go_simp) rfl ⟨rfl, bgo⟩
set_option maxHeartbeats 1000000 in
theorem pack_2 (R : Nat) (E : Int) (c33 : ∀ w, Calls Tryz.prog 56 #[LV f e l m, DV 2 s g x k] w fun x w' => x = .returned (.tuple #[A4 R, .int .i64 E]) ∧ Below w.heap.size w w') :
    Calls Tryz.prog 35 #[.int .i64 n, DV 2 s g x k] w fun x w' => x = .returned (.tuple #[A4 R, .int .i64 E]) ∧ Below w.heap.size w w' := by
  go_enter Tryz.func35, Tryz.ntmps35
  go_wp2_with (first
    | (go_at_call 54; refine (c31 _ ((hT.alloc _).alloc _)).mono ?_; rintro x w1 ⟨rfl, hb1⟩; obtain ⟨hc1, hf1⟩ := bcell hb1; have hz1_0 : w.heap.size < w1.heap.size := lt_below hb1 ltg; have hl1_0 := Nat.le_of_lt hz1_0; have hz1_1 : w.heap.size + 1 < w1.heap.size := lt_below hb1 ltg; have hl1_1 := Nat.le_of_lt hz1_1; have hA1 := bnext (w0 := w) bgo hb1; have hs1 := hA1.size; clear hb1)
    | (go_at_call 56; refine (c33 _).mono ?_; rintro x w2 ⟨rfl, hb2⟩; obtain ⟨hc2, hf2⟩ := bcell hb2; have hz2_0 : w.heap.size < w2.heap.size := lt_below hb2 ltg; have hl2_0 := Nat.le_of_lt hz2_0; have hz2_1 : w.heap.size + 1 < w2.heap.size := lt_below hb2 ltg; have hl2_1 := Nat.le_of_lt hz2_1; have hz2_2 : w1.heap.size < w2.heap.size := lt_below hb2 ltg; have hl2_2 := Nat.le_of_lt hz2_2; have hA2 := bnext (w0 := w) bgo hb2; have hs2 := hA2.size; clear hb2))
  have hsm := cell_set_map
  exact bodyPost_ret (v := .tuple #[A4 R, .int .i64 E]) (by simp only [results, Tryz.results35]; go_simp) rfl ⟨rfl, bgo⟩
set_option maxHeartbeats 1000000 in
theorem pack_3 (R : Nat) (E : Int) (c34 : ∀ w, Calls Tryz.prog 57 #[LV f e l m, DV 3 s g x k] w fun x w' => x = .returned (.tuple #[A4 R, .int .i64 E]) ∧ Below w.heap.size w w') :
    Calls Tryz.prog 35 #[.int .i64 n, DV 3 s g x k] w fun x w' => x = .returned (.tuple #[A4 R, .int .i64 E]) ∧ Below w.heap.size w w' := by
  go_enter Tryz.func35, Tryz.ntmps35
  go_wp2_with (first
    | (go_at_call 54; refine (c31 _ ((hT.alloc _).alloc _)).mono ?_; rintro x w1 ⟨rfl, hb1⟩; obtain ⟨hc1, hf1⟩ := bcell hb1; have hz1_0 : w.heap.size < w1.heap.size := lt_below hb1 ltg; have hl1_0 := Nat.le_of_lt hz1_0; have hz1_1 : w.heap.size + 1 < w1.heap.size := lt_below hb1 ltg; have hl1_1 := Nat.le_of_lt hz1_1; have hA1 := bnext (w0 := w) bgo hb1; have hs1 := hA1.size; clear hb1)
    | (go_at_call 57; refine (c34 _).mono ?_; rintro x w2 ⟨rfl, hb2⟩; obtain ⟨hc2, hf2⟩ := bcell hb2; have hz2_0 : w.heap.size < w2.heap.size := lt_below hb2 ltg; have hl2_0 := Nat.le_of_lt hz2_0; have hz2_1 : w.heap.size + 1 < w2.heap.size := lt_below hb2 ltg; have hl2_1 := Nat.le_of_lt hz2_1; have hz2_2 : w1.heap.size < w2.heap.size := lt_below hb2 ltg; have hl2_2 := Nat.le_of_lt hz2_2; have hA2 := bnext (w0 := w) bgo hb2; have hs2 := hA2.size; clear hb2))
  have hsm := cell_set_map
  exact bodyPost_ret (v := .tuple #[A4 R, .int .i64 E]) (by simp only [results, Tryz.results35]; go_simp) rfl ⟨rfl, bgo⟩
set_option maxHeartbeats 1000000 in
theorem pack_0 (h1 : (c == 1) = false) (h2 : (c == 2) = false) (h3 : (c == 3) = false) :
    Calls Tryz.prog 35 #[.int .i64 n, DV c s g x k] w fun x w' => x = .returned (.tuple #[Z4, .int .i64 3]) ∧ Below w.heap.size w w' := by
  go_enter Tryz.func35, Tryz.ntmps35
  go_wp2_with (go_at_call 54; refine (c31 _ ((hT.alloc _).alloc _)).mono ?_; rintro x w1 ⟨rfl, hb1⟩; obtain ⟨hc1, hf1⟩ := bcell hb1; have hz1_0 : w.heap.size < w1.heap.size := lt_below hb1 ltg; have hl1_0 := Nat.le_of_lt hz1_0; have hz1_1 : w.heap.size + 1 < w1.heap.size := lt_below hb1 ltg; have hl1_1 := Nat.le_of_lt hz1_1; have hA1 := bnext (w0 := w) bgo hb1; have hs1 := hA1.size; clear hb1)
  have hsm := cell_set_map
  exact bodyPost_ret (v := .tuple #[Z4, .int .i64 3]) (by simp only [results, Tryz.results35]; go_simp) rfl ⟨rfl, bgo⟩
end
/-- what Pack answers: the pattern, and the error's number -/
def pkV (n : Int) (d : Dat) : Nat := if binN n ∧ isD (fN n) (leastN n) (mostN n) d then pk (fN n) (eN n) (leastN n) d else 0
def pkE (n : Int) (d : Dat) : Int := if binN n then (if isD (fN n) (leastN n) (mostN n) d then 0 else 3) else 1
theorem pack_any (n : Int) (d : Dat) (w : World) (hT : Tab w) (hk : d.k < 2 ^ 256) :
    Calls Tryz.prog 35 #[.int .i64 n, d.v] w fun x w' => x = .returned (.tuple #[A4 (pkV n d), .int .i64 (pkE n d)]) ∧ Below w.heap.size w w' := by
  by_cases hb : binN n
  · have hF := bin_fm hb
    have c31 := fun w hT => layoutOf_ok n w hT hb
    have key : ∀ d : Dat, Value.tuple #[A4 (pkV n d), .int .i64 (pkE n d)] = if isD (fN n) (leastN n) (mostN n) d then .tuple #[A4 (pk (fN n) (eN n) (leastN n) d), .int .i64 0] else .tuple #[Z4, .int .i64 3] := fun d => by
      unfold pkV pkE
      by_cases hi : isD (fN n) (leastN n) (mostN n) d
      · rw [if_pos ⟨hb, hi⟩, if_pos hb, if_pos hi, if_pos hi]
      · rw [if_neg (fun h => hi h.2), if_pos hb, if_neg hi, if_neg hi, Z4_eq]
    obtain ⟨c, s, g, x, k⟩ := d
    unfold Dat.v
    dsimp only at hk ⊢
    by_cases h1 : c = 1
    · subst h1
      have c32 := fun w => packFinite_any (fN n) (eN n) (leastN n) (mostN n) w s g x k hF hk
      simp only [← key] at c32
      exact pack_1 n _ _ _ _ w hT x s g k c31 _ _ c32
    · by_cases h2 : c = 2
      · subst h2
        have c33 := fun w => packInfinite_any (fN n) (eN n) (leastN n) (mostN n) w s g x k hF hk
        simp only [← key] at c33
        exact pack_2 n _ _ _ _ w hT x s g k c31 _ _ c33
      · by_cases h3 : c = 3
        · subst h3
          have c34 := fun w => packNaN_any (fN n) (eN n) (leastN n) (mostN n) w s g x k hF hk
          simp only [← key] at c34
          exact pack_3 n _ _ _ _ w hT x s g k c31 _ _ c34
        · rw [key, if_neg (by unfold isD; simp [h1, h2, h3])]
          exact pack_0 n _ _ _ _ w hT c x s g k c31 (by simpa using h1) (by simpa using h2) (by simpa using h3)
  · have e1 : pkV n d = 0 := if_neg fun h => hb h.1
    have e2 : pkE n d = 1 := if_neg hb
    rw [e1, e2, Z4_eq]
    exact pack_bad n d w hT hb
/-- what Unpack answers -/
def unD (n : Int) (B : Nat) : Dat := if goodN n B then unp (fN n) (eN n) (leastN n) B else ⟨0, false, false, 0, 0⟩
def unE (n : Int) (B : Nat) : Int := if goodN n B then 0 else 1
theorem unpack_any (n : Int) (B : Nat) (w : World) (hT : Tab w) (hB : B < 2 ^ 256) :
    Calls Tryz.prog 31 #[.int .i64 n, A4 B] w fun x w' => x = .returned (.tuple #[(unD n B).v, .int .i64 (unE n B)]) ∧ Below w.heap.size w w' := by
  unfold unD unE
  by_cases h : goodN n B
  · rw [if_pos h, if_pos h]; exact unpack_ok n B w hT hB h
  · rw [if_neg h, if_neg h]; exact unpack_bad n B w hT hB h
end Go.Proofs.YtgknbdehlmlipabGreatDoor

namespace Go.Proofs.YtgknbdehlmlipabGreatDoor

/-- a pattern made of its fields -/
theorem fields_of {f e S E F : Nat} (hS : S ≤ 1) (hE : E < 2 ^ e) (hF : F < 2 ^ f) :
    (E * 2 ^ f + F + S * 2 ^ (f + e)) % 2 ^ f = F ∧ (E * 2 ^ f + F + S * 2 ^ (f + e)) / 2 ^ f % 2 ^ e = E ∧ (E * 2 ^ f + F + S * 2 ^ (f + e)) / 2 ^ (f + e) = S ∧ E * 2 ^ f + F + S * 2 ^ (f + e) < 2 ^ (f + e + 1) := by
  have hP : 0 < 2 ^ f := Nat.two_pow_pos f
  have hR : 0 < 2 ^ e := Nat.two_pow_pos e
  have e1 : E * 2 ^ f + F + S * 2 ^ (f + e) = F + (E + S * 2 ^ e) * 2 ^ f := by
    rw [Nat.pow_add, Nat.add_mul, Nat.mul_assoc, Nat.mul_comm (2 ^ e) (2 ^ f)]; omega
  have d1 : (E * 2 ^ f + F + S * 2 ^ (f + e)) / 2 ^ f = E + S * 2 ^ e := by
    rw [e1, Nat.add_mul_div_right _ _ hP, Nat.div_eq_of_lt hF, Nat.zero_add]
  have d2 : (E * 2 ^ f + F + S * 2 ^ (f + e)) / 2 ^ (f + e) = S := by
    rw [Nat.pow_add, ← Nat.div_div_eq_div_mul, ← Nat.pow_add, d1, Nat.add_mul_div_right _ _ hR, Nat.div_eq_of_lt hE, Nat.zero_add]
  refine ⟨?_, ?_, d2, ?_⟩
  · rw [e1, Nat.add_mul_mod_self_right, Nat.mod_eq_of_lt hF]
  · rw [d1, Nat.add_mul_mod_self_right, Nat.mod_eq_of_lt hE]
  · have hp : 0 < 2 ^ (f + e) := Nat.two_pow_pos _
    refine Nat.lt_of_div_lt_div (c := 2 ^ (f + e)) ?_
    rw [d2, Nat.pow_succ, Nat.mul_comm, Nat.mul_div_cancel _ hp]
    omega
theorem fields_in {f e B : Nat} (hB : B < 2 ^ (f + e + 1)) : ∃ S E F, S ≤ 1 ∧ E < 2 ^ e ∧ F < 2 ^ f ∧ B = E * 2 ^ f + F + S * 2 ^ (f + e) := by
  refine ⟨B / 2 ^ (f + e), B / 2 ^ f % 2 ^ e, B % 2 ^ f, ?_, Nat.mod_lt _ (Nat.two_pow_pos _), Nat.mod_lt _ (Nat.two_pow_pos _), ?_⟩
  · have : B / 2 ^ (f + e) < 2 := Nat.div_lt_of_lt_mul (by rw [Nat.mul_comm]; rw [Nat.pow_succ] at hB; omega)
    omega
  · have h1 := Nat.div_add_mod' B (2 ^ f)
    have h2 := Nat.div_add_mod' (B / 2 ^ f) (2 ^ e)
    rw [Nat.div_div_eq_div_mul, ← Nat.pow_add] at h2
    have h3 : (B / 2 ^ (f + e) * 2 ^ e + B / 2 ^ f % 2 ^ e) * 2 ^ f = B / 2 ^ f * 2 ^ f := by rw [h2]
    rw [Nat.add_mul, Nat.mul_assoc, Nat.mul_comm (2 ^ e) (2 ^ f), ← Nat.pow_add] at h3
    omega
theorem sg_of {f e S E F : Nat} (hS : S ≤ 1) (hE : E < 2 ^ e) (hF : F < 2 ^ f) : sgB f e (E * 2 ^ f + F + S * 2 ^ (f + e)) = decide (S = 1) := by
  unfold sgB
  rw [(fields_of hS hE hF).2.2.1]
  have : S = 0 ∨ S = 1 := by omega
  rcases this with rfl | rfl <;> rfl
/-- what a pattern means, by its fields -/
def mean (f e : Nat) (l : Int) (S E F : Nat) : Dat :=
  if E = 2 ^ e - 1 then spc f (decide (S = 1)) F else if E = 0 then ⟨1, decide (S = 1), false, l, F⟩ else ⟨1, decide (S = 1), false, l + ((E : Int) - 1), F + 2 ^ f⟩
theorem unp_mean {f e S E F : Nat} (l : Int) (hS : S ≤ 1) (hE : E < 2 ^ e) (hF : F < 2 ^ f) : unp f e l (E * 2 ^ f + F + S * 2 ^ (f + e)) = mean f e l S E F := by
  unfold unp mean
  obtain ⟨h1, h2, _, _⟩ := fields_of hS hE hF
  rw [h1, h2, sg_of hS hE hF]
theorem sel {S X : Nat} (hS : S ≤ 1) : (if decide (S = 1) = true then X else 0) = S * X := by
  have : S = 0 ∨ S = 1 := by omega
  rcases this with rfl | rfl <;> simp
theorem half {f : Nat} (h : 2 ≤ f) : 2 ^ (f - 1) + 2 ^ (f - 1) = 2 ^ f ∧ 1 ≤ 2 ^ (f - 1) := by
  refine ⟨?_, Nat.one_le_two_pow⟩
  have : f = f - 1 + 1 := by omega
  conv => rhs; rw [this, Nat.pow_succ]
  omega
theorem mean_isD {f e S E F : Nat} {l m : Int} (h : Fm f e l m) (hS : S ≤ 1) (hE : E < 2 ^ e) (hF : F < 2 ^ f) : isD f l m (mean f e l S E F) ∧ pk f e l (mean f e l S E F) = E * 2 ^ f + F + S * 2 ^ (f + e) ∧ (mean f e l S E F).k < 2 ^ 256 := by
  have hp := pow_e h.e2 h.e15
  have hpc : ((2 : Int) ^ e) = ((2 ^ e : Nat) : Int) := by simp
  have hm := h.m
  rw [hpc] at hp hm
  have hh := half h.f2
  have h256 : 2 ^ (f + 1) ≤ 2 ^ 256 := Nat.pow_le_pow_right (by decide) (by have := h.f240; omega)
  have hs1 : 2 ^ (f + 1) = 2 ^ f + 2 ^ f := by rw [Nat.pow_succ]; omega
  unfold mean
  by_cases h1 : E = 2 ^ e - 1
  · rw [if_pos h1]
    unfold spc
    by_cases h2 : F = 0
    · rw [if_pos h2]
      refine ⟨Or.inr (Or.inl ⟨rfl, rfl, rfl, rfl⟩), ?_, by show 0 < _; omega⟩
      unfold pk
      simp only [show ¬ ((2 : Int) = 1) by decide, if_false, if_true]
      rw [sel hS, ← h1, h2]
    · rw [if_neg h2]
      by_cases h3 : F < 2 ^ (f - 1)
      · rw [if_pos h3]
        refine ⟨Or.inr (Or.inr ⟨rfl, rfl, h3, Or.inl h2⟩), ?_, by show F < _; omega⟩
        unfold pk
        simp only [show ¬ ((3 : Int) = 1) by decide, show ¬ ((3 : Int) = 2) by decide, if_false, if_true]
        rw [sel hS, ← h1]
      · rw [if_neg h3]
        refine ⟨Or.inr (Or.inr ⟨rfl, rfl, by show F - 2 ^ (f - 1) < _; omega, Or.inr rfl⟩), ?_, by show F - 2 ^ (f - 1) < _; omega⟩
        unfold pk
        simp only [show ¬ ((3 : Int) = 1) by decide, show ¬ ((3 : Int) = 2) by decide, if_false, Bool.false_eq_true]
        rw [sel hS, ← h1, Nat.sub_add_cancel (by omega)]
  · rw [if_neg h1]
    by_cases h2 : E = 0
    · rw [if_pos h2]
      refine ⟨Or.inl ⟨rfl, rfl, by show F < _; omega, Int.le_refl _, by show l ≤ m; omega, Or.inr rfl⟩, ?_, by show F < _; omega⟩
      unfold pk
      simp only [if_true, Int.sub_self, Int.toNat_zero, Nat.zero_mul]
      rw [sel hS, h2, Nat.zero_mul]
    · rw [if_neg h2]
      refine ⟨Or.inl ⟨rfl, rfl, by show F + 2 ^ f < _; omega, by show l ≤ l + ((E : Int) - 1); omega, by show l + ((E : Int) - 1) ≤ m; omega, Or.inl (by show 2 ^ f ≤ F + 2 ^ f; omega)⟩, ?_, by show F + 2 ^ f < _; omega⟩
      unfold pk
      simp only [if_true]
      rw [sel hS, show (l + ((E : Int) - 1) - l).toNat = E - 1 by omega]
      obtain ⟨E', rfl⟩ : ∃ E', E = E' + 1 := ⟨E - 1, by omega⟩
      rw [Nat.add_sub_cancel, Nat.add_mul]
      omega
theorem pk_mean {f e : Nat} {l m : Int} {d : Dat} (h : Fm f e l m) (hd : isD f l m d) : ∃ S E F, S ≤ 1 ∧ E < 2 ^ e ∧ F < 2 ^ f ∧ pk f e l d = E * 2 ^ f + F + S * 2 ^ (f + e) ∧ mean f e l S E F = d := by
  have hp := pow_e h.e2 h.e15
  have hpc : ((2 : Int) ^ e) = ((2 ^ e : Nat) : Int) := by simp
  have hm := h.m
  rw [hpc] at hp hm
  have hh := half h.f2
  have hs1 : 2 ^ (f + 1) = 2 ^ f + 2 ^ f := by rw [Nat.pow_succ]; omega
  obtain ⟨c, s, g, x, k⟩ := d
  have hsg : ∃ S, S ≤ 1 ∧ decide (S = 1) = s ∧ ∀ X, (if s then X else 0) = S * X := by
    cases s
    · exact ⟨0, by decide, rfl, fun X => by simp⟩
    · exact ⟨1, by decide, rfl, fun X => by simp⟩
  obtain ⟨S, hS, hs, hsX⟩ := hsg
  rcases hd with ⟨hc, hg, hk, hx1, hx2, hx3⟩ | ⟨hc, hg, hx, hk⟩ | ⟨hc, hx, hk, hg⟩
  · dsimp only at hc hg hk hx1 hx2 hx3
    subst hc hg
    by_cases hf : 2 ^ f ≤ k
    · refine ⟨S, (x - l).toNat + 1, k - 2 ^ f, hS, by omega, by omega, ?_, ?_⟩
      · unfold pk
        simp only [if_true, hsX]
        rw [Nat.add_mul]; omega
      · unfold mean
        rw [if_neg (by omega), if_neg (by omega), hs, Nat.sub_add_cancel hf]
        congr 1
        omega
    · obtain rfl : x = l := by omega
      refine ⟨S, 0, k, hS, by omega, by omega, ?_, ?_⟩
      · unfold pk
        simp only [if_true, hsX, Int.sub_self, Int.toNat_zero]
      · unfold mean
        rw [if_neg (by omega), if_pos rfl, hs]
  · dsimp only at hc hg hx hk
    subst hc hg hx hk
    refine ⟨S, 2 ^ e - 1, 0, hS, by omega, by omega, ?_, ?_⟩
    · unfold pk
      simp only [show ¬ ((2 : Int) = 1) by decide, if_false, if_true, hsX]
    · unfold mean spc
      rw [if_pos rfl, if_pos rfl, hs]
  · dsimp only at hc hx hk hg
    subst hc hx
    cases g with
    | true =>
      have hk0 : k ≠ 0 := hg.resolve_right (by decide)
      refine ⟨S, 2 ^ e - 1, k, hS, by omega, by omega, ?_, ?_⟩
      · unfold pk
        simp only [show ¬ ((3 : Int) = 1) by decide, show ¬ ((3 : Int) = 2) by decide, if_false, if_true, hsX]
      · unfold mean spc
        rw [if_pos rfl, if_neg hk0, if_pos hk, hs]
    | false =>
      refine ⟨S, 2 ^ e - 1, k + 2 ^ (f - 1), hS, by omega, by omega, ?_, ?_⟩
      · unfold pk
        simp only [show ¬ ((3 : Int) = 1) by decide, show ¬ ((3 : Int) = 2) by decide, if_false, Bool.false_eq_true, hsX]
      · unfold mean spc
        rw [if_pos rfl, if_neg (by omega), if_neg (by omega), hs, Nat.add_sub_cancel]
/-- what was unpacked is packed as it was -/
theorem back_un {n : Int} {B : Nat} (h : goodN n B) : pkE n (unD n B) = 0 ∧ pkV n (unD n B) = B := by
  have hF := bin_fm h.1
  obtain ⟨S, E, F, hS, hE, hFr, hB⟩ := fields_in h.2
  have hu : unD n B = mean (fN n) (eN n) (leastN n) S E F := by
    unfold unD; rw [if_pos h, hB, unp_mean _ hS hE hFr]
  obtain ⟨h1, h2, _⟩ := mean_isD hF hS hE hFr
  rw [hu]
  unfold pkE pkV
  rw [if_pos h.1, if_pos h1, if_pos ⟨h.1, h1⟩, h2]
  exact ⟨rfl, hB.symm⟩
theorem unD_k (n : Int) (B : Nat) : (unD n B).k < 2 ^ 256 := by
  unfold unD
  by_cases h : goodN n B
  · rw [if_pos h]
    obtain ⟨S, E, F, hS, hE, hFr, hB⟩ := fields_in h.2
    rw [hB, unp_mean _ hS hE hFr]
    exact (mean_isD (bin_fm h.1) hS hE hFr).2.2
  · rw [if_neg h]; decide
theorem good_256 {n : Int} {B : Nat} (h : goodN n B) : B < 2 ^ 256 := by
  have := (bin_fm h.1).fe
  exact Nat.lt_of_lt_of_le h.2 (Nat.pow_le_pow_right (by decide) (by omega))
/-- the other way round -/
theorem back_pk {n : Int} {d : Dat} (h : pkE n d = 0) : goodN n (pkV n d) ∧ unD n (pkV n d) = d := by
  have hb : binN n := by
    unfold pkE at h
    by_cases hb : binN n
    · exact hb
    · rw [if_neg hb] at h; cases h
  have hi : isD (fN n) (leastN n) (mostN n) d := by
    unfold pkE at h
    rw [if_pos hb] at h
    by_cases hi : isD (fN n) (leastN n) (mostN n) d
    · exact hi
    · rw [if_neg hi] at h; cases h
  have hF := bin_fm hb
  obtain ⟨S, E, F, hS, hE, hFr, hB, hm⟩ := pk_mean hF hi
  have hv : pkV n d = E * 2 ^ fN n + F + S * 2 ^ (fN n + eN n) := by
    unfold pkV; rw [if_pos ⟨hb, hi⟩, hB]
  have hg : goodN n (pkV n d) := ⟨hb, by rw [hv]; exact (fields_of hS hE hFr).2.2.2⟩
  refine ⟨hg, ?_⟩
  unfold unD
  rw [if_pos hg, hv, unp_mean _ hS hE hFr, hm]
end Go.Proofs.YtgknbdehlmlipabGreatDoor

namespace Go.Proofs.YtgknbdehlmlipabGreatDoor
open Go.RowKit

/-- a block holds a format -/
structure Ib (w : World) (g : Nat) (n : Int) (nm : ByteArray) (wd : Int) (f e : Nat) (l m : Int) : Prop where
  c0 : w.cell? ⟨g, 0, none⟩ = some (.int .i64 n)
  c1 : w.cell? ⟨g, 1, none⟩ = some (.string nm)
  c2 : w.cell? ⟨g, 2, none⟩ = some (.int .i64 2)
  c3 : w.cell? ⟨g, 3, none⟩ = some (.int .i64 wd)
  c4 : w.cell? ⟨g, 4, none⟩ = some (.int .i64 ((f : Int) + 1))
  c5 : w.cell? ⟨g, 5, none⟩ = some (.int .i64 e)
  c6 : w.cell? ⟨g, 6, none⟩ = some (.int .i64 l)
  c7 : w.cell? ⟨g, 7, none⟩ = some (.int .i64 m)
  c8 : w.cell? ⟨g, 8, none⟩ = some (.int .i64 ((f : Int) - 1))
  c9 : w.cell? ⟨g, 9, none⟩ = some (.bool false)
theorem Ib.next {w w' : World} {g : Nat} {n : Int} {nm : ByteArray} {wd : Int} {f e : Nat} {l m : Int} (h : Ib w g n nm wd f e l m) (hg : g < w.heap.size) (hb : Below w.heap.size w w') : Ib w' g n nm wd f e l m :=
  ⟨by rw [hb.cell (p := ⟨g, 0, none⟩) hg, h.c0], by rw [hb.cell (p := ⟨g, 1, none⟩) hg, h.c1], by rw [hb.cell (p := ⟨g, 2, none⟩) hg, h.c2], by rw [hb.cell (p := ⟨g, 3, none⟩) hg, h.c3], by rw [hb.cell (p := ⟨g, 4, none⟩) hg, h.c4], by rw [hb.cell (p := ⟨g, 5, none⟩) hg, h.c5], by rw [hb.cell (p := ⟨g, 6, none⟩) hg, h.c6], by rw [hb.cell (p := ⟨g, 7, none⟩) hg, h.c7], by rw [hb.cell (p := ⟨g, 8, none⟩) hg, h.c8], by rw [hb.cell (p := ⟨g, 9, none⟩) hg, h.c9]⟩
attribute [local irreducible] W4 Nz Nt
end Go.Proofs.YtgknbdehlmlipabGreatDoor

namespace Go.Proofs.YtgknbdehlmlipabGreatDoor
open Go.RowKit


theorem NT.more {K K' V : Nat} {v : Value} {w : World} (h : NT K V v w) (hk : K ≤ K') : NT K' V v w := by
  obtain ⟨g, k, cap, z, h1, h2, h3, h4, h5⟩ := h
  exact ⟨g, k, cap, z, h1, by omega, h3, h4, h5⟩
end Go.Proofs.YtgknbdehlmlipabGreatDoor

namespace Go.Proofs.YtgknbdehlmlipabGreatDoor
open Go.RowKit

def tpN (n : Int) : Nat := (2 ^ eN n - 1) * 2 ^ fN n
def sgN (n : Int) (s : Bool) : Nat := if s then 2 ^ (fN n + eN n) else 0
theorem pk_fin {n : Int} {s : Bool} {q : Int} {c : Nat} (hb : binN n) (h : isD (fN n) (leastN n) (mostN n) ⟨1, s, false, q, c⟩) : pkV n ⟨1, s, false, q, c⟩ = (q - leastN n).toNat * 2 ^ fN n + c + sgN n s := by
  unfold pkV sgN
  rw [if_pos ⟨hb, h⟩]
  unfold pk
  simp
theorem pk_inf {n : Int} {s : Bool} (hb : binN n) : pkV n ⟨2, s, false, 0, 0⟩ = tpN n + sgN n s := by
  unfold pkV sgN tpN
  rw [if_pos ⟨hb, Or.inr (Or.inl ⟨rfl, rfl, rfl, rfl⟩)⟩]
  unfold pk
  simp
end Go.Proofs.YtgknbdehlmlipabGreatDoor

namespace Go.Proofs.YtgknbdehlmlipabGreatDoor
open Go.RowKit

set_option maxHeartbeats 400000 in
theorem rbinary_any (n : Int) (w : World) : Calls Tryz.prog 12 #[.int .i64 n] w fun e w' => e = .returned (.bool (decide (binN n))) ∧ w' = w := by
  by_cases h1 : 1 ≤ n
  · by_cases h2 : n ≤ 6
    · rw [decide_eq_true (show binN n from ⟨h1, h2⟩)]
      go_enter Tryz.func12, Tryz.ntmps12
      go_wp2
      go_ret
      exact ⟨rfl, rfl⟩
    · rw [decide_eq_false (show ¬ binN n from fun h => h2 h.2)]
      go_enter Tryz.func12, Tryz.ntmps12
      go_wp2
      go_ret
      exact ⟨rfl, rfl⟩
  · rw [decide_eq_false (show ¬ binN n from fun h => h1 h.1)]
    go_enter Tryz.func12, Tryz.ntmps12
    go_wp2
    go_ret
    exact ⟨rfl, rfl⟩
theorem rfits4 (n : Int) (B : Nat) (hB : B < 2 ^ 256) (w : World) :
    Calls Tryz.prog 13 #[.int .i64 n, A4 B] w fun x w' => x = .returned (.bool (decide (okN n ∧ B < 2 ^ (widthN n).toNat))) ∧ Below w.heap.size w w' := by
  refine (rfits_any n (W4 B) (W4_words B) _ (A4_get B) rfl w).mono ?_
  rintro x w' ⟨rfl, hb⟩
  refine ⟨?_, hb⟩
  have hwd := (fields_bounds n).2.1
  have e : (fitsP n (W4 B)) ↔ (okN n ∧ B < 2 ^ (widthN n).toNat) := by
    unfold fitsP
    rw [lenL_low]
    have := len4_le (k := (widthN n).toNat) hB
    rw [show (((widthN n).toNat : Nat) : Int) = widthN n by omega] at this
    rw [this]
  rw [decide_eq_decide.2 e]
set_option maxHeartbeats 400000 in
theorem rgood_any (n : Int) (B : Nat) (hB : B < 2 ^ 256) (w : World) :
    Calls Tryz.prog 5 #[.int .i64 n, A4 B] w fun x w' => x = .returned (.bool (decide (goodN n B))) ∧ Below w.heap.size w w' := by
  have c35 := fun w => rbinary_any n w
  have c50 := fun w => rfits4 n B hB w
  by_cases hb : binN n
  · have hF := bin_fields hb
    rw [decide_eq_true hb] at c35
    have e : (okN n ∧ B < 2 ^ (widthN n).toNat) ↔ goodN n B := by
      rw [hF.2.2.2.2.1, Int.toNat_natCast]
      exact ⟨fun h => ⟨hb, h.2⟩, fun h => ⟨hF.1, h.2⟩⟩
    rw [decide_eq_decide.2 e] at c50
    generalize decide (goodN n B) = D at *
    clear hF e hb hB
    go_enter Tryz.func5, Tryz.ntmps5
    go_wp2_with (first
      | (go_at_call 12; refine (c35 _).mono ?_; rintro e w1 ⟨rfl, rfl⟩)
      | (go_at_call 13; refine (c50 _).mono ?_; rintro e w2 ⟨rfl, hb2⟩))
    go_ret
    exact ⟨rfl, bnext bgo hb2⟩
  · rw [decide_eq_false hb] at c35
    rw [decide_eq_false (show ¬ goodN n B from fun h => hb h.1)]
    clear hb hB c50
    go_enter Tryz.func5, Tryz.ntmps5
    go_wp2_with (go_at_call 12; refine (c35 _).mono ?_; rintro e w1 ⟨rfl, rfl⟩)
    go_ret
    exact ⟨rfl, bgo⟩
end Go.Proofs.YtgknbdehlmlipabGreatDoor

namespace Go.Proofs.YtgknbdehlmlipabGreatDoor
open Go.RowKit

theorem NT.stays (K V : Nat) : Stays (NT K V) := fun v w w' h hb => h.next hb
section
variable {a : Act} {w : World} {K : Act → World → Prop} {Q : Exit → Act → World → Prop} {d p q r : Nat} {ty : TypeId} {pos : String} {after : Array Edge} {gd : Option (Nat × Bool)}
end
end Go.Proofs.YtgknbdehlmlipabGreatDoor

namespace Go.Proofs.YtgknbdehlmlipabGreatDoor
open Go.RowKit

theorem puts_slot (a : Act) : ∀ (D : List Nat) (b : Act), (D.foldl (fun b d => b.put (some d) (slot a d)) b).tmps.size = b.tmps.size ∧ (D.foldl (fun b d => b.put (some d) (slot a d)) b).defers = b.defers ∧ ∀ t, t < b.tmps.size → slot (D.foldl (fun b d => b.put (some d) (slot a d)) b) t = if t ∈ D then slot a t else slot b t
  | [], b => ⟨rfl, rfl, fun t ht => by simp⟩
  | d :: D, b => by
    obtain ⟨h1, h2, h3⟩ := puts_slot a D (b.put (some d) (slot a d))
    have hs : (b.put (some d) (slot a d)).tmps.size = b.tmps.size := by simp [Act.put]
    refine ⟨h1.trans hs, h2, fun t ht => ?_⟩
    rw [List.foldl_cons, h3 t (by rw [hs]; exact ht)]
    by_cases hD : t ∈ D
    · rw [if_pos hD, if_pos (List.mem_cons_of_mem _ hD)]
    · rw [if_neg hD]
      by_cases hd : t = d
      · subst hd
        rw [if_pos List.mem_cons_self, slot_put ht]
      · rw [if_neg (by simp [hd, hD]), slot_put_ne (fun h => hd h.symm)]
theorem act_of {a a0 : Act} (D : List Nat) (n : Nat) (hn : D.length = n) (hsz : a.tmps.size = a0.tmps.size) (hdf : a.defers = a0.defers) (hF : ∀ t, (∀ i, i < n → D.getD i 0 ≠ t) → slot a t = slot a0 t) :
    a = D.foldl (fun b d => b.put (some d) (slot a d)) a0 := by
  obtain ⟨h1, h2, h3⟩ := puts_slot a D a0
  generalize D.foldl (fun b d => b.put (some d) (slot a d)) a0 = b at *
  have key : ∀ t, t < a0.tmps.size → slot a t = slot b t := fun t ht => by
    rw [h3 t ht]
    by_cases hD : t ∈ D
    · rw [if_pos hD]
    · rw [if_neg hD]
      refine hF t fun i hi e => hD ?_
      rw [← e, List.getD_eq_getElem?_getD, List.getElem?_eq_getElem (by omega)]
      exact List.getElem_mem _
  have ht : a.tmps = b.tmps := by
    apply Array.ext (by omega)
    intro i h4 h5
    have := key i (by omega)
    unfold slot at this
    rw [Array.getElem?_eq_getElem h4, Array.getElem?_eq_getElem h5] at this
    exact this
  cases a; cases b
  simp only at ht hdf h2 ⊢
  rw [ht, hdf, h2]

attribute [local irreducible] W4 NT NV
end Go.Proofs.YtgknbdehlmlipabGreatDoor

namespace Go.Proofs.YtgknbdehlmlipabGreatDoor
open Go.RowKit

/-- a block holds four words of a number, from a place on -/
structure Four (w : World) (g o k : Nat) : Prop where
  cell : ∀ i, i < 4 → w.cell? ⟨g, o + i, none⟩ = some (.int .u64 (W4 k i))
theorem Four.next {w w' : World} {g o k : Nat} (h : Four w g o k) (hg : g < w.heap.size) (hb : Below w.heap.size w w') : Four w' g o k :=
  ⟨fun i hi => by rw [hb.cell (p := ⟨g, o + i, none⟩) hg]; exact h.cell i hi⟩
/-- a block holds a datum -/
structure Dc (w : World) (g : Nat) (c : Int) (s b : Bool) (x : Int) (k : Nat) : Prop where
  c0 : w.cell? ⟨g, 0, none⟩ = some (.int .i64 c)
  c1 : w.cell? ⟨g, 1, none⟩ = some (.bool s)
  c2 : w.cell? ⟨g, 2, none⟩ = some (.bool b)
  c3 : w.cell? ⟨g, 3, none⟩ = some (.int .i64 x)
  c4 : w.cell? ⟨g, 4, none⟩ = some (.int .u64 (W4 k 0))
  c5 : w.cell? ⟨g, 5, none⟩ = some (.int .u64 (W4 k 1))
  c6 : w.cell? ⟨g, 6, none⟩ = some (.int .u64 (W4 k 2))
  c7 : w.cell? ⟨g, 7, none⟩ = some (.int .u64 (W4 k 3))
theorem Dc.next {w w' : World} {g : Nat} {c : Int} {s b : Bool} {x : Int} {k : Nat} (h : Dc w g c s b x k) (hg : g < w.heap.size) (hb : Below w.heap.size w w') : Dc w' g c s b x k :=
  ⟨by rw [hb.cell (p := ⟨g, 0, none⟩) hg, h.c0], by rw [hb.cell (p := ⟨g, 1, none⟩) hg, h.c1], by rw [hb.cell (p := ⟨g, 2, none⟩) hg, h.c2], by rw [hb.cell (p := ⟨g, 3, none⟩) hg, h.c3],
   by rw [hb.cell (p := ⟨g, 4, none⟩) hg, h.c4], by rw [hb.cell (p := ⟨g, 5, none⟩) hg, h.c5], by rw [hb.cell (p := ⟨g, 6, none⟩) hg, h.c6], by rw [hb.cell (p := ⟨g, 7, none⟩) hg, h.c7]⟩
/-- what stands in the words below i -/
def mo (A B i : Nat) : Bool := decide (val (W4 B) i < val (W4 A) i)
attribute [local irreducible] W4 mo
end Go.Proofs.YtgknbdehlmlipabGreatDoor

namespace Go.Proofs.YtgknbdehlmlipabGreatDoor
open Go.RowKit

/-- a pattern lies in a block of its own -/
structure C4 (g X : Nat) (w : World) : Prop where
  lt : g < w.heap.size
  c0 : w.cell? ⟨g, 0, none⟩ = some (.int .u64 (W4 X 0))
  c1 : w.cell? ⟨g, 1, none⟩ = some (.int .u64 (W4 X 1))
  c2 : w.cell? ⟨g, 2, none⟩ = some (.int .u64 (W4 X 2))
  c3 : w.cell? ⟨g, 3, none⟩ = some (.int .u64 (W4 X 3))
  f0 : w.frozen? ⟨g, 0, none⟩ = false
  f1 : w.frozen? ⟨g, 1, none⟩ = false
  f2 : w.frozen? ⟨g, 2, none⟩ = false
  f3 : w.frozen? ⟨g, 3, none⟩ = false
theorem C4.next {g X : Nat} {w w' : World} (h : C4 g X w) (hb : Below w.heap.size w w') : C4 g X w' :=
  ⟨Nat.lt_of_lt_of_le h.lt hb.size, (hb.cell (p := ⟨g, 0, none⟩) h.lt).trans h.c0, (hb.cell (p := ⟨g, 1, none⟩) h.lt).trans h.c1, (hb.cell (p := ⟨g, 2, none⟩) h.lt).trans h.c2, (hb.cell (p := ⟨g, 3, none⟩) h.lt).trans h.c3,
    (hb.frozen (p := ⟨g, 0, none⟩) h.lt).trans h.f0, (hb.frozen (p := ⟨g, 1, none⟩) h.lt).trans h.f1, (hb.frozen (p := ⟨g, 2, none⟩) h.lt).trans h.f2, (hb.frozen (p := ⟨g, 3, none⟩) h.lt).trans h.f3⟩
theorem C4.new (w : World) (t : TypeId) : C4 w.heap.size 0 (w.alloc (.cells #[.int .u64 0, .int .u64 0, .int .u64 0, .int .u64 0] t)) := by
  refine ⟨by simp, ?_, ?_, ?_, ?_, ?_, ?_, ?_, ?_⟩ <;> first | (rw [W4_zero]; go_simp) | go_simp
/-- a pattern written over another one -/
abbrev put4C (w : World) (g X : Nat) : World := (((w.setCell ⟨g, 0, none⟩ (.int .u64 (W4 X 0))).setCell ⟨g, 1, none⟩ (.int .u64 (W4 X 1))).setCell ⟨g, 2, none⟩ (.int .u64 (W4 X 2))).setCell ⟨g, 3, none⟩ (.int .u64 (W4 X 3))
theorem C4.put {g X Y : Nat} {w : World} (h : C4 g X w) : C4 g Y (put4C w g Y) := by
  have hsm := cell_set_map
  obtain ⟨h0, h1, h2, h3, h4, h5, h6, h7, h8⟩ := h
  refine ⟨by simp; exact h0, ?_, ?_, ?_, ?_, ?_, ?_, ?_, ?_⟩ <;> go_simp
theorem put4C_upd (w : World) (g X : Nat) : Upd g w (put4C w g X) := ((((Upd.refl g w).set 0 _).set 1 _).set 2 _).set 3 _
theorem NT.lt {K V b k c : Nat} {w : World} (h : NT K V (.slice (some ⟨b, 0, none⟩) k c) w) : b < w.heap.size := by
  obtain ⟨g', k', c', z, e, hk, hN, hv, hs⟩ := h
  cases e
  rcases hN.2.2.2.2 with ⟨h, _⟩ | ⟨b', off', h, hbs, _⟩
  · cases h
  · cases h; exact hbs
attribute [local irreducible] W4 NT NV
end Go.Proofs.YtgknbdehlmlipabGreatDoor

set_option maxRecDepth 100000
namespace Go.Proofs.YtgknbdehlmlipabGreatDoor
open Go.ChangeShapes Go.WideShapes Go.ChangeAt Go.RowKit

section
variable {H : Type} {enc : TypeId × Value → H} {W : World} {r : Reach} {base b : Nat} {sp : Nat → Bool} {held : Bool} {t : TypeId} {n : Nat} {v : Value} {d : DataW H} {p : List MemPlace}
theorem open_bits (hok : Value.okWide Tryz.prog W r base 24 v) (h : DataW.Trod enc Tryz.prog W b sp held 24 v d p) : ∃ A, A < 2 ^ 256 ∧ v = A4 A ∧ p = [] := by
  obtain ⟨x, hx, rfl, hp⟩ := open_words Tryz.underlying24 (by kernel_rfl) hok h
  obtain ⟨A, hA, he, _⟩ := words_A4 hx
  exact ⟨A, hA, he, hp⟩
theorem bits_stay {W' : World} {sp' : Nat → Bool} (h : DataW.Trod enc Tryz.prog W 0 (fun _ => true) true 24 v d []) : DataW.Trod enc Tryz.prog W' 0 sp' true 24 v d [] :=
  WideElems.Trod_stays Tryz.laidOut (by kernel_rfl) (of_decide_eq_true (by kernel_rfl)) h (by simp) (by simp)
end
end Go.Proofs.YtgknbdehlmlipabGreatDoor
