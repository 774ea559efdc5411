/-
  Texts that the proof leans on.
-/
import Derived.Test.YtpemdcnneabbfaaDoorJ20
import Derived.Test.YtpemdcnneabbfaaDoorJ6
import Derived.Test.YtpemdcnneabbfaaDoorJ3
import Derived.Test.YtpemdcnneabbfaaDoorJ19
import Derived.Test.YtpemdcnneabbfaaDoorJ7
set_option linter.unusedVariables false
set_option linter.unusedSectionVars false
set_option linter.unusedSimpArgs false
set_option maxRecDepth 20000
namespace Go.Proofs.YtpemdcnneabbfaaDoor
open Go.RowKit
section
/-- a binary format's layout: bits of the fraction, bits of the exponent, least and most -/
structure Fm (f e : Nat) (l m : Int) : Prop where
  f2 : 2 ≤ f
  f240 : f ≤ 240
  e2 : 2 ≤ e
  e15 : e ≤ 15
  fe : f + e ≤ 255
  l1 : -1000000 ≤ l
  l0 : l ≤ 0
  m : m = l + 2 ^ e - 3
abbrev LV (f e : Nat) (l m : Int) : Value := .agg #[.int .i64 f, .int .i64 e, .int .i64 l, .int .i64 m]
theorem pow_e {e : Nat} (h2 : 2 ≤ e) (h15 : e ≤ 15) : (4 : Int) ≤ 2 ^ e ∧ (2 : Int) ^ e ≤ 32768 := by
  have a : (2 : Nat) ^ 2 ≤ 2 ^ e := Nat.pow_le_pow_right (by decide) h2
  have b : (2 : Nat) ^ e ≤ 2 ^ 15 := Nat.pow_le_pow_right (by decide) h15
  have c : ((2 : Int) ^ e) = ((2 ^ e : Nat) : Int) := by simp
  rw [c]; omega
set_option maxHeartbeats 400000 in
theorem special_any (f e : Nat) (l m : Int) (w : World) (h : Fm f e l m) :
    Calls Tryd.prog 28 #[LV f e l m] w fun x w' => x = .returned (.int .u64 ((2 ^ e - 1 : Nat) : Int)) ∧ Below w.heap.size w w' := by
  have h2 := h.e2
  have h15 := h.e15
  have hp := pow_e h2 h15
  have hc : ((2 ^ e - 1 : Nat) : Int) = 2 ^ e - 1 := by
    have c : ((2 : Int) ^ e) = ((2 ^ e : Nat) : Int) := by simp
    have : 1 ≤ 2 ^ e := Nat.one_le_two_pow
    rw [c]; omega
  rw [hc]
  clear hc h
  go_enter Tryd.func28, Tryd.ntmps28
  go_wp2
  go_ret
  exact ⟨rfl, (Below.refl _ _).alloc (Nat.le_refl _) _⟩
theorem lt_below {n g : Nat} {W W' : World} (hb : Below n W W') (h : g < W.heap.size) : g < W'.heap.size := Nat.lt_of_lt_of_le h hb.size
theorem bnext {w0 W W' : World} (h : Below w0.heap.size w0 W) (hb : Below W.heap.size W W') : Below w0.heap.size w0 W' := h.trans (hb.mono h.size)
set_option maxHeartbeats 400000 in
theorem power_any (n : Nat) (w : World) (hn : n ≤ 100000) :
    Calls Tryd.prog 31 #[.int .i64 n] w fun x w' => x = .returned (A4 (2 ^ n)) ∧ Below w.heap.size w w' := by
  have c1 := fun w => of4 1 w (by decide)
  have c2 := fun w => shl4 1 n w (by decide) hn
  rw [Nat.one_mul] at c2
  go_enter Tryd.func31, Tryd.ntmps31
  go_wp2_with (first
    | (go_at_call 49; refine (c1 _).mono ?_; rintro x w1 ⟨rfl, hb1⟩; obtain ⟨hc1, hf1⟩ := bcell hb1; have hz1 := lt_alloc' hb1; have hA1 := bnext (w0 := w) bgo hb1; clear hb1)
    | (go_at_call 45; refine (c2 _).mono ?_; rintro x w2 ⟨rfl, hb2⟩; obtain ⟨hc2, hf2⟩ := bcell hb2; have hz2 := Nat.lt_of_lt_of_le hz1 hb2.size; have hA2 := bnext (w0 := w) bgo hb2; clear hb2))
  exact bodyPost_ret (v := A4 (2 ^ n)) (by simp [results, Tryd.results31, go_sem, *]) rfl ⟨rfl, bgo⟩
set_option maxHeartbeats 400000 in
theorem quiet_any (f e : Nat) (l m : Int) (w : World) (h : Fm f e l m) :
    Calls Tryd.prog 47 #[LV f e l m] w fun x w' => x = .returned (A4 (2 ^ (f - 1))) ∧ Below w.heap.size w w' := by
  have h2 := h.f2
  have h240 := h.f240
  have c1 := fun w => power_any (f - 1) w (by omega)
  rw [show ((f - 1 : Nat) : Int) = (f : Int) - 1 by omega] at c1
  clear h
  go_enter Tryd.func47, Tryd.ntmps47
  go_wp2_with (go_at_call 31; refine (c1 _).mono ?_; rintro x w1 ⟨rfl, hb1⟩; obtain ⟨hc1, hf1⟩ := bcell hb1)
  have hA1 := bnext (w0 := w) bgo hb1
  exact bodyPost_ret (v := A4 (2 ^ (f - 1))) (by simp [results, Tryd.results47, go_sem, hc1, hf1]) rfl ⟨rfl, bgo⟩
theorem mod_and {f e B : Nat} (he : e ≤ 15) : bits BinOp.and IntKind.u64 (W4 (B / 2 ^ f) 0) ((2 ^ e - 1 : Nat) : Int) = ((B / 2 ^ f % 2 ^ e : Nat) : Int) := by
  have hc : ((2 ^ e - 1 : Nat) : Int) = 2 ^ e - 1 := by
    have c : ((2 : Int) ^ e) = ((2 ^ e : Nat) : Int) := by simp
    have : 1 ≤ 2 ^ e := Nat.one_le_two_pow
    rw [c]; omega
  rw [hc, and_mask (W4_words _ 0) (by omega)]
  unfold W4
  rw [Nat.mul_zero, Nat.pow_zero, Nat.div_one]
  have e2 : ((2 : Int) ^ e) = ((2 ^ e : Nat) : Int) := by simp
  rw [e2, ← Int.natCast_emod]
  congr 1
  rw [show (18446744073709551616 : Nat) = 2 ^ e * 2 ^ (64 - e) by rw [← Nat.pow_add, show e + (64 - e) = 64 by omega]]
  exact Nat.mod_mul_right_mod _ _ _
theorem cell_set {W : World} {p : Addr} {u : Value} (h : W.cell? p = some u) (v : Value) : (W.setCell p v).cell? p = some v := by simp [go_sem, h]
theorem cell_set_ne {W : World} {g i j : Nat} (hij : i ≠ j) (v : Value) : (W.setCell ⟨g, i, none⟩ v).cell? ⟨g, j, none⟩ = W.cell? ⟨g, j, none⟩ := by simp [go_sem, hij]
theorem put4 {W : World} {g : Nat} {u0 u1 u2 u3 : Value} (h0 : W.cell? ⟨g, 0, none⟩ = some u0) (h1 : W.cell? ⟨g, 1, none⟩ = some u1) (h2 : W.cell? ⟨g, 2, none⟩ = some u2) (h3 : W.cell? ⟨g, 3, none⟩ = some u3) (v0 v1 v2 v3 : Value) :
    (W.setCell ⟨g, 0, none⟩ v0).cell? ⟨g, 0, none⟩ = some v0 ∧ ((W.setCell ⟨g, 0, none⟩ v0).setCell ⟨g, 1, none⟩ v1).cell? ⟨g, 1, none⟩ = some v1 ∧ (((W.setCell ⟨g, 0, none⟩ v0).setCell ⟨g, 1, none⟩ v1).setCell ⟨g, 2, none⟩ v2).cell? ⟨g, 2, none⟩ = some v2 ∧ ((((W.setCell ⟨g, 0, none⟩ v0).setCell ⟨g, 1, none⟩ v1).setCell ⟨g, 2, none⟩ v2).setCell ⟨g, 3, none⟩ v3).cell? ⟨g, 3, none⟩ = some v3 :=
  ⟨cell_set h0 _, cell_set ((cell_set_ne (by decide) _).trans h1) _, cell_set ((cell_set_ne (by decide) _).trans ((cell_set_ne (by decide) _).trans h2)) _, cell_set ((cell_set_ne (by decide) _).trans ((cell_set_ne (by decide) _).trans ((cell_set_ne (by decide) _).trans h3))) _⟩
/-- the sign's bit -/
def sgB (f e B : Nat) : Bool := (((B / 2 ^ (f + e) % 2 : Nat) : Int) == 1)
set_option maxHeartbeats 1000000 in
theorem split_any (f e : Nat) (l m : Int) (B : Nat) (w : World) (h : Fm f e l m) (hB : B < 2 ^ 256) :
    Calls Tryd.prog 27 #[LV f e l m, A4 B] w fun x w' => x = .returned (.tuple #[.bool (sgB f e B), .int .u64 ((B / 2 ^ f % 2 ^ e : Nat) : Int), A4 (B % 2 ^ f)]) ∧ Below w.heap.size w w' := by
  have hf2 := h.f2
  have hf240 := h.f240
  have he15 := h.e15
  have hfe := h.fe
  have c43 := fun w => bit4 B (f + e) w hB (by omega)
  have c44 := fun w => shr4 B f w hB (by omega)
  have c20 := fun w => special_any f e l m w h
  have hd : B / 2 ^ f < 2 ^ 256 := Nat.lt_of_le_of_lt (Nat.div_le_self _ _) hB
  have c45 := fun w => shl4 (B / 2 ^ f) f w hd (by omega)
  have hle : B / 2 ^ f * 2 ^ f ≤ B := Nat.div_mul_le_self _ _
  have c39 := fun w => sub4 B (B / 2 ^ f * 2 ^ f) w hB (Nat.lt_of_le_of_lt hle hB)
  rw [A4_sub hle, show B - B / 2 ^ f * 2 ^ f = B % 2 ^ f by have := Nat.div_add_mod' B (2 ^ f); omega, if_neg (show ¬ B < B / 2 ^ f * 2 ^ f by omega)] at c39
  have hand := mod_and (f := f) (B := B) he15
  unfold sgB
  rw [Int.natCast_add] at c43
  clear h hd hle hB
  generalize ((B / 2 ^ (f + e) % 2 : Nat) : Int) = S at *
  generalize ((B / 2 ^ f % 2 ^ e : Nat) : Int) = E at *
  generalize ((2 ^ e - 1 : Nat) : Int) = sp at *
  generalize B % 2 ^ f = Fr at *
  generalize B / 2 ^ f * 2 ^ f = Sh at *
  generalize B / 2 ^ f = Ab at *
  go_enter Tryd.func27, Tryd.ntmps27
  go_wp2_with (first
    | (go_at_call 42; refine (c43 _).mono ?_; rintro x w1 ⟨rfl, hb1⟩; obtain ⟨hc1, hf1⟩ := bcell hb1; have hz1_0 : w.heap.size < w1.heap.size := lt_below hb1 ltg; have hl1_0 := Nat.le_of_lt hz1_0; have hz1_1 : w.heap.size + 1 < w1.heap.size := lt_below hb1 ltg; have hl1_1 := Nat.le_of_lt hz1_1; have hz1_2 : w.heap.size + 1 + 1 < w1.heap.size := lt_below hb1 ltg; have hl1_2 := Nat.le_of_lt hz1_2; have hA1 := bnext (w0 := w) bgo hb1; have hs1 := hA1.size; clear hb1)
    | (go_at_call 43; refine (c44 _).mono ?_; rintro x w2 ⟨rfl, hb2⟩; obtain ⟨hc2, hf2⟩ := bcell hb2; have hz2_0 : w.heap.size < w2.heap.size := lt_below hb2 ltg; have hl2_0 := Nat.le_of_lt hz2_0; have hz2_1 : w.heap.size + 1 < w2.heap.size := lt_below hb2 ltg; have hl2_1 := Nat.le_of_lt hz2_1; have hz2_2 : w.heap.size + 1 + 1 < w2.heap.size := lt_below hb2 ltg; have hl2_2 := Nat.le_of_lt hz2_2; have hA2 := bnext (w0 := w) bgo hb2; have hs2 := hA2.size; clear hb2))
  refine wp_whole (by kernel_rfl) (by kernel_rfl) fun hne hcell => ?_
  repeat go_big_quiet_step (fail)
  go_big_quiet_step ((go_at_call 28; exact calls_wd _ bk_next (c20 _)))
  repeat go_big_quiet_step (fail)
  refine wpQuiet_nil fun w3 hb3 => ?_
  obtain ⟨hc3, hf3⟩ := bcell hb3; have hz3_0 : w.heap.size < w3.heap.size := lt_below hb3 ltg; have hl3_0 := Nat.le_of_lt hz3_0; have hz3_1 : w.heap.size + 1 < w3.heap.size := lt_below hb3 ltg; have hl3_1 := Nat.le_of_lt hz3_1; have hz3_2 : w.heap.size + 1 + 1 < w3.heap.size := lt_below hb3 ltg; have hl3_2 := Nat.le_of_lt hz3_2; have hz3_3 : w2.heap.size < w3.heap.size := lt_below hb3 ltg; have hl3_3 := Nat.le_of_lt hz3_3; have hA3 := bnext (w0 := w) bgo hb3; have hs3 := hA3.size; clear hb3
  go_wp2
  refine wp_tail 6 (by kernel_rfl) (by kernel_rfl) (by kernel_rfl) (fun _ _ d _ _ h => by cases d <;> exact h) fun hne hcell => ?_
  simp only [List.take_succ_cons, List.take_zero, List.drop_succ_cons, List.drop_zero]
  repeat go_big_quiet_step (fail)
  go_big_quiet_step ((go_at_call 45; exact calls_wd _ bk_next (c45 _)))
  repeat go_big_quiet_step (fail)
  go_big_quiet_step ((go_at_call 44; exact calls_wd _ bk_next (c39 _)))
  repeat go_big_quiet_step (fail)
  refine wpQuiet_nil fun w4 hb4 => ?_
  obtain ⟨hc4, hf4⟩ := bcell hb4; have hz4_0 : w.heap.size < w4.heap.size := lt_below hb4 ltg; have hl4_0 := Nat.le_of_lt hz4_0; have hz4_1 : w.heap.size + 1 < w4.heap.size := lt_below hb4 ltg; have hl4_1 := Nat.le_of_lt hz4_1; have hz4_2 : w.heap.size + 1 + 1 < w4.heap.size := lt_below hb4 ltg; have hl4_2 := Nat.le_of_lt hz4_2; have hz4_3 : w2.heap.size < w4.heap.size := lt_below hb4 ltg; have hl4_3 := Nat.le_of_lt hz4_3; have hA4 := bnext (w0 := w) bgo hb4; have hs4 := hA4.size; clear hb4
  have k4_wheapsize11_0 : w4.cell? ⟨w.heap.size + 1 + 1, 0, none⟩ = some (.int .u64 0) := (by go_simp); have k4_wheapsize11_1 : w4.cell? ⟨w.heap.size + 1 + 1, 1, none⟩ = some (.int .u64 0) := (by go_simp); have k4_wheapsize11_2 : w4.cell? ⟨w.heap.size + 1 + 1, 2, none⟩ = some (.int .u64 0) := (by go_simp); have k4_wheapsize11_3 : w4.cell? ⟨w.heap.size + 1 + 1, 3, none⟩ = some (.int .u64 0) := (by go_simp)
  go_wp2
  refine wp_tail 5 (by kernel_rfl) (by kernel_rfl) (by kernel_rfl) (fun _ _ d _ _ h => by cases d <;> exact h) fun hne hcell => ?_
  simp only [List.take_succ_cons, List.take_zero, List.drop_succ_cons, List.drop_zero]
  repeat go_big_quiet_step (fail)
  refine wpQuiet_nil fun w5 hb5 => ?_
  obtain ⟨hc5, hf5⟩ := bcell hb5; have hz5_0 : w.heap.size < w5.heap.size := lt_below hb5 ltg; have hl5_0 := Nat.le_of_lt hz5_0; have hz5_1 : w.heap.size + 1 < w5.heap.size := lt_below hb5 ltg; have hl5_1 := Nat.le_of_lt hz5_1; have hz5_2 : w.heap.size + 1 + 1 < w5.heap.size := lt_below hb5 ltg; have hl5_2 := Nat.le_of_lt hz5_2; have hz5_3 : w2.heap.size < w5.heap.size := lt_below hb5 ltg; have hl5_3 := Nat.le_of_lt hz5_3; have hA5 := bnext (w0 := w) bgo hb5; have hs5 := hA5.size; clear hb5
  have k5_wheapsize11_0 : w5.cell? ⟨w.heap.size + 1 + 1, 0, none⟩ = some (.int .u64 (W4 Fr 0)) := (by go_simp); have k5_wheapsize11_1 : w5.cell? ⟨w.heap.size + 1 + 1, 1, none⟩ = some (.int .u64 (W4 Fr 1)) := (by go_simp); have k5_wheapsize11_2 : w5.cell? ⟨w.heap.size + 1 + 1, 2, none⟩ = some (.int .u64 (W4 Fr 2)) := (by go_simp); have k5_wheapsize11_3 : w5.cell? ⟨w.heap.size + 1 + 1, 3, none⟩ = some (.int .u64 (W4 Fr 3)) := (by go_simp)
  obtain ⟨p5_0, p5_1, p5_2, p5_3⟩ := put4 k5_wheapsize11_0 k5_wheapsize11_1 k5_wheapsize11_2 k5_wheapsize11_3 (.int .u64 (W4 Fr 0)) (.int .u64 (W4 Fr 1)) (.int .u64 (W4 Fr 2)) (.int .u64 (W4 Fr 3))
  go_wp2
  exact bodyPost_ret (v := .tuple #[.bool (S == 1), .int .u64 E, A4 Fr]) (by simp only [results, Tryd.results27]; go_simp) rfl ⟨rfl, bgo⟩
end
section
theorem cell_set_map (W : World) (b i : Nat) (v : Value) : (W.setCell ⟨b, i, none⟩ v).cell? ⟨b, i, none⟩ = (W.cell? ⟨b, i, none⟩).map fun _ => v := by
  unfold World.cell? World.setCell
  simp only [Array.getElem?_modify, if_true]
  cases h : W.heap[b]? with
  | none => simp
  | some o =>
    cases o with
    | cells c e fr =>
      simp only [Option.map_some, Option.isSome_none, Bool.false_eq_true, if_false]
      by_cases hi : i < c.size
      · simp [hi]
      · simp [hi]
    | _ => simp
/-- a datum: class, sign, signal, exponent, coefficient -/
structure Dat where
  c : Int
  s : Bool
  g : Bool
  x : Int
  k : Nat
abbrev DV (c : Int) (s g : Bool) (x : Int) (k : Nat) : Value := .agg #[.int .i64 c, .bool s, .bool g, .int .i64 x, .int .u64 (W4 k 0), .int .u64 (W4 k 1), .int .u64 (W4 k 2), .int .u64 (W4 k 3)]
abbrev Dat.v (d : Dat) : Value := DV d.c d.s d.g d.x d.k
theorem W4_zero (i : Nat) : W4 0 i = 0 := by unfold W4; simp
/-- what the pattern with that fraction means, the exponent all ones -/
def spc (f : Nat) (s : Bool) (F : Nat) : Dat := if F = 0 then ⟨2, s, false, 0, 0⟩ else if F < 2 ^ (f - 1) then ⟨3, s, true, 0, F⟩ else ⟨3, s, false, 0, F - 2 ^ (f - 1)⟩

set_option maxHeartbeats 1000000 in
theorem special_zero (f e : Nat) (l m : Int) (s : Bool) (w : World) :
    Calls Tryd.prog 29 #[LV f e l m, .bool s, A4 0] w fun x w' => x = .returned (DV 2 s false 0 0) ∧ Below w.heap.size w w' := by
  have c46 := fun w => len4' 0 w
  rw [(len4_zero (A := 0) (by decide)).2 rfl] at c46
  unfold DV
  simp only [A4, W4_zero] at c46 ⊢
  go_enter Tryd.func29, Tryd.ntmps29
  go_wp2_with (go_at_call 46; refine (c46 _).mono ?_; rintro x w1 ⟨rfl, hb1⟩; obtain ⟨hc1, hf1⟩ := bcell hb1; have hz1_0 : w.heap.size < w1.heap.size := lt_below hb1 ltg; have hl1_0 := Nat.le_of_lt hz1_0; have hz1_1 : w.heap.size + 1 < w1.heap.size := lt_below hb1 ltg; have hl1_1 := Nat.le_of_lt hz1_1; have hz1_2 : w.heap.size + 1 + 1 < w1.heap.size := lt_below hb1 ltg; have hl1_2 := Nat.le_of_lt hz1_2; have hA1 := bnext (w0 := w) bgo hb1; have hs1 := hA1.size; clear hb1)
  have hsm := cell_set_map
  exact bodyPost_ret (v := .agg #[.int .i64 2, .bool s, .bool false, .int .i64 0, .int .u64 0, .int .u64 0, .int .u64 0, .int .u64 0]) (by simp only [results, Tryd.results29]; go_simp) rfl ⟨rfl, bgo⟩
set_option maxHeartbeats 1000000 in
theorem special_nan (f e : Nat) (l m : Int) (s : Bool) (F : Nat) (w : World) (h : Fm f e l m) (hF : F < 2 ^ 256) (h0 : F ≠ 0) :
    Calls Tryd.prog 29 #[LV f e l m, .bool s, A4 F] w fun x w' => x = .returned (if F < 2 ^ (f - 1) then DV 3 s true 0 F else DV 3 s false 0 (F - 2 ^ (f - 1))) ∧ Below w.heap.size w w' := by
  have hf2 := h.f2
  have hf240 := h.f240
  have c46 := fun w => len4' F w
  have hL : lenL (W4 F) 4 ≠ 0 := fun h1 => h0 ((len4_zero hF).1 h1)
  generalize lenL (W4 F) 4 = L at *
  have hLb : (L == 0) = false := by simpa using hL
  have c47 := fun w => quiet_any f e l m w h
  have c39 := fun w => sub4 F (2 ^ (f - 1)) w hF (Nat.pow_lt_pow_right (by decide) (by omega))
  clear h hF h0 hL hf2 hf240
  by_cases hlt : F < 2 ^ (f - 1)
  · rw [if_pos hlt]
    rw [if_pos hlt] at c39
    clear hlt
    generalize F + 2 ^ 256 - 2 ^ (f - 1) = Pl at *
    generalize 2 ^ (f - 1) = Qt at *
    go_enter Tryd.func29, Tryd.ntmps29
    go_wp2_with (go_at_call 46; refine (c46 _).mono ?_; rintro x w1 ⟨rfl, hb1⟩; obtain ⟨hc1, hf1⟩ := bcell hb1; have hz1_0 : w.heap.size < w1.heap.size := lt_below hb1 ltg; have hl1_0 := Nat.le_of_lt hz1_0; have hz1_1 : w.heap.size + 1 < w1.heap.size := lt_below hb1 ltg; have hl1_1 := Nat.le_of_lt hz1_1; have hz1_2 : w.heap.size + 1 + 1 < w1.heap.size := lt_below hb1 ltg; have hl1_2 := Nat.le_of_lt hz1_2; have hA1 := bnext (w0 := w) bgo hb1; have hs1 := hA1.size; clear hb1)
    refine wp_made 4 7 7 #[.int .u64 0, .int .u64 0, .int .u64 0, .int .u64 0] (by kernel_rfl) (by kernel_rfl) (by kernel_rfl) rfl (fun oa hoa a w => ?_) (by kernel_rfl) (by kernel_rfl) rfl rfl (fun _ _ d _ _ h => by cases d <;> exact h) ?_
    · cases hoa; exact ⟨24, by simp [go_sem]⟩
    apply Exists.intro
    refine ⟨fun al hne hcell => ?_, fun w2 hb2 => ?_, fun g w2 hb2 hg0 hg1 hg2 hg3 => ?_⟩
    · simp only [List.take_succ_cons, List.take_zero]
      repeat go_big_quiet_step (fail)
      go_big_quiet_step ((go_at_call 47; exact calls_wd _ al_next (c47 _)))
      repeat go_big_quiet_step (fail)
      go_big_quiet_step ((go_at_call 44; exact calls_wd _ al_next (c39 _)))
      exact wpQuiet_nil rfl
    · simp only [List.drop_succ_cons, List.drop_zero]
      obtain ⟨hc2, hf2⟩ := bcell hb2; have hz2_0 : w.heap.size < w2.heap.size := lt_below hb2 ltg; have hl2_0 := Nat.le_of_lt hz2_0; have hz2_1 : w.heap.size + 1 < w2.heap.size := lt_below hb2 ltg; have hl2_1 := Nat.le_of_lt hz2_1; have hz2_2 : w.heap.size + 1 + 1 < w2.heap.size := lt_below hb2 ltg; have hl2_2 := Nat.le_of_lt hz2_2; have hA2 := bnext (w0 := w) bgo hb2; have hs2 := hA2.size; clear hb2
      go_wp2
      have hsm := cell_set_map
      exact bodyPost_ret (v := DV 3 s true 0 F) (by simp only [results, Tryd.results29]; go_simp) rfl ⟨rfl, bgo⟩
    · simp only [List.drop_succ_cons, List.drop_zero, Nat.reduceSub, List.eraseIdx_cons_succ, List.eraseIdx_cons_zero]
      have hgw := hA1.size
      have hz0 : g ≠ w.heap.size := by omega
      have hz1 : g ≠ w.heap.size + 1 := by omega
      have hz2 : g ≠ w.heap.size + 1 + 1 := by omega
      obtain ⟨hc2, hf2⟩ := bcell hb2; have hz2_0 : w.heap.size < w2.heap.size := lt_below hb2 ltg; have hl2_0 := Nat.le_of_lt hz2_0; have hz2_1 : w.heap.size + 1 < w2.heap.size := lt_below hb2 ltg; have hl2_1 := Nat.le_of_lt hz2_1; have hz2_2 : w.heap.size + 1 + 1 < w2.heap.size := lt_below hb2 ltg; have hl2_2 := Nat.le_of_lt hz2_2; have hA2 := bnext (w0 := w) bgo hb2; have hs2 := hA2.size; clear hb2
      have hsm := cell_set_map
      go_wp2
      exact bodyPost_ret (v := DV 3 s true 0 F) (by simp only [results, Tryd.results29]; go_simp) rfl ⟨rfl, bgo⟩
  · rw [if_neg hlt]
    rw [if_neg hlt, A4_sub (by omega)] at c39
    clear hlt
    generalize F - 2 ^ (f - 1) = Pl at *
    generalize 2 ^ (f - 1) = Qt at *
    go_enter Tryd.func29, Tryd.ntmps29
    go_wp2_with (go_at_call 46; refine (c46 _).mono ?_; rintro x w1 ⟨rfl, hb1⟩; obtain ⟨hc1, hf1⟩ := bcell hb1; have hz1_0 : w.heap.size < w1.heap.size := lt_below hb1 ltg; have hl1_0 := Nat.le_of_lt hz1_0; have hz1_1 : w.heap.size + 1 < w1.heap.size := lt_below hb1 ltg; have hl1_1 := Nat.le_of_lt hz1_1; have hz1_2 : w.heap.size + 1 + 1 < w1.heap.size := lt_below hb1 ltg; have hl1_2 := Nat.le_of_lt hz1_2; have hA1 := bnext (w0 := w) bgo hb1; have hs1 := hA1.size; clear hb1)
    refine wp_made 4 7 7 #[.int .u64 0, .int .u64 0, .int .u64 0, .int .u64 0] (by kernel_rfl) (by kernel_rfl) (by kernel_rfl) rfl (fun oa hoa a w => ?_) (by kernel_rfl) (by kernel_rfl) rfl rfl (fun _ _ d _ _ h => by cases d <;> exact h) ?_
    · cases hoa; exact ⟨24, by simp [go_sem]⟩
    apply Exists.intro
    refine ⟨fun al hne hcell => ?_, fun w2 hb2 => ?_, fun g w2 hb2 hg0 hg1 hg2 hg3 => ?_⟩
    · simp only [List.take_succ_cons, List.take_zero]
      repeat go_big_quiet_step (fail)
      go_big_quiet_step ((go_at_call 47; exact calls_wd _ al_next (c47 _)))
      repeat go_big_quiet_step (fail)
      go_big_quiet_step ((go_at_call 44; exact calls_wd _ al_next (c39 _)))
      exact wpQuiet_nil rfl
    · simp only [List.drop_succ_cons, List.drop_zero]
      obtain ⟨hc2, hf2⟩ := bcell hb2; have hz2_0 : w.heap.size < w2.heap.size := lt_below hb2 ltg; have hl2_0 := Nat.le_of_lt hz2_0; have hz2_1 : w.heap.size + 1 < w2.heap.size := lt_below hb2 ltg; have hl2_1 := Nat.le_of_lt hz2_1; have hz2_2 : w.heap.size + 1 + 1 < w2.heap.size := lt_below hb2 ltg; have hl2_2 := Nat.le_of_lt hz2_2; have hA2 := bnext (w0 := w) bgo hb2; have hs2 := hA2.size; clear hb2
      go_wp2
      have hsm := cell_set_map
      exact bodyPost_ret (v := DV 3 s false 0 Pl) (by simp only [results, Tryd.results29]; go_simp) rfl ⟨rfl, bgo⟩
    · simp only [List.drop_succ_cons, List.drop_zero, Nat.reduceSub, List.eraseIdx_cons_succ, List.eraseIdx_cons_zero]
      have hgw := hA1.size
      have hz0 : g ≠ w.heap.size := by omega
      have hz1 : g ≠ w.heap.size + 1 := by omega
      have hz2 : g ≠ w.heap.size + 1 + 1 := by omega
      obtain ⟨hc2, hf2⟩ := bcell hb2; have hz2_0 : w.heap.size < w2.heap.size := lt_below hb2 ltg; have hl2_0 := Nat.le_of_lt hz2_0; have hz2_1 : w.heap.size + 1 < w2.heap.size := lt_below hb2 ltg; have hl2_1 := Nat.le_of_lt hz2_1; have hz2_2 : w.heap.size + 1 + 1 < w2.heap.size := lt_below hb2 ltg; have hl2_2 := Nat.le_of_lt hz2_2; have hA2 := bnext (w0 := w) bgo hb2; have hs2 := hA2.size; clear hb2
      have hsm := cell_set_map
      go_wp2
      exact bodyPost_ret (v := DV 3 s false 0 Pl) (by simp only [results, Tryd.results29]; go_simp) rfl ⟨rfl, bgo⟩
theorem special_spc (f e : Nat) (l m : Int) (s : Bool) (F : Nat) (w : World) (h : Fm f e l m) (hF : F < 2 ^ 256) :
    Calls Tryd.prog 29 #[LV f e l m, .bool s, A4 F] w fun x w' => x = .returned (spc f s F).v ∧ Below w.heap.size w w' := by
  unfold spc
  by_cases h0 : F = 0
  · subst h0
    rw [if_pos rfl]
    exact special_zero f e l m s w
  · rw [if_neg h0]
    refine (special_nan f e l m s F w h hF h0).mono ?_
    rintro x w' ⟨rfl, hb⟩
    refine ⟨?_, hb⟩
    split <;> rfl
end
section
/-- a binary format -/
def binN (n : Int) : Prop := 1 ≤ n ∧ n ≤ 6
instance (n : Int) : Decidable (binN n) := inferInstanceAs (Decidable (_ ∧ _))
def fN (n : Int) : Nat := (precN n - 1).toNat
def eN (n : Int) : Nat := (expN n).toNat
theorem bin_cases {n : Int} (h : binN n) : n = 1 ∨ n = 2 ∨ n = 3 ∨ n = 4 ∨ n = 5 ∨ n = 6 := by unfold binN at h; omega
theorem bin_fm {n : Int} (h : binN n) : Fm (fN n) (eN n) (leastN n) (mostN n) := by
  rcases bin_cases h with rfl | rfl | rfl | rfl | rfl | rfl <;> exact ⟨by decide, by decide, by decide, by decide, by decide, by decide, by decide, by decide⟩
theorem bin_fields {n : Int} (h : binN n) : okN n ∧ baseN n = 2 ∧ precN n = (fN n : Int) + 1 ∧ expN n = (eN n : Int) ∧ widthN n = ((fN n + eN n + 1 : Nat) : Int) ∧ payN n = (fN n : Int) - 1 := by
  rcases bin_cases h with rfl | rfl | rfl | rfl | rfl | rfl <;> exact ⟨by decide, by decide, by decide, by decide, by decide, by decide⟩
theorem not_bin {n : Int} (h : ¬ binN n) : (okN n ∧ baseN n = 10) ∨ ¬ okN n := by
  by_cases hk : okN n
  · left
    refine ⟨hk, ?_⟩
    rcases okN_cases hk with rfl | rfl | rfl | rfl | rfl | rfl | rfl | rfl | rfl | rfl | rfl | rfl <;> first | rfl | exact absurd (by decide) h
  · exact Or.inr hk
abbrev LZ : Value := .agg #[.int .i64 0, .int .i64 0, .int .i64 0, .int .i64 0]

set_option maxHeartbeats 1000000 in
theorem layoutOf_ok (n : Int) (w : World) (hT : Tab w) (h : binN n) :
    Calls Tryd.prog 38 #[.int .i64 n] w fun x w' => x = .returned (.tuple #[LV (fN n) (eN n) (leastN n) (mostN n), .int .i64 0]) ∧ Below w.heap.size w w' := by
  have c1 := fun w hT => ofv_any n w hT
  obtain ⟨hk, hb, hp, he, hw, hy⟩ := bin_fields h
  have hE : infoE n = 0 := if_pos hk
  have hF := bin_fm h
  have hf1 := hF.f240
  simp only [hE, hb, hp, he] at c1
  clear hE hb hp he hw hy hk hF
  go_enter Tryd.func38, Tryd.ntmps38
  go_wp2_with (go_at_call 32; refine (c1 _ (hT.alloc _)).mono ?_; rintro x w1 ⟨rfl, hb1⟩; obtain ⟨hc1, hf1⟩ := bcell hb1; have hz1_0 : w.heap.size < w1.heap.size := lt_below hb1 ltg; have hl1_0 := Nat.le_of_lt hz1_0; have hA1 := bnext (w0 := w) bgo hb1; have hs1 := hA1.size; clear hb1)
  have hsm := cell_set_map
  exact bodyPost_ret (v := .tuple #[LV (fN n) (eN n) (leastN n) (mostN n), .int .i64 0]) (by simp only [results, Tryd.results38]; go_simp) rfl ⟨rfl, bgo⟩
set_option maxHeartbeats 1000000 in
theorem layoutOf_bad (n : Int) (w : World) (hT : Tab w) (h : ¬ binN n) :
    Calls Tryd.prog 38 #[.int .i64 n] w fun x w' => x = .returned (.tuple #[LZ, .int .i64 1]) ∧ Below w.heap.size w w' := by
  have c1 := fun w hT => ofv_any n w hT
  rcases not_bin h with ⟨hk, hb⟩ | hk
  · have hE : infoE n = 0 := if_pos hk
    simp only [hE, hb] at c1
    clear hE hb hk h
    go_enter Tryd.func38, Tryd.ntmps38
    go_wp2_with (go_at_call 32; refine (c1 _ (hT.alloc _)).mono ?_; rintro x w1 ⟨rfl, hb1⟩; obtain ⟨hc1, hf1⟩ := bcell hb1; have hz1_0 : w.heap.size < w1.heap.size := lt_below hb1 ltg; have hl1_0 := Nat.le_of_lt hz1_0; have hA1 := bnext (w0 := w) bgo hb1; have hs1 := hA1.size; clear hb1)
    have hsm := cell_set_map
    exact bodyPost_ret (v := .tuple #[LZ, .int .i64 1]) (by simp only [results, Tryd.results38]; go_simp) rfl ⟨rfl, bgo⟩
  · have hE : infoE n = 1 := if_neg hk
    simp only [hE] at c1
    clear hE hk h
    go_enter Tryd.func38, Tryd.ntmps38
    go_wp2_with (go_at_call 32; refine (c1 _ (hT.alloc _)).mono ?_; rintro x w1 ⟨rfl, hb1⟩; obtain ⟨hc1, hf1⟩ := bcell hb1; have hz1_0 : w.heap.size < w1.heap.size := lt_below hb1 ltg; have hl1_0 := Nat.le_of_lt hz1_0; have hA1 := bnext (w0 := w) bgo hb1; have hs1 := hA1.size; clear hb1)
    have hsm := cell_set_map
    exact bodyPost_ret (v := .tuple #[LZ, .int .i64 1]) (by simp only [results, Tryd.results38]; go_simp) rfl ⟨rfl, bgo⟩

/-- a binary format's pattern -/
def goodN (n : Int) (B : Nat) : Prop := binN n ∧ B < 2 ^ (fN n + eN n + 1)
instance (n : Int) (B : Nat) : Decidable (goodN n B) := inferInstanceAs (Decidable (_ ∧ _))
theorem A4_get (B : Nat) : ∀ i, i < 4 → (#[Value.int .u64 (W4 B 0), .int .u64 (W4 B 1), .int .u64 (W4 B 2), .int .u64 (W4 B 3)] : Array Value)[i]? = some (.int .u64 (W4 B i)) := fun i hi => by
  have : i = 0 ∨ i = 1 ∨ i = 2 ∨ i = 3 := by omega
  rcases this with rfl | rfl | rfl | rfl <;> rfl
theorem fits4 (n : Int) (B : Nat) (hB : B < 2 ^ 256) (w : World) (hT : Tab w) :
    Calls Tryd.prog 20 #[.int .i64 n, A4 B] w fun x w' => x = .returned (.bool (decide (okN n ∧ B < 2 ^ (widthN n).toNat))) ∧ Below w.heap.size w w' := by
  refine (fits_any n (W4 B) (W4_words B) _ (A4_get B) rfl w hT).mono ?_
  rintro x w' ⟨rfl, hb⟩
  refine ⟨?_, hb⟩
  have hwd := (fields_bounds n).2.1
  have e : (fitsP n (W4 B)) ↔ (okN n ∧ B < 2 ^ (widthN n).toNat) := by
    unfold fitsP
    rw [lenL_low]
    have := len4_le (k := (widthN n).toNat) hB
    rw [show (((widthN n).toNat : Nat) : Int) = widthN n by omega] at this
    rw [this]
  rw [decide_eq_decide.2 e]
set_option maxHeartbeats 1000000 in
theorem layoutFor_ok (n : Int) (B : Nat) (w : World) (hT : Tab w) (hB : B < 2 ^ 256) (h : goodN n B) :
    Calls Tryd.prog 26 #[.int .i64 n, A4 B] w fun x w' => x = .returned (.tuple #[LV (fN n) (eN n) (leastN n) (mostN n), .int .i64 0]) ∧ Below w.heap.size w w' := by
  have hF := bin_fields h.1
  have c42 := fun w hT => fits4 n B hB w hT
  rw [decide_eq_true (show okN n ∧ B < 2 ^ (widthN n).toNat from ⟨hF.1, by rw [hF.2.2.2.2.1, Int.toNat_natCast]; exact h.2⟩)] at c42
  have c31 := fun w hT => layoutOf_ok n w hT h.1
  clear hF h hB
  go_enter Tryd.func26, Tryd.ntmps26
  go_wp2_with (first
    | (go_at_call 20; refine (c42 _ ((hT.alloc _).alloc _)).mono ?_; rintro x w1 ⟨rfl, hb1⟩; obtain ⟨hc1, hf1⟩ := bcell hb1; have hz1_0 : w.heap.size < w1.heap.size := lt_below hb1 ltg; have hl1_0 := Nat.le_of_lt hz1_0; have hz1_1 : w.heap.size + 1 < w1.heap.size := lt_below hb1 ltg; have hl1_1 := Nat.le_of_lt hz1_1; have hA1 := bnext (w0 := w) bgo hb1; have hs1 := hA1.size; clear hb1)
    | (go_at_call 38; refine (c31 _ (hT.go hA1)).mono ?_; rintro x w2 ⟨rfl, hb2⟩; obtain ⟨hc2, hf2⟩ := bcell hb2; have hz2_0 : w.heap.size < w2.heap.size := lt_below hb2 ltg; have hl2_0 := Nat.le_of_lt hz2_0; have hz2_1 : w.heap.size + 1 < w2.heap.size := lt_below hb2 ltg; have hl2_1 := Nat.le_of_lt hz2_1; have hA2 := bnext (w0 := w) bgo hb2; have hs2 := hA2.size; clear hb2))
  have hsm := cell_set_map
  exact bodyPost_ret (v := .tuple #[LV (fN n) (eN n) (leastN n) (mostN n), .int .i64 0]) (by simp only [results, Tryd.results26]; go_simp) rfl ⟨rfl, bgo⟩
set_option maxHeartbeats 1000000 in
theorem layoutFor_bad (n : Int) (B : Nat) (w : World) (hT : Tab w) (hB : B < 2 ^ 256) (h : ¬ goodN n B) :
    Calls Tryd.prog 26 #[.int .i64 n, A4 B] w fun x w' => x = .returned (.tuple #[LZ, .int .i64 1]) ∧ Below w.heap.size w w' := by
  have c42 := fun w hT => fits4 n B hB w hT
  by_cases hf : okN n ∧ B < 2 ^ (widthN n).toNat
  · rw [decide_eq_true hf] at c42
    have hnb : ¬ binN n := fun hb => h ⟨hb, by have := bin_fields hb; rw [this.2.2.2.2.1, Int.toNat_natCast] at hf; exact hf.2⟩
    have c31 := fun w hT => layoutOf_bad n w hT hnb
    clear h hB hf hnb
    go_enter Tryd.func26, Tryd.ntmps26
    go_wp2_with (first
      | (go_at_call 20; refine (c42 _ ((hT.alloc _).alloc _)).mono ?_; rintro x w1 ⟨rfl, hb1⟩; obtain ⟨hc1, hf1⟩ := bcell hb1; have hz1_0 : w.heap.size < w1.heap.size := lt_below hb1 ltg; have hl1_0 := Nat.le_of_lt hz1_0; have hz1_1 : w.heap.size + 1 < w1.heap.size := lt_below hb1 ltg; have hl1_1 := Nat.le_of_lt hz1_1; have hA1 := bnext (w0 := w) bgo hb1; have hs1 := hA1.size; clear hb1)
      | (go_at_call 38; refine (c31 _ (hT.go hA1)).mono ?_; rintro x w2 ⟨rfl, hb2⟩; obtain ⟨hc2, hf2⟩ := bcell hb2; have hz2_0 : w.heap.size < w2.heap.size := lt_below hb2 ltg; have hl2_0 := Nat.le_of_lt hz2_0; have hz2_1 : w.heap.size + 1 < w2.heap.size := lt_below hb2 ltg; have hl2_1 := Nat.le_of_lt hz2_1; have hA2 := bnext (w0 := w) bgo hb2; have hs2 := hA2.size; clear hb2))
    have hsm := cell_set_map
    exact bodyPost_ret (v := .tuple #[LZ, .int .i64 1]) (by simp only [results, Tryd.results26]; go_simp) rfl ⟨rfl, bgo⟩
  · rw [decide_eq_false hf] at c42
    clear h hB hf
    go_enter Tryd.func26, Tryd.ntmps26
    go_wp2_with (go_at_call 20; refine (c42 _ ((hT.alloc _).alloc _)).mono ?_; rintro x w1 ⟨rfl, hb1⟩; obtain ⟨hc1, hf1⟩ := bcell hb1; have hz1_0 : w.heap.size < w1.heap.size := lt_below hb1 ltg; have hl1_0 := Nat.le_of_lt hz1_0; have hz1_1 : w.heap.size + 1 < w1.heap.size := lt_below hb1 ltg; have hl1_1 := Nat.le_of_lt hz1_1; have hA1 := bnext (w0 := w) bgo hb1; have hs1 := hA1.size; clear hb1)
    have hsm := cell_set_map
    exact bodyPost_ret (v := .tuple #[LZ, .int .i64 1]) (by simp only [results, Tryd.results26]; go_simp) rfl ⟨rfl, bgo⟩
end
/-- a natural number, of at most K words -/
def NV (K V : Nat) (v : Value) (w : World) : Prop := ∃ g k cap z, v = .slice (some ⟨g, 0, none⟩) k cap ∧ k ≤ K ∧ Num w (some ⟨g, 0, none⟩) k cap z ∧ val z k = (V : Int)
theorem NV.next {K V : Nat} {v : Value} {w w' : World} (h : NV K V v w) (hb : Below w.heap.size w w') : NV K V v w' := by
  obtain ⟨g, k, cap, z, h1, h2, h3, h4⟩ := h
  exact ⟨g, k, cap, z, h1, h2, h3.next hb, h4⟩
theorem NV.more {K K' V : Nat} {v : Value} {w : World} (h : NV K V v w) (hk : K ≤ K') : NV K' V v w := by
  obtain ⟨g, k, cap, z, h1, h2, h3, h4⟩ := h
  exact ⟨g, k, cap, z, h1, by omega, h3, h4⟩
/-- a natural number without noughts at its end -/
def NT (K V : Nat) (v : Value) (w : World) : Prop := ∃ g k cap z, v = .slice (some ⟨g, 0, none⟩) k cap ∧ k ≤ K ∧ Num w (some ⟨g, 0, none⟩) k cap z ∧ val z k = (V : Int) ∧ sizeL z k = k
theorem NT.next {K V : Nat} {v : Value} {w w' : World} (h : NT K V v w) (hb : Below w.heap.size w w') : NT K V v w' := by
  obtain ⟨g, k, cap, z, h1, h2, h3, h4, h5⟩ := h
  exact ⟨g, k, cap, z, h1, h2, h3.next hb, h4, h5⟩
theorem NT.zero {K V : Nat} {v : Value} {w : World} (h : NT K V v w) : ∃ g k cap, v = .slice (some ⟨g, 0, none⟩) k cap ∧ k ≤ K ∧ (k = 0 ↔ V = 0) := by
  obtain ⟨g, k, cap, z, h1, h2, h3, h4, h5⟩ := h
  refine ⟨g, k, cap, h1, h2, ?_⟩
  constructor
  · intro hk; subst hk
    have : val z 0 = 0 := rfl
    omega
  · intro hV
    rcases Nat.eq_zero_or_pos k with hk | hk
    · exact hk
    · exfalso
      have ht := sizeL_top (x := z) k (by omega)
      rw [h5] at ht
      obtain ⟨j, rfl⟩ : ∃ j, k = j + 1 := ⟨k - 1, by omega⟩
      have hs : val z (j + 1) = val z j + z j * 18446744073709551616 ^ j := rfl
      have hb := val_bd h3.2.2.1 j
      have hp := pw_pos j
      have hj := h3.2.2.1 j
      have hz : z j ≠ 0 := ht
      have : 1 * 18446744073709551616 ^ j ≤ z j * 18446744073709551616 ^ j := Int.mul_le_mul_of_nonneg_right (by omega) (Int.le_of_lt hp)
      omega
/-- a decimal format: T's bits, G's bits behind the five, declets, the least exponent, dense -/
structure DF where
  t : Nat
  w : Nat
  j : Nat
  l : Int
  dn : Bool
def DF.ok (f : DF) : Prop := (f.t = 20 ∧ f.w = 6 ∧ f.j = 2 ∧ f.l = -101) ∨ (f.t = 50 ∧ f.w = 8 ∧ f.j = 5 ∧ f.l = -398) ∨ (f.t = 110 ∧ f.w = 12 ∧ f.j = 11 ∧ f.l = -6176)
/-- a datum is the format's -/
def vI (f : DF) (d : Dat) : Prop :=
  (d.c = 1 ∧ d.g = false ∧ d.k < 10 ^ (3 * f.j + 1) ∧ f.l ≤ d.x ∧ d.x ≤ f.l + 3 * 2 ^ f.w - 1) ∨ (d.c = 2 ∧ d.g = false ∧ d.k = 0 ∧ d.x = 0) ∨ (d.c = 3 ∧ d.x = 0 ∧ d.k < 10 ^ (3 * f.j))
end Go.Proofs.YtpemdcnneabbfaaDoor
