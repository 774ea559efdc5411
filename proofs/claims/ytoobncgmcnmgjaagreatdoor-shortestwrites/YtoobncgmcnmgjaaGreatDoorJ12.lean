/-
  Texts that the proof leans on, joined: Bs.
-/
import Derived.Test.YtoobncgmcnmgjaaGreatDoorJ11
import Derived.Test.YtoobncgmcnmgjaaGreatDoorJ1
set_option linter.unusedVariables false
set_option linter.unusedSectionVars false
set_option linter.unusedSimpArgs false
set_option maxRecDepth 20000
namespace Go.Proofs.YtoobncgmcnmgjaaGreatDoor
open Go.RowKit

/-- a binary format's layout: bits of the fraction, bits of the exponent, least and most -/
structure Fm (f e : Nat) (l m : Int) : Prop where
  f2 : 2 ≤ f
  f240 : f ≤ 240
  e2 : 2 ≤ e
  e15 : e ≤ 15
  fe : f + e ≤ 255
  l1 : -1000000 ≤ l
  l0 : l ≤ 0
  m : m = l + 2 ^ e - 3
abbrev LV (f e : Nat) (l m : Int) : Value := .agg #[.int .i64 f, .int .i64 e, .int .i64 l, .int .i64 m]
theorem pow_e {e : Nat} (h2 : 2 ≤ e) (h15 : e ≤ 15) : (4 : Int) ≤ 2 ^ e ∧ (2 : Int) ^ e ≤ 32768 := by
  have a : (2 : Nat) ^ 2 ≤ 2 ^ e := Nat.pow_le_pow_right (by decide) h2
  have b : (2 : Nat) ^ e ≤ 2 ^ 15 := Nat.pow_le_pow_right (by decide) h15
  have c : ((2 : Int) ^ e) = ((2 ^ e : Nat) : Int) := by simp
  rw [c]; omega
set_option maxHeartbeats 400000 in
theorem special_any (f e : Nat) (l m : Int) (w : World) (h : Fm f e l m) :
    Calls Tryz.prog 59 #[LV f e l m] w fun x w' => x = .returned (.int .u64 ((2 ^ e - 1 : Nat) : Int)) ∧ Below w.heap.size w w' := by
  have h2 := h.e2
  have h15 := h.e15
  have hp := pow_e h2 h15
  have hc : ((2 ^ e - 1 : Nat) : Int) = 2 ^ e - 1 := by
    have c : ((2 : Int) ^ e) = ((2 ^ e : Nat) : Int) := by simp
    have : 1 ≤ 2 ^ e := Nat.one_le_two_pow
    rw [c]; omega
  rw [hc]
  clear hc h
  go_enter Tryz.func59, Tryz.ntmps59
  go_wp2
  go_ret
  exact ⟨rfl, (Below.refl _ _).alloc (Nat.le_refl _) _⟩
theorem lt_below {n g : Nat} {W W' : World} (hb : Below n W W') (h : g < W.heap.size) : g < W'.heap.size := Nat.lt_of_lt_of_le h hb.size
theorem bnext {w0 W W' : World} (h : Below w0.heap.size w0 W) (hb : Below W.heap.size W W') : Below w0.heap.size w0 W' := h.trans (hb.mono h.size)
set_option maxHeartbeats 400000 in
theorem power_any (n : Nat) (w : World) (hn : n ≤ 100000) :
    Calls Tryz.prog 62 #[.int .i64 n] w fun x w' => x = .returned (A4 (2 ^ n)) ∧ Below w.heap.size w w' := by
  have c1 := fun w => of4 1 w (by decide)
  have c2 := fun w => shl4 1 n w (by decide) hn
  rw [Nat.one_mul] at c2
  go_enter Tryz.func62, Tryz.ntmps62
  go_wp2_with (first
    | (go_at_call 95; refine (c1 _).mono ?_; rintro x w1 ⟨rfl, hb1⟩; obtain ⟨hc1, hf1⟩ := bcell hb1; have hz1 := lt_alloc' hb1; have hA1 := bnext (w0 := w) bgo hb1; clear hb1)
    | (go_at_call 92; refine (c2 _).mono ?_; rintro x w2 ⟨rfl, hb2⟩; obtain ⟨hc2, hf2⟩ := bcell hb2; have hz2 := Nat.lt_of_lt_of_le hz1 hb2.size; have hA2 := bnext (w0 := w) bgo hb2; clear hb2))
  exact bodyPost_ret (v := A4 (2 ^ n)) (by simp [results, Tryz.results62, go_sem, *]) rfl ⟨rfl, bgo⟩
set_option maxHeartbeats 400000 in
theorem quiet_any (f e : Nat) (l m : Int) (w : World) (h : Fm f e l m) :
    Calls Tryz.prog 94 #[LV f e l m] w fun x w' => x = .returned (A4 (2 ^ (f - 1))) ∧ Below w.heap.size w w' := by
  have h2 := h.f2
  have h240 := h.f240
  have c1 := fun w => power_any (f - 1) w (by omega)
  rw [show ((f - 1 : Nat) : Int) = (f : Int) - 1 by omega] at c1
  clear h
  go_enter Tryz.func94, Tryz.ntmps94
  go_wp2_with (go_at_call 62; refine (c1 _).mono ?_; rintro x w1 ⟨rfl, hb1⟩; obtain ⟨hc1, hf1⟩ := bcell hb1)
  have hA1 := bnext (w0 := w) bgo hb1
  exact bodyPost_ret (v := A4 (2 ^ (f - 1))) (by simp [results, Tryz.results94, go_sem, hc1, hf1]) rfl ⟨rfl, bgo⟩
theorem mod_and {f e B : Nat} (he : e ≤ 15) : bits BinOp.and IntKind.u64 (W4 (B / 2 ^ f) 0) ((2 ^ e - 1 : Nat) : Int) = ((B / 2 ^ f % 2 ^ e : Nat) : Int) := by
  have hc : ((2 ^ e - 1 : Nat) : Int) = 2 ^ e - 1 := by
    have c : ((2 : Int) ^ e) = ((2 ^ e : Nat) : Int) := by simp
    have : 1 ≤ 2 ^ e := Nat.one_le_two_pow
    rw [c]; omega
  rw [hc, and_mask (W4_words _ 0) (by omega)]
  unfold W4
  rw [Nat.mul_zero, Nat.pow_zero, Nat.div_one]
  have e2 : ((2 : Int) ^ e) = ((2 ^ e : Nat) : Int) := by simp
  rw [e2, ← Int.natCast_emod]
  congr 1
  rw [show (18446744073709551616 : Nat) = 2 ^ e * 2 ^ (64 - e) by rw [← Nat.pow_add, show e + (64 - e) = 64 by omega]]
  exact Nat.mod_mul_right_mod _ _ _
theorem cell_set {W : World} {p : Addr} {u : Value} (h : W.cell? p = some u) (v : Value) : (W.setCell p v).cell? p = some v := by simp [go_sem, h]
theorem cell_set_ne {W : World} {g i j : Nat} (hij : i ≠ j) (v : Value) : (W.setCell ⟨g, i, none⟩ v).cell? ⟨g, j, none⟩ = W.cell? ⟨g, j, none⟩ := by simp [go_sem, hij]
theorem put4 {W : World} {g : Nat} {u0 u1 u2 u3 : Value} (h0 : W.cell? ⟨g, 0, none⟩ = some u0) (h1 : W.cell? ⟨g, 1, none⟩ = some u1) (h2 : W.cell? ⟨g, 2, none⟩ = some u2) (h3 : W.cell? ⟨g, 3, none⟩ = some u3) (v0 v1 v2 v3 : Value) :
    (W.setCell ⟨g, 0, none⟩ v0).cell? ⟨g, 0, none⟩ = some v0 ∧ ((W.setCell ⟨g, 0, none⟩ v0).setCell ⟨g, 1, none⟩ v1).cell? ⟨g, 1, none⟩ = some v1 ∧ (((W.setCell ⟨g, 0, none⟩ v0).setCell ⟨g, 1, none⟩ v1).setCell ⟨g, 2, none⟩ v2).cell? ⟨g, 2, none⟩ = some v2 ∧ ((((W.setCell ⟨g, 0, none⟩ v0).setCell ⟨g, 1, none⟩ v1).setCell ⟨g, 2, none⟩ v2).setCell ⟨g, 3, none⟩ v3).cell? ⟨g, 3, none⟩ = some v3 :=
  ⟨cell_set h0 _, cell_set ((cell_set_ne (by decide) _).trans h1) _, cell_set ((cell_set_ne (by decide) _).trans ((cell_set_ne (by decide) _).trans h2)) _, cell_set ((cell_set_ne (by decide) _).trans ((cell_set_ne (by decide) _).trans ((cell_set_ne (by decide) _).trans h3))) _⟩
/-- the sign's bit -/
def sgB (f e B : Nat) : Bool := (((B / 2 ^ (f + e) % 2 : Nat) : Int) == 1)
set_option maxHeartbeats 1000000 in
theorem split_any (f e : Nat) (l m : Int) (B : Nat) (w : World) (h : Fm f e l m) (hB : B < 2 ^ 256) :
    Calls Tryz.prog 58 #[LV f e l m, A4 B] w fun x w' => x = .returned (.tuple #[.bool (sgB f e B), .int .u64 ((B / 2 ^ f % 2 ^ e : Nat) : Int), A4 (B % 2 ^ f)]) ∧ Below w.heap.size w w' := by
  have hf2 := h.f2
  have hf240 := h.f240
  have he15 := h.e15
  have hfe := h.fe
  have c43 := fun w => bit4 B (f + e) w hB (by omega)
  have c44 := fun w => shr4 B f w hB (by omega)
  have c20 := fun w => special_any f e l m w h
  have hd : B / 2 ^ f < 2 ^ 256 := Nat.lt_of_le_of_lt (Nat.div_le_self _ _) hB
  have c45 := fun w => shl4 (B / 2 ^ f) f w hd (by omega)
  have hle : B / 2 ^ f * 2 ^ f ≤ B := Nat.div_mul_le_self _ _
  have c39 := fun w => sub4 B (B / 2 ^ f * 2 ^ f) w hB (Nat.lt_of_le_of_lt hle hB)
  rw [A4_sub hle, show B - B / 2 ^ f * 2 ^ f = B % 2 ^ f by have := Nat.div_add_mod' B (2 ^ f); omega, if_neg (show ¬ B < B / 2 ^ f * 2 ^ f by omega)] at c39
  have hand := mod_and (f := f) (B := B) he15
  unfold sgB
  rw [Int.natCast_add] at c43
  clear h hd hle hB
  generalize ((B / 2 ^ (f + e) % 2 : Nat) : Int) = S at *
  generalize ((B / 2 ^ f % 2 ^ e : Nat) : Int) = E at *
  generalize ((2 ^ e - 1 : Nat) : Int) = sp at *
  generalize B % 2 ^ f = Fr at *
  generalize B / 2 ^ f * 2 ^ f = Sh at *
  generalize B / 2 ^ f = Ab at *
  go_enter Tryz.func58, Tryz.ntmps58
  go_wp2_with (first
    | (go_at_call 89; refine (c43 _).mono ?_; rintro x w1 ⟨rfl, hb1⟩; obtain ⟨hc1, hf1⟩ := bcell hb1; have hz1_0 : w.heap.size < w1.heap.size := lt_below hb1 ltg; have hl1_0 := Nat.le_of_lt hz1_0; have hz1_1 : w.heap.size + 1 < w1.heap.size := lt_below hb1 ltg; have hl1_1 := Nat.le_of_lt hz1_1; have hz1_2 : w.heap.size + 1 + 1 < w1.heap.size := lt_below hb1 ltg; have hl1_2 := Nat.le_of_lt hz1_2; have hA1 := bnext (w0 := w) bgo hb1; have hs1 := hA1.size; clear hb1)
    | (go_at_call 90; refine (c44 _).mono ?_; rintro x w2 ⟨rfl, hb2⟩; obtain ⟨hc2, hf2⟩ := bcell hb2; have hz2_0 : w.heap.size < w2.heap.size := lt_below hb2 ltg; have hl2_0 := Nat.le_of_lt hz2_0; have hz2_1 : w.heap.size + 1 < w2.heap.size := lt_below hb2 ltg; have hl2_1 := Nat.le_of_lt hz2_1; have hz2_2 : w.heap.size + 1 + 1 < w2.heap.size := lt_below hb2 ltg; have hl2_2 := Nat.le_of_lt hz2_2; have hA2 := bnext (w0 := w) bgo hb2; have hs2 := hA2.size; clear hb2))
  refine wp_whole (by kernel_rfl) (by kernel_rfl) fun hne hcell => ?_
  repeat go_big_quiet_step (fail)
  go_big_quiet_step ((go_at_call 59; exact calls_wd _ bk_next (c20 _)))
  repeat go_big_quiet_step (fail)
  refine wpQuiet_nil fun w3 hb3 => ?_
  obtain ⟨hc3, hf3⟩ := bcell hb3; have hz3_0 : w.heap.size < w3.heap.size := lt_below hb3 ltg; have hl3_0 := Nat.le_of_lt hz3_0; have hz3_1 : w.heap.size + 1 < w3.heap.size := lt_below hb3 ltg; have hl3_1 := Nat.le_of_lt hz3_1; have hz3_2 : w.heap.size + 1 + 1 < w3.heap.size := lt_below hb3 ltg; have hl3_2 := Nat.le_of_lt hz3_2; have hz3_3 : w2.heap.size < w3.heap.size := lt_below hb3 ltg; have hl3_3 := Nat.le_of_lt hz3_3; have hA3 := bnext (w0 := w) bgo hb3; have hs3 := hA3.size; clear hb3
  go_wp2
  refine wp_tail 6 (by kernel_rfl) (by kernel_rfl) (by kernel_rfl) (fun _ _ d _ _ h => by cases d <;> exact h) fun hne hcell => ?_
  simp only [List.take_succ_cons, List.take_zero, List.drop_succ_cons, List.drop_zero]
  repeat go_big_quiet_step (fail)
  go_big_quiet_step ((go_at_call 92; exact calls_wd _ bk_next (c45 _)))
  repeat go_big_quiet_step (fail)
  go_big_quiet_step ((go_at_call 91; exact calls_wd _ bk_next (c39 _)))
  repeat go_big_quiet_step (fail)
  refine wpQuiet_nil fun w4 hb4 => ?_
  obtain ⟨hc4, hf4⟩ := bcell hb4; have hz4_0 : w.heap.size < w4.heap.size := lt_below hb4 ltg; have hl4_0 := Nat.le_of_lt hz4_0; have hz4_1 : w.heap.size + 1 < w4.heap.size := lt_below hb4 ltg; have hl4_1 := Nat.le_of_lt hz4_1; have hz4_2 : w.heap.size + 1 + 1 < w4.heap.size := lt_below hb4 ltg; have hl4_2 := Nat.le_of_lt hz4_2; have hz4_3 : w2.heap.size < w4.heap.size := lt_below hb4 ltg; have hl4_3 := Nat.le_of_lt hz4_3; have hA4 := bnext (w0 := w) bgo hb4; have hs4 := hA4.size; clear hb4
  have k4_wheapsize11_0 : w4.cell? ⟨w.heap.size + 1 + 1, 0, none⟩ = some (.int .u64 0) := (by go_simp); have k4_wheapsize11_1 : w4.cell? ⟨w.heap.size + 1 + 1, 1, none⟩ = some (.int .u64 0) := (by go_simp); have k4_wheapsize11_2 : w4.cell? ⟨w.heap.size + 1 + 1, 2, none⟩ = some (.int .u64 0) := (by go_simp); have k4_wheapsize11_3 : w4.cell? ⟨w.heap.size + 1 + 1, 3, none⟩ = some (.int .u64 0) := (by go_simp)
  go_wp2
  refine wp_tail 5 (by kernel_rfl) (by kernel_rfl) (by kernel_rfl) (fun _ _ d _ _ h => by cases d <;> exact h) fun hne hcell => ?_
  simp only [List.take_succ_cons, List.take_zero, List.drop_succ_cons, List.drop_zero]
  repeat go_big_quiet_step (fail)
  refine wpQuiet_nil fun w5 hb5 => ?_
  obtain ⟨hc5, hf5⟩ := bcell hb5; have hz5_0 : w.heap.size < w5.heap.size := lt_below hb5 ltg; have hl5_0 := Nat.le_of_lt hz5_0; have hz5_1 : w.heap.size + 1 < w5.heap.size := lt_below hb5 ltg; have hl5_1 := Nat.le_of_lt hz5_1; have hz5_2 : w.heap.size + 1 + 1 < w5.heap.size := lt_below hb5 ltg; have hl5_2 := Nat.le_of_lt hz5_2; have hz5_3 : w2.heap.size < w5.heap.size := lt_below hb5 ltg; have hl5_3 := Nat.le_of_lt hz5_3; have hA5 := bnext (w0 := w) bgo hb5; have hs5 := hA5.size; clear hb5
  have k5_wheapsize11_0 : w5.cell? ⟨w.heap.size + 1 + 1, 0, none⟩ = some (.int .u64 (W4 Fr 0)) := (by go_simp); have k5_wheapsize11_1 : w5.cell? ⟨w.heap.size + 1 + 1, 1, none⟩ = some (.int .u64 (W4 Fr 1)) := (by go_simp); have k5_wheapsize11_2 : w5.cell? ⟨w.heap.size + 1 + 1, 2, none⟩ = some (.int .u64 (W4 Fr 2)) := (by go_simp); have k5_wheapsize11_3 : w5.cell? ⟨w.heap.size + 1 + 1, 3, none⟩ = some (.int .u64 (W4 Fr 3)) := (by go_simp)
  obtain ⟨p5_0, p5_1, p5_2, p5_3⟩ := put4 k5_wheapsize11_0 k5_wheapsize11_1 k5_wheapsize11_2 k5_wheapsize11_3 (.int .u64 (W4 Fr 0)) (.int .u64 (W4 Fr 1)) (.int .u64 (W4 Fr 2)) (.int .u64 (W4 Fr 3))
  go_wp2
  exact bodyPost_ret (v := .tuple #[.bool (S == 1), .int .u64 E, A4 Fr]) (by simp only [results, Tryz.results58]; go_simp) rfl ⟨rfl, bgo⟩
end Go.Proofs.YtoobncgmcnmgjaaGreatDoor
