/-
  Texts that the proof leans on, joined: Rv, Lr, Rp, Rp1.
-/
import Derived.Test.YtkefmapcaggefaaGreatDoorJ24
import Derived.Test.YtkefmapcaggefaaGreatDoorJ1
import Derived.Test.YtkefmapcaggefaaGreatDoorJ18
import Derived.Test.YtkefmapcaggefaaGreatDoorJ23
import Derived.Deep.Cut
import Derived.Deep.CutRange
set_option linter.unusedVariables false
set_option linter.unusedSectionVars false
set_option linter.unusedSimpArgs false
set_option maxRecDepth 20000
namespace Go.Proofs.YtkefmapcaggefaaGreatDoor
open Go.RowKit
attribute [local irreducible] W4 NT NV
section
variable (n : Int) (B : Nat) (f e Fr En S : Nat) (l m pay wd : Int) (nm : ByteArray) (w : World) (hf : 2 ≤ f ∧ f ≤ 240) (he : e ≤ 15) (hEn : En < 9223372036854775808) (hS9 : S < 9223372036854775808)
  (c24 : ∀ w, Calls Tryz.prog 13 #[.int .i64 n, A4 B] w fun x w' => x = .returned (.bool true) ∧ Below w.heap.size w w')
  (c25 : ∀ w, Calls Tryz.prog 31 #[.int .i64 n] w fun x w' => x = .returned (.tuple #[.agg #[.int .i64 n, .string nm, .int .i64 2, .int .i64 wd, .int .i64 ((f : Int) + 1), .int .i64 e, .int .i64 l, .int .i64 m, .int .i64 pay, .bool false], .int .i64 0]) ∧ Below w.heap.size w w')
  (c0 : ∀ w, Calls Tryz.prog 32 #[A4 B, .int .i64 0, .int .i64 f] w fun x w' => ∃ r, x = .returned r ∧ NT 19 Fr r w' ∧ Below w.heap.size w w')
  (c1 : ∀ w, Calls Tryz.prog 32 #[A4 B, .int .i64 f, .int .i64 e] w fun x w' => ∃ r, x = .returned r ∧ NT 19 En r w' ∧ Below w.heap.size w w')
  (c26 : ∀ w, Calls Tryz.prog 32 #[A4 B, .int .i64 ((f : Int) + e), .int .i64 1] w fun x w' => ∃ r, x = .returned r ∧ NT 19 S r w' ∧ Below w.heap.size w w')
include hf he hEn hS9 c24 c25 c0 c1 c26
set_option maxHeartbeats 2000000 in
theorem runpack_norm (hE : ((En : Int) == 2 ^ e - 1) = false) (h0 : ((En : Int) == 0) = false) (hl : -1000000 ≤ l ∧ l ≤ 0) (hEb : (En : Int) ≤ 32768) (Pw : Nat)
  (c30 : ∀ w, Calls Tryz.prog 36 #[.int .u64 2, .int .i64 f] w fun x w' => ∃ r, x = .returned r ∧ NV 50000 Pw r w' ∧ Below w.heap.size w w') :
    Calls Tryz.prog 16 #[.int .i64 n, A4 B] w fun x w' => x = .returned (.tuple #[.agg #[.int .i64 1, .bool ((S : Int) == 1), .bool false, .int .i64 (l - 1 + En), .int .u64 (W4 (Fr + Pw) 0), .int .u64 (W4 (Fr + Pw) 1), .int .u64 (W4 (Fr + Pw) 2), .int .u64 (W4 (Fr + Pw) 3)], .int .i64 0]) ∧ Below w.heap.size w w' := by
  go_enter Tryz.func16, Tryz.ntmps16
  go_wp2_with (first
    | (go_at_call 13; refine (c24 _).mono ?_; rintro x w1 ⟨rfl, hb1⟩; obtain ⟨hc1, hf1⟩ := bcell hb1; have hz1_0 : w.heap.size < w1.heap.size := lt_below hb1 ltg; have hl1_0 := Nat.le_of_lt hz1_0; have hz1_1 : w.heap.size + 1 < w1.heap.size := lt_below hb1 ltg; have hl1_1 := Nat.le_of_lt hz1_1; have hA1 := bnext (w0 := w) bgo hb1; have hs1 := hA1.size; clear hb1)
    | (go_at_call 31; refine (c25 _).mono ?_; rintro x w2 ⟨rfl, hb2⟩; obtain ⟨hc2, hf2⟩ := bcell hb2; have hz2_0 : w.heap.size < w2.heap.size := lt_below hb2 ltg; have hl2_0 := Nat.le_of_lt hz2_0; have hz2_1 : w.heap.size + 1 < w2.heap.size := lt_below hb2 ltg; have hl2_1 := Nat.le_of_lt hz2_1; have hA2 := bnext (w0 := w) bgo hb2; have hs2 := hA2.size; clear hb2))
  have k0 : w2.cell? ⟨w.heap.size, 0, none⟩ = some (.int .u64 (W4 B 0)) := (by go_simp)
  have k1 : w2.cell? ⟨w.heap.size, 1, none⟩ = some (.int .u64 (W4 B 1)) := (by go_simp)
  have k2 : w2.cell? ⟨w.heap.size, 2, none⟩ = some (.int .u64 (W4 B 2)) := (by go_simp)
  have k3 : w2.cell? ⟨w.heap.size, 3, none⟩ = some (.int .u64 (W4 B 3)) := (by go_simp)
  refine reg5 (gb := w.heap.size) (gi := w2.heap.size) (f := f) (e := e) (B := B) c0 c1 hEn rfl rfl rfl rfl (by simp; omega) (by simp) (fun i hi => ?_) (by go_simp) ?_
  · have : i = 0 ∨ i = 1 ∨ i = 2 ∨ i = 3 := by omega
    rcases this with rfl | rfl | rfl | rfl <;> go_simp
  intro a w3 v hv h9 h10 hsz hdf hF hb3
  have ha := act_of slots5 11 rfl hsz hdf hF
  rw [ha]
  simp only [slots5, List.foldl_cons, List.foldl_nil, Act.put, List.setIfInBounds_toArray, List.set_cons_succ, List.set_cons_zero, h9, h10]
  generalize slot a 25 = s25
  generalize slot a 26 = s26
  generalize slot a 27 = s27
  generalize slot a 28 = s28
  generalize slot a 29 = s29
  generalize slot a 30 = s30
  generalize slot a 31 = s31
  generalize slot a 32 = s32
  generalize slot a 33 = s33
  clear ha hF hsz hdf h9 h10 a
  obtain ⟨hc3, hf3⟩ := bcell hb3; have hz3_0 : w.heap.size < w3.heap.size := lt_below hb3 ltg; have hl3_0 := Nat.le_of_lt hz3_0; have hz3_1 : w.heap.size + 1 < w3.heap.size := lt_below hb3 ltg; have hl3_1 := Nat.le_of_lt hz3_1; have hz3_2 : w2.heap.size < w3.heap.size := lt_below hb3 ltg; have hl3_2 := Nat.le_of_lt hz3_2; have hA3 := bnext (w0 := w) bgo hb3; have hs3 := hA3.size; clear hb3
  obtain ⟨gv, kv, cv, rfl, hkv, hkz⟩ := hv.zero
  have hp := pow_e' he
  have hE0 : (0 : Int) ≤ En := by omega
  clear hkz hkv k0 k1 k2 k3 c0 c1
  have hsm := cell_set_map
  go_wp2_with (first
    | (go_at_call 32; refine (c26 _).mono ?_; rintro x w4 ⟨v4, rfl, hn4, hb4⟩; replace hv := hv.next hb4; obtain ⟨hc4, hf4⟩ := bcell hb4; have hz4_0 : w.heap.size < w4.heap.size := lt_below hb4 ltg; have hl4_0 := Nat.le_of_lt hz4_0; have hz4_1 : w.heap.size + 1 < w4.heap.size := lt_below hb4 ltg; have hl4_1 := Nat.le_of_lt hz4_1; have hz4_2 : w2.heap.size < w4.heap.size := lt_below hb4 ltg; have hl4_2 := Nat.le_of_lt hz4_2; have hA4 := bnext (w0 := w) bgo hb4; have hs4 := hA4.size; clear hb4)
    | (go_at_call 33; refine (number_nv hn4.nv (by decide) hS9).mono ?_; rintro x w5 ⟨rfl, rfl⟩))
  go_region_with (first
    | (go_at_call 36; refine (c30 _).mono ?_; rintro x w6 ⟨v6, rfl, hn6, hb6⟩; replace hv := hv.next (bnext bgo hb6); obtain ⟨hc6, hf6⟩ := bcell hb6; have hz6_0 : w.heap.size < w6.heap.size := lt_below hb6 ltg; have hl6_0 := Nat.le_of_lt hz6_0; have hz6_1 : w.heap.size + 1 < w6.heap.size := lt_below hb6 ltg; have hl6_1 := Nat.le_of_lt hz6_1; have hz6_2 : w2.heap.size < w6.heap.size := lt_below hb6 ltg; have hl6_2 := Nat.le_of_lt hz6_2; have hz6_3 : w5.heap.size < w6.heap.size := lt_below hb6 ltg; have hl6_3 := Nat.le_of_lt hz6_3; have hA6 := bnext (w0 := w) bgo hb6; have hs6 := hA6.size; clear hb6)
    | (go_at_call 35; refine (radd_nv (by decide) (by decide) hv.nv hn6).mono ?_; rintro x w7 ⟨v7, rfl, hn7, hb7⟩; obtain ⟨hc7, hf7⟩ := bcell hb7; have hz7_0 : w.heap.size < w7.heap.size := lt_below hb7 ltg; have hl7_0 := Nat.le_of_lt hz7_0; have hz7_1 : w.heap.size + 1 < w7.heap.size := lt_below hb7 ltg; have hl7_1 := Nat.le_of_lt hz7_1; have hz7_2 : w2.heap.size < w7.heap.size := lt_below hb7 ltg; have hl7_2 := Nat.le_of_lt hz7_2; have hz7_3 : w5.heap.size < w7.heap.size := lt_below hb7 ltg; have hl7_3 := Nat.le_of_lt hz7_3; have hA7 := bnext (w0 := w) bgo hb7; have hs7 := hA7.size; clear hb7)
    | (go_at_call 34; refine (bits_nv hn7).mono ?_; rintro x w9 ⟨rfl, hb9⟩; obtain ⟨hc9, hf9⟩ := bcell hb9; have hz9_0 : w.heap.size < w9.heap.size := lt_below hb9 ltg; have hl9_0 := Nat.le_of_lt hz9_0; have hz9_1 : w.heap.size + 1 < w9.heap.size := lt_below hb9 ltg; have hl9_1 := Nat.le_of_lt hz9_1; have hz9_2 : w2.heap.size < w9.heap.size := lt_below hb9 ltg; have hl9_2 := Nat.le_of_lt hz9_2; have hz9_3 : w5.heap.size < w9.heap.size := lt_below hb9 ltg; have hl9_3 := Nat.le_of_lt hz9_3; have hA9 := bnext (w0 := w) bgo hb9; have hs9 := hA9.size; clear hb9))
  all_goals
    go_wp2
    exact bodyPost_ret (v := .tuple #[.agg #[.int .i64 1, .bool ((S : Int) == 1), .bool false, .int .i64 (l - 1 + En), .int .u64 (W4 (Fr + Pw) 0), .int .u64 (W4 (Fr + Pw) 1), .int .u64 (W4 (Fr + Pw) 2), .int .u64 (W4 (Fr + Pw) 3)], .int .i64 0]) (by simp only [results, Tryz.results16]; go_simp) rfl ⟨rfl, bgo⟩
end
theorem rpow_nv (f : Nat) (w : World) (hf : f ≤ 12000) : Calls Tryz.prog 36 #[.int .u64 2, .int .i64 f] w fun x w' => ∃ r, x = .returned r ∧ NV 50000 (2 ^ f) r w' ∧ Below w.heap.size w w' := by
  refine (rpow_any 2 f w (by decide) (by omega)).mono ?_
  rintro x w' ⟨g, k, cap, z, rfl, hk, hN, hv, hb⟩
  refine ⟨_, rfl, ?_, hb⟩
  unfold NV
  exact ⟨g, k, cap, z, rfl, by omega, hN, by rw [hv]; simp⟩
theorem bin_more {n : Int} (h : binN n) : numN n = n ∧ denseN n = false := by
  rcases bin_cases h with rfl | rfl | rfl | rfl | rfl | rfl <;> exact ⟨by decide, by decide⟩
theorem runpack_ok (n : Int) (B : Nat) (w : World) (hB : B < 2 ^ 256) (h : goodN n B) :
    Calls Tryz.prog 16 #[.int .i64 n, A4 B] w fun x w' => x = .returned (.tuple #[(unp (fN n) (eN n) (leastN n) B).v, .int .i64 0]) ∧ Below w.heap.size w w' := by
  have hF := bin_fm h.1
  obtain ⟨hok, hb2, hpr, hex, hwd, hpy⟩ := bin_fields h.1
  obtain ⟨hnum, hden⟩ := bin_more h.1
  have c24 := fun w => rgood_any n B hB w
  rw [decide_eq_true h] at c24
  have c25 := fun w => rofv_any n w
  rw [show infoE n = 0 from if_pos hok, hnum, hb2, hpr, hex, hden] at c25
  have hf : 2 ≤ fN n ∧ fN n ≤ 240 := ⟨hF.f2, hF.f240⟩
  have he := hF.e15
  have hfe := hF.fe
  have hp := pow_e hF.e2 hF.e15
  have hpc : ((2 : Int) ^ eN n) = ((2 ^ eN n : Nat) : Int) := by simp
  have hEl : B / 2 ^ fN n % 2 ^ eN n < 2 ^ eN n := Nat.mod_lt _ (Nat.two_pow_pos _)
  have c0 := fun w => field_any B 0 (fN n) w hB (by decide) (by omega)
  rw [show ((0 : Nat) : Int) = 0 from rfl, Nat.pow_zero, Nat.div_one] at c0
  have c1 := fun w => field_any B (fN n) (eN n) w hB (by omega) (by omega)
  have c26 := fun w => field_any B (fN n + eN n) 1 w hB (by omega) (by omega)
  rw [Int.natCast_add, show ((1 : Nat) : Int) = 1 from rfl, Nat.pow_one] at c26
  have hS9 : B / 2 ^ (fN n + eN n) % 2 < 9223372036854775808 := by omega
  have hEn : B / 2 ^ fN n % 2 ^ eN n < 9223372036854775808 := by rw [hpc] at hp; omega
  unfold unp
  by_cases h1 : B / 2 ^ fN n % 2 ^ eN n = 2 ^ eN n - 1
  · rw [if_pos h1]
    have hE : (((B / 2 ^ fN n % 2 ^ eN n : Nat) : Int) == 2 ^ eN n - 1) = true := by
      rw [hpc] at hp ⊢; rw [h1]; simp; omega
    unfold spc
    by_cases h2 : B % 2 ^ fN n = 0
    · rw [if_pos h2]
      have := runpack_inf n B (fN n) (eN n) _ _ _ _ _ _ _ _ w hf he hEn hS9 c24 c25 c0 c1 c26 hE h2
      have e : (Dat.mk 2 (sgB (fN n) (eN n) B) false 0 0).v = .agg #[.int .i64 2, .bool (((B / 2 ^ (fN n + eN n) % 2 : Nat) : Int) == 1), .bool false, .int .i64 0, .int .u64 0, .int .u64 0, .int .u64 0, .int .u64 0] := by
        unfold Dat.v DV sgB; simp only [W4_zero]
      rw [e]; exact this
    · rw [if_neg h2]
      have c26b := fun w => field_any B (fN n - 1) 1 w hB (by omega) (by omega)
      rw [show ((fN n - 1 : Nat) : Int) = (fN n : Int) - 1 by omega, show ((1 : Nat) : Int) = 1 from rfl, Nat.pow_one] at c26b
      have c26c := fun w => field_any B 0 (fN n - 1) w hB (by omega) (by omega)
      rw [show ((fN n - 1 : Nat) : Int) = (fN n : Int) - 1 by omega, show ((0 : Nat) : Int) = 0 from rfl, Nat.pow_zero, Nat.div_one] at c26c
      have := runpack_nan n B (fN n) (eN n) _ _ _ _ _ _ _ _ w hf he hEn hS9 c24 c25 c0 c1 c26 hE h2 _ _ (by omega) c26b c26c
      have hm : B % 2 ^ fN n = B % 2 ^ (fN n - 1) + 2 ^ (fN n - 1) * (B / 2 ^ (fN n - 1) % 2) := by
        have : 2 ^ fN n = 2 ^ (fN n - 1) * 2 := by rw [← Nat.pow_succ]; congr 1; omega
        rw [this]; exact Nat.mod_mul
      have hpl : B % 2 ^ (fN n - 1) < 2 ^ (fN n - 1) := Nat.mod_lt _ (Nat.two_pow_pos _)
      have e : (if B % 2 ^ fN n < 2 ^ (fN n - 1) then (Dat.mk 3 (sgB (fN n) (eN n) B) true 0 (B % 2 ^ fN n)) else ⟨3, sgB (fN n) (eN n) B, false, 0, B % 2 ^ fN n - 2 ^ (fN n - 1)⟩) = ⟨3, sgB (fN n) (eN n) B, (((B / 2 ^ (fN n - 1) % 2 : Nat) : Int) == 0), 0, B % 2 ^ (fN n - 1)⟩ := by
        have h01 : B / 2 ^ (fN n - 1) % 2 = 0 ∨ B / 2 ^ (fN n - 1) % 2 = 1 := by omega
        rcases h01 with h0 | h0
        · rw [h0, Nat.mul_zero, Nat.add_zero] at hm
          rw [if_pos (by omega), hm, h0]; rfl
        · rw [h0, Nat.mul_one] at hm
          rw [if_neg (by omega), h0, show B % 2 ^ fN n - 2 ^ (fN n - 1) = B % 2 ^ (fN n - 1) by omega]; rfl
      rw [e]
      exact this
  · rw [if_neg h1]
    have hE : (((B / 2 ^ fN n % 2 ^ eN n : Nat) : Int) == 2 ^ eN n - 1) = false := by
      rw [hpc] at hp ⊢; rw [beq_eq_false_iff_ne]; omega
    by_cases h2 : B / 2 ^ fN n % 2 ^ eN n = 0
    · rw [if_pos h2]
      exact runpack_sub n B (fN n) (eN n) _ _ _ _ _ _ _ _ w hf he hEn hS9 c24 c25 c0 c1 c26 hE (by omega)
    · rw [if_neg h2]
      have := runpack_norm n B (fN n) (eN n) _ _ _ _ _ _ _ _ w hf he hEn hS9 c24 c25 c0 c1 c26 hE (by rw [beq_eq_false_iff_ne]; omega) ⟨hF.l1, hF.l0⟩ (by rw [hpc] at hp; omega) (2 ^ fN n) (fun w => rpow_nv (fN n) w (by omega))
      rw [show leastN n - 1 + ((B / 2 ^ fN n % 2 ^ eN n : Nat) : Int) = leastN n + ((B / 2 ^ fN n % 2 ^ eN n : Nat) - 1 : Int) by omega] at this
      exact this
theorem runpack_any (n : Int) (B : Nat) (w : World) (hB : B < 2 ^ 256) :
    Calls Tryz.prog 16 #[.int .i64 n, A4 B] w fun x w' => x = .returned (.tuple #[(unD n B).v, .int .i64 (unE n B)]) ∧ Below w.heap.size w w' := by
  unfold unD unE
  by_cases h : goodN n B
  · rw [if_pos h, if_pos h]; exact runpack_ok n B w hB h
  · rw [if_neg h, if_neg h]; exact runpack_bad n B w hB h
end Go.Proofs.YtkefmapcaggefaaGreatDoor

namespace Go.Proofs.YtkefmapcaggefaaGreatDoor
open Go.RowKit

/-- a block holds four words of a number, from a place on -/
structure Four (w : World) (g o k : Nat) : Prop where
  cell : ∀ i, i < 4 → w.cell? ⟨g, o + i, none⟩ = some (.int .u64 (W4 k i))
theorem Four.of {w : World} {g o k : Nat} (h0 : w.cell? ⟨g, o + 0, none⟩ = some (.int .u64 (W4 k 0))) (h1 : w.cell? ⟨g, o + 1, none⟩ = some (.int .u64 (W4 k 1))) (h2 : w.cell? ⟨g, o + 2, none⟩ = some (.int .u64 (W4 k 2))) (h3 : w.cell? ⟨g, o + 3, none⟩ = some (.int .u64 (W4 k 3))) : Four w g o k :=
  ⟨fun i hi => by
    have : i = 0 ∨ i = 1 ∨ i = 2 ∨ i = 3 := by omega
    rcases this with rfl | rfl | rfl | rfl <;> assumption⟩
theorem Four.next {w w' : World} {g o k : Nat} (h : Four w g o k) (hg : g < w.heap.size) (hb : Below w.heap.size w w') : Four w' g o k :=
  ⟨fun i hi => by rw [hb.cell (p := ⟨g, o + i, none⟩) hg]; exact h.cell i hi⟩
/-- a block holds a datum -/
structure Dc (w : World) (g : Nat) (c : Int) (s b : Bool) (x : Int) (k : Nat) : Prop where
  c0 : w.cell? ⟨g, 0, none⟩ = some (.int .i64 c)
  c1 : w.cell? ⟨g, 1, none⟩ = some (.bool s)
  c2 : w.cell? ⟨g, 2, none⟩ = some (.bool b)
  c3 : w.cell? ⟨g, 3, none⟩ = some (.int .i64 x)
  c4 : w.cell? ⟨g, 4, none⟩ = some (.int .u64 (W4 k 0))
  c5 : w.cell? ⟨g, 5, none⟩ = some (.int .u64 (W4 k 1))
  c6 : w.cell? ⟨g, 6, none⟩ = some (.int .u64 (W4 k 2))
  c7 : w.cell? ⟨g, 7, none⟩ = some (.int .u64 (W4 k 3))
theorem Dc.next {w w' : World} {g : Nat} {c : Int} {s b : Bool} {x : Int} {k : Nat} (h : Dc w g c s b x k) (hg : g < w.heap.size) (hb : Below w.heap.size w w') : Dc w' g c s b x k :=
  ⟨by rw [hb.cell (p := ⟨g, 0, none⟩) hg, h.c0], by rw [hb.cell (p := ⟨g, 1, none⟩) hg, h.c1], by rw [hb.cell (p := ⟨g, 2, none⟩) hg, h.c2], by rw [hb.cell (p := ⟨g, 3, none⟩) hg, h.c3],
   by rw [hb.cell (p := ⟨g, 4, none⟩) hg, h.c4], by rw [hb.cell (p := ⟨g, 5, none⟩) hg, h.c5], by rw [hb.cell (p := ⟨g, 6, none⟩) hg, h.c6], by rw [hb.cell (p := ⟨g, 7, none⟩) hg, h.c7]⟩
/-- what stands in the words below i -/
def mo (A B i : Nat) : Bool := decide (val (W4 B) i < val (W4 A) i)
attribute [local irreducible] W4 mo
end Go.Proofs.YtkefmapcaggefaaGreatDoor

namespace Go.Proofs.YtkefmapcaggefaaGreatDoor
open Go.RowKit

theorem nv_one {W : World} {g V : Nat} {vi : Int} (hg : g = W.heap.size) (hv : vi = (V : Int)) (hb : V < 18446744073709551616) : NV 1 V (.slice (some ⟨g, 0, none⟩) 1 1) (W.alloc (.cells #[.int .u64 vi] 22)) := by
  subst hg hv
  exact ⟨_, 1, 1, oneW V, rfl, Nat.le_refl _, num_one W V (by omega), val_one1 V⟩
theorem four_num {w : World} {g o k : Nat} (h : Four w g o k) (hg : g < w.heap.size) : Num w (some ⟨g, o, none⟩) 4 4 (lowW (W4 k) 4) := by
  refine ⟨Nat.le_refl _, by unfold maxLen; omega, lowW_words (W4_words k) 4, fun i hi => lowW_ge hi, Or.inr ⟨_, _, rfl, hg, fun i hi => ?_⟩⟩
  rw [lowW_lt hi]
  exact h.cell i hi
theorem rleft_off {g o k cap A : Nat} {z : Nat → Int} {w : World} (s : Nat) (hk : k < 1000) (hs : s ≤ 600) (hN : Num w (some ⟨g, o, none⟩) k cap z) (hv : val z k = (A : Int)) :
    Calls Tryz.prog 64 #[.slice (some ⟨g, o, none⟩) k cap, .int .i64 s] w fun e w' => ∃ v', e = .returned v' ∧ NV (k + 11) (A * 2 ^ s) v' w' ∧ Below w.heap.size w w' := by
  obtain ⟨q, hq⟩ : ∃ q : Nat, (s : Int) / 64 = q := ⟨((s : Int) / 64).toNat, by omega⟩
  obtain ⟨r, hr⟩ : ∃ r : Nat, (s : Int) % 64 = r := ⟨((s : Int) % 64).toNat, by omega⟩
  have hsn : s = 64 * q + r := by omega
  have hr6 : r < 64 := by omega
  have key : ∀ (w' : World) (g' k' cap' : Nat), k' ≤ k + q + 1 → Num w' (some ⟨g', 0, none⟩) k' cap' (finL z q r) → NV (k + 11) (A * 2 ^ s) (.slice (some ⟨g', 0, none⟩) k' cap') w' := fun w' g' k' cap' hk' hN' => by
    refine ⟨g', k', cap', _, rfl, by omega, hN', ?_⟩
    rw [← val_more hN'.2.2.2.1 (k + q + 1) hk', finL_val hN.2.2.1 hN.2.2.2.1 q hr6, hv, hsn]
    simp
  by_cases h0 : r = 0
  · subst h0
    refine (left_z g o k cap q s z w (by omega) (by omega) hq (by omega) (by omega) hN).mono ?_
    rintro e w' ⟨g', k', cap', rfl, hk', hN', hb⟩
    exact ⟨_, rfl, key w' g' k' cap' hk' hN', hb⟩
  · refine (left_p g o k cap q r s z w (by omega) (by omega) hr6 (by omega) hq hr (by omega) hN).mono ?_
    rintro e w' ⟨g', k', cap', rfl, hk', hN', hb⟩
    exact ⟨_, rfl, key w' g' k' cap' hk' hN', hb⟩
set_option maxHeartbeats 1000000 in
theorem lay_off (B A at_ k g o cap : Nat) (z : Nat → Int) (w : World) (hB : B < 2 ^ 256) (hK : k < 900) (ha : at_ ≤ 600) (hN : Num w (some ⟨g, o, none⟩) k cap z) (hv : val z k = (A : Int)) :
    Calls Tryz.prog 69 #[A4 B, .slice (some ⟨g, o, none⟩) k cap, .int .i64 at_] w fun e w' => e = .returned (A4 (B + A * 2 ^ at_)) ∧ Below w.heap.size w w' := by
  have c52 : ∀ W, Below w.heap.size w W → Calls Tryz.prog 64 #[.slice (some ⟨g, o, none⟩) k cap, .int .i64 at_] W fun e w' => ∃ v', e = .returned v' ∧ NV (k + 11) (A * 2 ^ at_) v' w' ∧ Below W.heap.size W w' := fun W hW => rleft_off at_ (by omega) ha (hN.next hW) hv
  clear hN
  go_enter Tryz.func69, Tryz.ntmps69
  go_wp2
  go_region_with (first
    | (go_at_call 64; refine (c52 _ bgo).mono ?_; rintro e w1 ⟨v1, rfl, hl, hb1⟩; have hbx := box_nv (w0 := w) (B := B) (t := 24) hB (bnext bgo hb1); obtain ⟨hc1, hf1⟩ := bcell hb1; have hz1_0 : w.heap.size < w1.heap.size := lt_below hb1 ltg; have hl1_0 := Nat.le_of_lt hz1_0; have hz1_1 : w.heap.size + 1 < w1.heap.size := lt_below hb1 ltg; have hl1_1 := Nat.le_of_lt hz1_1; have hA1 := bnext (w0 := w) bgo hb1; have hs1 := hA1.size; clear hb1)
    | (go_at_call 35; refine (radd_nv (by decide) (by omega) hbx hl).mono ?_; rintro e w2 ⟨v2, rfl, hs, hb2⟩; obtain ⟨hc2, hf2⟩ := bcell hb2; have hz2_0 : w.heap.size < w2.heap.size := lt_below hb2 ltg; have hl2_0 := Nat.le_of_lt hz2_0; have hz2_1 : w.heap.size + 1 < w2.heap.size := lt_below hb2 ltg; have hl2_1 := Nat.le_of_lt hz2_1; have hA2 := bnext (w0 := w) bgo hb2; have hs2 := hA2.size; clear hb2)
    | (go_at_call 34; refine (bits_nv hs).mono ?_; rintro e w3 ⟨rfl, hb3⟩; obtain ⟨hc3, hf3⟩ := bcell hb3; have hz3_0 : w.heap.size < w3.heap.size := lt_below hb3 ltg; have hl3_0 := Nat.le_of_lt hz3_0; have hz3_1 : w.heap.size + 1 < w3.heap.size := lt_below hb3 ltg; have hl3_1 := Nat.le_of_lt hz3_1; have hA3 := bnext (w0 := w) bgo hb3; have hs3 := hA3.size; clear hb3))
  have hsm := cell_set_map
  go_wp2
  exact bodyPost_ret (v := A4 (B + A * 2 ^ at_)) (by simp only [results, Tryz.results69]; go_simp) rfl ⟨rfl, bgo⟩
theorem set_far {g h : Nat} (hne : g ≠ h) (W : World) (i j : Nat) (v : Value) : (W.setCell ⟨g, j, none⟩ v).cell? ⟨h, i, none⟩ = W.cell? ⟨h, i, none⟩ :=
  World.cell?_setCell_other (h := fun q => hne (congrArg Addr.block q)) ..
theorem zeros4p {w : World} {g : Nat} {v : Value} (h0 : w.cell? ⟨g, 0, none⟩ = some v) (h1 : w.cell? ⟨g, 1, none⟩ = some v) (h2 : w.cell? ⟨g, 2, none⟩ = some v) (h3 : w.cell? ⟨g, 3, none⟩ = some v) : ∀ i, i < 4 → w.cell? ⟨g, i, none⟩ = some v := fun i hi => by
  have : i = 0 ∨ i = 1 ∨ i = 2 ∨ i = 3 := by omega
  rcases this with rfl | rfl | rfl | rfl <;> assumption
attribute [local irreducible] W4 NT NV
section
variable (n : Int) (nm : ByteArray) (wd : Int) (f e All R Bs : Nat) (l m : Int) (x : Int) (s g : Bool) (k : Nat) (w : World) (hf : 2 ≤ f ∧ f ≤ 240) (he : e ≤ 15) (hAll : (2 : Int) ^ e - 1 = (All : Int))
  (c35 : ∀ w, Calls Tryz.prog 14 #[.int .i64 n] w fun x w' => x = .returned (.bool true) ∧ w = w')
  (c25 : ∀ w, Calls Tryz.prog 31 #[.int .i64 n] w fun x w' => x = .returned (.tuple #[IV n nm wd f e l m, .int .i64 0]) ∧ Below w.heap.size w w')
  (cS : s = true → ∀ W v, NV 1 1 v W → Calls Tryz.prog 69 #[Z4, v, .int .i64 ((f : Int) + e)] W fun r w' => r = .returned (A4 Bs) ∧ Below W.heap.size W w')
  (hB0 : s = false → ∀ i, W4 Bs i = 0)
include hf he hAll c35 c25 cS hB0
set_option maxHeartbeats 2000000 in
theorem rpack2
  (c36 : ∀ w, Calls Tryz.prog 68 #[IV n nm wd f e l m, DV 2 s g x k] w fun r w' => r = .returned (.bool true) ∧ Below w.heap.size w w')
  (cA : ∀ W v, NV 1 All v W → Calls Tryz.prog 69 #[A4 Bs, v, .int .i64 f] W fun r w' => r = .returned (A4 R) ∧ Below W.heap.size W w') :
    Calls Tryz.prog 37 #[.int .i64 n, DV 2 s g x k] w fun r w' => r = .returned (.tuple #[A4 R, .int .i64 0]) ∧ Below w.heap.size w w' := by
  have hp := pow_e' he
  have hAb : All < 18446744073709551616 := by omega
  have hsm := cell_set_map
  go_enter Tryz.func37, Tryz.ntmps37
  go_upto_if 29 with (first
    | (go_at_call 14; refine (c35 _).mono ?_; rintro r w0 ⟨rfl, rfl⟩)
    | (go_at_call 31; refine (c25 _).mono ?_; rintro x w1 ⟨rfl, hb1⟩; obtain ⟨hc1, hf1⟩ := bcell hb1; have hz1_0 : w.heap.size < w1.heap.size := lt_below hb1 ltg; have hl1_0 := Nat.le_of_lt hz1_0; have hz1_1 : w.heap.size + 1 < w1.heap.size := lt_below hb1 ltg; have hl1_1 := Nat.le_of_lt hz1_1; have hA1 := bnext (w0 := w) bgo hb1; have hs1 := hA1.size; clear hb1)
    | (go_at_call 68; refine (c36 _).mono ?_; rintro x w2 ⟨rfl, hb2⟩; obtain ⟨hc2, hf2⟩ := bcell hb2; have hz2_0 : w.heap.size < w2.heap.size := lt_below hb2 ltg; have hl2_0 := Nat.le_of_lt hz2_0; have hz2_1 : w.heap.size + 1 < w2.heap.size := lt_below hb2 ltg; have hl2_1 := Nat.le_of_lt hz2_1; have hz2_2 : w1.heap.size < w2.heap.size := lt_below hb2 ltg; have hl2_2 := Nat.le_of_lt hz2_2; have hA2 := bnext (w0 := w) bgo hb2; have hs2 := hA2.size; clear hb2))
  have hn1 := set_far (Nat.ne_of_gt hz2_2)
  have hn0 := set_far (Nat.ne_of_gt hz2_0)
  have hn2 := set_far (Nat.ne_of_gt hz2_1)
  go_cut [] from 11 (fun wc => Four wc w2.heap.size 0 Bs ∧ Four wc w.heap.size 4 k ∧ (∀ i, i < 4 → wc.cell? ⟨w.heap.size + 1, i, none⟩ = some (.int .u64 0)) ∧ (∀ i, wc.frozen? ⟨w.heap.size + 1, i, none⟩ = false) ∧ (∀ i, wc.frozen? ⟨w2.heap.size, i, none⟩ = false)
      ∧ wc.cell? ⟨w.heap.size, 0, none⟩ = some (.int .i64 2) ∧ wc.cell? ⟨w.heap.size, 2, none⟩ = some (.bool g) ∧ wc.cell? ⟨w.heap.size, 3, none⟩ = some (.int .i64 x)
      ∧ wc.cell? ⟨w1.heap.size, 4, none⟩ = some (.int .i64 ((f : Int) + 1)) ∧ wc.cell? ⟨w1.heap.size, 5, none⟩ = some (.int .i64 e) ∧ wc.cell? ⟨w1.heap.size, 6, none⟩ = some (.int .i64 l) ∧ Below w.heap.size w wc ∧ w2.heap.size < wc.heap.size)
  case first =>
    cases s with
    | false =>
      have hB := hB0 rfl
      clear hB0 cS
      go_wp2
      go_meet
      exact ⟨.of (by rw [hB 0]; go_simp) (by rw [hB 1]; go_simp) (by rw [hB 2]; go_simp) (by rw [hB 3]; go_simp), .of (by go_simp) (by go_simp) (by go_simp) (by go_simp), zeros4p (by go_simp) (by go_simp) (by go_simp) (by go_simp), fun i => by go_simp, fun i => by go_simp, by go_simp, by go_simp, by go_simp, by go_simp, by go_simp, by go_simp, bgo, by simp; try omega⟩
    | true =>
      have hm0 : w.heap.size < w2.heap.size + 1 + 1 := by omega
      have hm1 : w1.heap.size < w2.heap.size + 1 + 1 := by omega
      have hm2 : w.heap.size < w2.heap.size + 2 := by omega
      have hm3 : w1.heap.size < w2.heap.size + 2 := by omega
      replace cS := cS rfl
      clear hB0
      go_wp2_with (go_at_call 69; refine (cS _ _ (nv_one (by simp) rfl (by decide))).mono ?_; rintro r w3 ⟨rfl, hb3⟩; obtain ⟨hc3, hf3⟩ := bcell hb3; have hz3_0 : w.heap.size < w3.heap.size := lt_below hb3 ltg; have hl3_0 := Nat.le_of_lt hz3_0; have hz3_1 : w.heap.size + 1 < w3.heap.size := lt_below hb3 ltg; have hl3_1 := Nat.le_of_lt hz3_1; have hz3_2 : w1.heap.size < w3.heap.size := lt_below hb3 ltg; have hl3_2 := Nat.le_of_lt hz3_2; have hz3_3 : w2.heap.size < w3.heap.size := lt_below hb3 ltg; have hl3_3 := Nat.le_of_lt hz3_3; have hA3 := bnext (w0 := w) bgo hb3; have hs3 := hA3.size; clear hb3)
      go_meet
      exact ⟨.of (by go_simp) (by go_simp) (by go_simp) (by go_simp), .of (by go_simp) (by go_simp) (by go_simp) (by go_simp), zeros4p (by go_simp) (by go_simp) (by go_simp) (by go_simp), fun i => by go_simp, fun i => by go_simp, by go_simp, by go_simp, by go_simp, by go_simp, by go_simp, by go_simp, bgo, by simp; try omega⟩
  case rest =>
    clear cS hB0
    have hcut0 := hcut
    obtain ⟨fB, fK, fz, fr4, fr9, d0, d2, d3, i4, i5, i6, hbw, hsz⟩ := hcut
    have hl0 : w.heap.size < wc.heap.size := by omega
    have hl1 : w.heap.size + 1 < wc.heap.size := by omega
    have hl2 : w1.heap.size < wc.heap.size := by omega
    have hle0 := Nat.le_of_lt hl0
    have hle1 := Nat.le_of_lt hl1
    have hle2 := Nat.le_of_lt hl2
    have hle3 := Nat.le_of_lt hsz
    have b0 := fB.cell 0 (by decide)
    have b1 := fB.cell 1 (by decide)
    have b2 := fB.cell 2 (by decide)
    have b3 := fB.cell 3 (by decide)
    have z0 := fz 0 (by decide)
    have z1 := fz 1 (by decide)
    have z2 := fz 2 (by decide)
    have z3 := fz 3 (by decide)
    have q0 := fK.cell 0 (by decide)
    have q1 := fK.cell 1 (by decide)
    have q2 := fK.cell 2 (by decide)
    have q3 := fK.cell 3 (by decide)
    simp only [Nat.zero_add, Nat.add_zero] at b0 b1 b2 b3
    simp only [Nat.reduceAdd] at q0 q1 q2 q3
    have hNk := four_num fK hl0
    go_wp2_with (go_at_call 69; refine (cA _ _ (nv_one (by simp) (by first | rfl | exact hAll) hAb)).mono ?_; rintro r w4 ⟨rfl, hb4⟩; obtain ⟨hc4, hf4⟩ := bcell hb4; have hz4_0 : w.heap.size < w4.heap.size := lt_below hb4 ltg; have hl4_0 := Nat.le_of_lt hz4_0; have hz4_1 : w.heap.size + 1 < w4.heap.size := lt_below hb4 ltg; have hl4_1 := Nat.le_of_lt hz4_1; have hz4_2 : w1.heap.size < w4.heap.size := lt_below hb4 ltg; have hl4_2 := Nat.le_of_lt hz4_2; have hz4_3 : w2.heap.size < w4.heap.size := lt_below hb4 ltg; have hl4_3 := Nat.le_of_lt hz4_3; have hA4 := bnext (w0 := w) bgo hb4; have hs4 := hA4.size; clear hb4)
    exact bodyPost_ret (v := .tuple #[A4 R, .int .i64 0]) (by simp only [results, Tryz.results37]; go_simp) rfl ⟨rfl, bgo⟩
end
end Go.Proofs.YtkefmapcaggefaaGreatDoor

namespace Go.Proofs.YtkefmapcaggefaaGreatDoor
open Go.RowKit

attribute [local irreducible] W4 NT NV
section
variable (n : Int) (nm : ByteArray) (wd : Int) (f e All R Bs : Nat) (l m : Int) (x : Int) (s g : Bool) (k : Nat) (w : World) (hf : 2 ≤ f ∧ f ≤ 240) (he : e ≤ 15) (hAll : (2 : Int) ^ e - 1 = (All : Int))
  (c35 : ∀ w, Calls Tryz.prog 14 #[.int .i64 n] w fun x w' => x = .returned (.bool true) ∧ w = w')
  (c25 : ∀ w, Calls Tryz.prog 31 #[.int .i64 n] w fun x w' => x = .returned (.tuple #[IV n nm wd f e l m, .int .i64 0]) ∧ Below w.heap.size w w')
  (cS : s = true → ∀ W v, NV 1 1 v W → Calls Tryz.prog 69 #[Z4, v, .int .i64 ((f : Int) + e)] W fun r w' => r = .returned (A4 Bs) ∧ Below W.heap.size W w')
  (hB0 : s = false → ∀ i, W4 Bs i = 0)
include hf he hAll c35 c25 cS hB0
set_option maxHeartbeats 2000000 in
theorem rpack1
  (c36 : ∀ w, Calls Tryz.prog 68 #[IV n nm wd f e l m, DV 1 s g x k] w fun r w' => r = .returned (.bool true) ∧ Below w.heap.size w w')
  (B1 Fr X : Nat) (L : Int) (hl : -1000000 ≤ l ∧ l ≤ 1000000) (hxl : l ≤ x ∧ x ≤ l + 1000000) (hX : x - l + 1 = (X : Int))
  (c38 : ∀ W, Num W (some ⟨w.heap.size, 4, none⟩) 4 4 (lowW (W4 k) 4) → Calls Tryz.prog 61 #[.slice (some ⟨w.heap.size, 4, none⟩) 4 4] W fun e w' => e = .returned (.int .i64 L) ∧ W = w')
  (cK : L < (f : Int) + 1 → ∀ W, Num W (some ⟨w.heap.size, 4, none⟩) 4 4 (lowW (W4 k) 4) → Calls Tryz.prog 69 #[A4 Bs, .slice (some ⟨w.heap.size, 4, none⟩) 4 4, .int .i64 0] W fun r w' => r = .returned (A4 R) ∧ Below W.heap.size W w')
  (c26 : ∀ W, Calls Tryz.prog 32 #[A4 k, .int .i64 0, .int .i64 f] W fun e w' => ∃ r, e = .returned r ∧ NV 19 Fr r w' ∧ Below W.heap.size W w')
  (cF : ∀ W v, NV 19 Fr v W → Calls Tryz.prog 69 #[A4 Bs, v, .int .i64 0] W fun r w' => r = .returned (A4 B1) ∧ Below W.heap.size W w')
  (cE : ¬ L < (f : Int) + 1 → ∀ W v, NV 1 X v W → Calls Tryz.prog 69 #[A4 B1, v, .int .i64 f] W fun r w' => r = .returned (A4 R) ∧ Below W.heap.size W w') :
    Calls Tryz.prog 37 #[.int .i64 n, DV 1 s g x k] w fun r w' => r = .returned (.tuple #[A4 R, .int .i64 0]) ∧ Below w.heap.size w w' := by
  have hp := pow_e' he
  have hAb : All < 18446744073709551616 := by omega
  have hsm := cell_set_map
  go_enter Tryz.func37, Tryz.ntmps37
  go_upto_if 29 with (first
    | (go_at_call 14; refine (c35 _).mono ?_; rintro r w0 ⟨rfl, rfl⟩)
    | (go_at_call 31; refine (c25 _).mono ?_; rintro x w1 ⟨rfl, hb1⟩; obtain ⟨hc1, hf1⟩ := bcell hb1; have hz1_0 : w.heap.size < w1.heap.size := lt_below hb1 ltg; have hl1_0 := Nat.le_of_lt hz1_0; have hz1_1 : w.heap.size + 1 < w1.heap.size := lt_below hb1 ltg; have hl1_1 := Nat.le_of_lt hz1_1; have hA1 := bnext (w0 := w) bgo hb1; have hs1 := hA1.size; clear hb1)
    | (go_at_call 68; refine (c36 _).mono ?_; rintro x w2 ⟨rfl, hb2⟩; obtain ⟨hc2, hf2⟩ := bcell hb2; have hz2_0 : w.heap.size < w2.heap.size := lt_below hb2 ltg; have hl2_0 := Nat.le_of_lt hz2_0; have hz2_1 : w.heap.size + 1 < w2.heap.size := lt_below hb2 ltg; have hl2_1 := Nat.le_of_lt hz2_1; have hz2_2 : w1.heap.size < w2.heap.size := lt_below hb2 ltg; have hl2_2 := Nat.le_of_lt hz2_2; have hA2 := bnext (w0 := w) bgo hb2; have hs2 := hA2.size; clear hb2))
  have hn1 := set_far (Nat.ne_of_gt hz2_2)
  have hn0 := set_far (Nat.ne_of_gt hz2_0)
  have hn2 := set_far (Nat.ne_of_gt hz2_1)
  go_cut [] from 11 (fun wc => Four wc w2.heap.size 0 Bs ∧ Four wc w.heap.size 4 k ∧ (∀ i, i < 4 → wc.cell? ⟨w.heap.size + 1, i, none⟩ = some (.int .u64 0)) ∧ (∀ i, wc.frozen? ⟨w.heap.size + 1, i, none⟩ = false) ∧ (∀ i, wc.frozen? ⟨w2.heap.size, i, none⟩ = false)
      ∧ wc.cell? ⟨w.heap.size, 0, none⟩ = some (.int .i64 1) ∧ wc.cell? ⟨w.heap.size, 2, none⟩ = some (.bool g) ∧ wc.cell? ⟨w.heap.size, 3, none⟩ = some (.int .i64 x)
      ∧ wc.cell? ⟨w1.heap.size, 4, none⟩ = some (.int .i64 ((f : Int) + 1)) ∧ wc.cell? ⟨w1.heap.size, 5, none⟩ = some (.int .i64 e) ∧ wc.cell? ⟨w1.heap.size, 6, none⟩ = some (.int .i64 l) ∧ Below w.heap.size w wc ∧ w2.heap.size < wc.heap.size)
  case first =>
    cases s with
    | false =>
      have hB := hB0 rfl
      clear hB0 cS
      go_wp2
      go_meet
      exact ⟨.of (by rw [hB 0]; go_simp) (by rw [hB 1]; go_simp) (by rw [hB 2]; go_simp) (by rw [hB 3]; go_simp), .of (by go_simp) (by go_simp) (by go_simp) (by go_simp), zeros4p (by go_simp) (by go_simp) (by go_simp) (by go_simp), fun i => by go_simp, fun i => by go_simp, by go_simp, by go_simp, by go_simp, by go_simp, by go_simp, by go_simp, bgo, by simp; try omega⟩
    | true =>
      have hm0 : w.heap.size < w2.heap.size + 1 + 1 := by omega
      have hm1 : w1.heap.size < w2.heap.size + 1 + 1 := by omega
      have hm2 : w.heap.size < w2.heap.size + 2 := by omega
      have hm3 : w1.heap.size < w2.heap.size + 2 := by omega
      replace cS := cS rfl
      clear hB0
      go_wp2_with (go_at_call 69; refine (cS _ _ (nv_one (by simp) rfl (by decide))).mono ?_; rintro r w3 ⟨rfl, hb3⟩; obtain ⟨hc3, hf3⟩ := bcell hb3; have hz3_0 : w.heap.size < w3.heap.size := lt_below hb3 ltg; have hl3_0 := Nat.le_of_lt hz3_0; have hz3_1 : w.heap.size + 1 < w3.heap.size := lt_below hb3 ltg; have hl3_1 := Nat.le_of_lt hz3_1; have hz3_2 : w1.heap.size < w3.heap.size := lt_below hb3 ltg; have hl3_2 := Nat.le_of_lt hz3_2; have hz3_3 : w2.heap.size < w3.heap.size := lt_below hb3 ltg; have hl3_3 := Nat.le_of_lt hz3_3; have hA3 := bnext (w0 := w) bgo hb3; have hs3 := hA3.size; clear hb3)
      go_meet
      exact ⟨.of (by go_simp) (by go_simp) (by go_simp) (by go_simp), .of (by go_simp) (by go_simp) (by go_simp) (by go_simp), zeros4p (by go_simp) (by go_simp) (by go_simp) (by go_simp), fun i => by go_simp, fun i => by go_simp, by go_simp, by go_simp, by go_simp, by go_simp, by go_simp, by go_simp, bgo, by simp; try omega⟩
  case rest =>
    clear cS hB0
    have hcut0 := hcut
    obtain ⟨fB, fK, fz, fr4, fr9, d0, d2, d3, i4, i5, i6, hbw, hsz⟩ := hcut
    have hl0 : w.heap.size < wc.heap.size := by omega
    have hl1 : w.heap.size + 1 < wc.heap.size := by omega
    have hl2 : w1.heap.size < wc.heap.size := by omega
    have hle0 := Nat.le_of_lt hl0
    have hle1 := Nat.le_of_lt hl1
    have hle2 := Nat.le_of_lt hl2
    have hle3 := Nat.le_of_lt hsz
    have b0 := fB.cell 0 (by decide)
    have b1 := fB.cell 1 (by decide)
    have b2 := fB.cell 2 (by decide)
    have b3 := fB.cell 3 (by decide)
    have z0 := fz 0 (by decide)
    have z1 := fz 1 (by decide)
    have z2 := fz 2 (by decide)
    have z3 := fz 3 (by decide)
    have q0 := fK.cell 0 (by decide)
    have q1 := fK.cell 1 (by decide)
    have q2 := fK.cell 2 (by decide)
    have q3 := fK.cell 3 (by decide)
    simp only [Nat.zero_add, Nat.add_zero] at b0 b1 b2 b3
    simp only [Nat.reduceAdd] at q0 q1 q2 q3
    have hNk := four_num fK hl0
    go_upto_region 19 with fail
    go_cut [74] from 11 (fun t wx => t = .bool (decide (L < (f : Int) + 1)) ∧ Four wx w2.heap.size 0 Bs ∧ Four wx w.heap.size 4 k ∧ (∀ i, i < 4 → wx.cell? ⟨w.heap.size + 1, i, none⟩ = some (.int .u64 0)) ∧ (∀ i, wx.frozen? ⟨w.heap.size + 1, i, none⟩ = false) ∧ (∀ i, wx.frozen? ⟨w2.heap.size, i, none⟩ = false)
      ∧ wx.cell? ⟨w.heap.size, 0, none⟩ = some (.int .i64 1) ∧ wx.cell? ⟨w.heap.size, 2, none⟩ = some (.bool g) ∧ wx.cell? ⟨w.heap.size, 3, none⟩ = some (.int .i64 x)
      ∧ wx.cell? ⟨w1.heap.size, 4, none⟩ = some (.int .i64 ((f : Int) + 1)) ∧ wx.cell? ⟨w1.heap.size, 5, none⟩ = some (.int .i64 e) ∧ wx.cell? ⟨w1.heap.size, 6, none⟩ = some (.int .i64 l) ∧ Below w.heap.size w wx ∧ w2.heap.size < wx.heap.size)
    case first =>
      go_region_with (go_at_call 61; refine (c38 _ (hNk.next bgo)).mono ?_; rintro r w4 ⟨rfl, rfl⟩)
      all_goals (
        go_wp2_with fail
        go_meet
        exact ⟨rfl, .of (by go_simp) (by go_simp) (by go_simp) (by go_simp), .of (by go_simp) (by go_simp) (by go_simp) (by go_simp), zeros4p (by go_simp) (by go_simp) (by go_simp) (by go_simp), fun i => by go_simp, fun i => by go_simp, by go_simp, by go_simp, by go_simp, by go_simp, by go_simp, by go_simp, bgo, by simp; try omega⟩)
    case rest =>
      clear hcut0
      clear fB fK fz fr4 fr9 d0 d2 d3 i4 i5 i6 hbw hsz hl0 hl1 hl2 hle0 hle1 hle2 hle3 b0 b1 b2 b3 z0 z1 z2 z3 q0 q1 q2 q3 hNk
      obtain ⟨ht, hcut⟩ := hcut
      obtain ⟨fB, fK, fz, fr4, fr9, d0, d2, d3, i4, i5, i6, hbw, hsz⟩ := hcut
      have hl0 : w.heap.size < wc.heap.size := by omega
      have hl1 : w.heap.size + 1 < wc.heap.size := by omega
      have hl2 : w1.heap.size < wc.heap.size := by omega
      have hle0 := Nat.le_of_lt hl0
      have hle1 := Nat.le_of_lt hl1
      have hle2 := Nat.le_of_lt hl2
      have hle3 := Nat.le_of_lt hsz
      have b0 := fB.cell 0 (by decide)
      have b1 := fB.cell 1 (by decide)
      have b2 := fB.cell 2 (by decide)
      have b3 := fB.cell 3 (by decide)
      have z0 := fz 0 (by decide)
      have z1 := fz 1 (by decide)
      have z2 := fz 2 (by decide)
      have z3 := fz 3 (by decide)
      have q0 := fK.cell 0 (by decide)
      have q1 := fK.cell 1 (by decide)
      have q2 := fK.cell 2 (by decide)
      have q3 := fK.cell 3 (by decide)
      simp only [Nat.zero_add, Nat.add_zero] at b0 b1 b2 b3
      simp only [Nat.reduceAdd] at q0 q1 q2 q3
      have hNk := four_num fK hl0
      by_cases hL : L < (f : Int) + 1
      · rw [decide_eq_true hL] at ht
        subst ht
        replace cK := cK hL
        clear cE
        have hds : ∀ W : World, W.drew.heap.size = W.heap.size := fun W => by simp
        go_wp2
        go_region_with (go_at_call 69; refine (cK _ (hNk.next bgo)).mono ?_; rintro r w5 ⟨rfl, hb5⟩; obtain ⟨hc5, hf5⟩ := bcell hb5; have hz5_0 : w.heap.size < w5.heap.size := lt_below hb5 ltg; have hl5_0 := Nat.le_of_lt hz5_0; have hz5_1 : w.heap.size + 1 < w5.heap.size := lt_below hb5 ltg; have hl5_1 := Nat.le_of_lt hz5_1; have hz5_2 : w1.heap.size < w5.heap.size := lt_below hb5 ltg; have hl5_2 := Nat.le_of_lt hz5_2; have hz5_3 : w2.heap.size < w5.heap.size := lt_below hb5 ltg; have hl5_3 := Nat.le_of_lt hz5_3; have hA5 := bnext (w0 := w) bgo hb5; have hs5 := hA5.size; clear hb5)
        all_goals (
          go_wp2_with fail
          exact bodyPost_ret (v := .tuple #[A4 R, .int .i64 0]) (by simp only [results, Tryz.results37]; go_simp) rfl ⟨rfl, bgo⟩)
      · rw [decide_eq_false hL] at ht
        subst ht
        replace cE := cE (by omega)
        clear cK
        have hds : ∀ W : World, W.drew.heap.size = W.heap.size := fun W => by simp
        go_upto_region 21 with fail
        go_cut [] from 11 (fun wx => Four wx w2.heap.size 0 B1 ∧ Four wx w.heap.size 4 k ∧ (∀ i, i < 4 → wx.cell? ⟨w.heap.size + 1, i, none⟩ = some (.int .u64 0)) ∧ (∀ i, wx.frozen? ⟨w.heap.size + 1, i, none⟩ = false) ∧ (∀ i, wx.frozen? ⟨w2.heap.size, i, none⟩ = false)
      ∧ wx.cell? ⟨w.heap.size, 0, none⟩ = some (.int .i64 1) ∧ wx.cell? ⟨w.heap.size, 2, none⟩ = some (.bool g) ∧ wx.cell? ⟨w.heap.size, 3, none⟩ = some (.int .i64 x)
      ∧ wx.cell? ⟨w1.heap.size, 4, none⟩ = some (.int .i64 ((f : Int) + 1)) ∧ wx.cell? ⟨w1.heap.size, 5, none⟩ = some (.int .i64 e) ∧ wx.cell? ⟨w1.heap.size, 6, none⟩ = some (.int .i64 l) ∧ Below w.heap.size w wx ∧ w2.heap.size < wx.heap.size)
        case first =>
          go_region_with (first
            | (go_at_call 32; refine (c26 _).mono ?_; rintro r w5 ⟨v5, rfl, hv5, hb5⟩; obtain ⟨hc5, hf5⟩ := bcell hb5; have hz5_0 : w.heap.size < w5.heap.size := lt_below hb5 ltg; have hl5_0 := Nat.le_of_lt hz5_0; have hz5_1 : w.heap.size + 1 < w5.heap.size := lt_below hb5 ltg; have hl5_1 := Nat.le_of_lt hz5_1; have hz5_2 : w1.heap.size < w5.heap.size := lt_below hb5 ltg; have hl5_2 := Nat.le_of_lt hz5_2; have hz5_3 : w2.heap.size < w5.heap.size := lt_below hb5 ltg; have hl5_3 := Nat.le_of_lt hz5_3; have hA5 := bnext (w0 := w) bgo hb5; have hs5 := hA5.size; clear hb5)
            | (go_at_call 69; refine (cF _ _ hv5).mono ?_; rintro r w6 ⟨rfl, hb6⟩; obtain ⟨hc6, hf6⟩ := bcell hb6; have hz6_0 : w.heap.size < w6.heap.size := lt_below hb6 ltg; have hl6_0 := Nat.le_of_lt hz6_0; have hz6_1 : w.heap.size + 1 < w6.heap.size := lt_below hb6 ltg; have hl6_1 := Nat.le_of_lt hz6_1; have hz6_2 : w1.heap.size < w6.heap.size := lt_below hb6 ltg; have hl6_2 := Nat.le_of_lt hz6_2; have hz6_3 : w2.heap.size < w6.heap.size := lt_below hb6 ltg; have hl6_3 := Nat.le_of_lt hz6_3; have hA6 := bnext (w0 := w) bgo hb6; have hs6 := hA6.size; clear hb6))
          all_goals (
            go_wp2_with fail
            go_meet
            exact ⟨.of (by go_simp) (by go_simp) (by go_simp) (by go_simp), .of (by go_simp) (by go_simp) (by go_simp) (by go_simp), zeros4p (by go_simp) (by go_simp) (by go_simp) (by go_simp), fun i => by go_simp, fun i => by go_simp, by go_simp, by go_simp, by go_simp, by go_simp, by go_simp, by go_simp, bgo, by simp; try omega⟩)
        case rest =>
          clear fB fK fz fr4 fr9 d0 d2 d3 i4 i5 i6 hbw hsz hl0 hl1 hl2 hle0 hle1 hle2 hle3 b0 b1 b2 b3 z0 z1 z2 z3 q0 q1 q2 q3 hNk
          obtain ⟨fB, fK, fz, fr4, fr9, d0, d2, d3, i4, i5, i6, hbw, hsz⟩ := hcut
          have hl0 : w.heap.size < wc.heap.size := by omega
          have hl1 : w.heap.size + 1 < wc.heap.size := by omega
          have hl2 : w1.heap.size < wc.heap.size := by omega
          have hle0 := Nat.le_of_lt hl0
          have hle1 := Nat.le_of_lt hl1
          have hle2 := Nat.le_of_lt hl2
          have hle3 := Nat.le_of_lt hsz
          have b0 := fB.cell 0 (by decide)
          have b1 := fB.cell 1 (by decide)
          have b2 := fB.cell 2 (by decide)
          have b3 := fB.cell 3 (by decide)
          have z0 := fz 0 (by decide)
          have z1 := fz 1 (by decide)
          have z2 := fz 2 (by decide)
          have z3 := fz 3 (by decide)
          have q0 := fK.cell 0 (by decide)
          have q1 := fK.cell 1 (by decide)
          have q2 := fK.cell 2 (by decide)
          have q3 := fK.cell 3 (by decide)
          simp only [Nat.zero_add, Nat.add_zero] at b0 b1 b2 b3
          simp only [Nat.reduceAdd] at q0 q1 q2 q3
          have hNk := four_num fK hl0
          have hX1 : X < 18446744073709551616 := by omega
          go_wp2_with (go_at_call 69; refine (cE _ _ (nv_one (by simp) (by first | exact hX | omega) hX1)).mono ?_; rintro r w7 ⟨rfl, hb7⟩; obtain ⟨hc7, hf7⟩ := bcell hb7; have hz7_0 : w.heap.size < w7.heap.size := lt_below hb7 ltg; have hl7_0 := Nat.le_of_lt hz7_0; have hz7_1 : w.heap.size + 1 < w7.heap.size := lt_below hb7 ltg; have hl7_1 := Nat.le_of_lt hz7_1; have hz7_2 : w1.heap.size < w7.heap.size := lt_below hb7 ltg; have hl7_2 := Nat.le_of_lt hz7_2; have hz7_3 : w2.heap.size < w7.heap.size := lt_below hb7 ltg; have hl7_3 := Nat.le_of_lt hz7_3; have hA7 := bnext (w0 := w) bgo hb7; have hs7 := hA7.size; clear hb7)
          exact bodyPost_ret (v := .tuple #[A4 R, .int .i64 0]) (by simp only [results, Tryz.results37]; go_simp) rfl ⟨rfl, bgo⟩
end
end Go.Proofs.YtkefmapcaggefaaGreatDoor
