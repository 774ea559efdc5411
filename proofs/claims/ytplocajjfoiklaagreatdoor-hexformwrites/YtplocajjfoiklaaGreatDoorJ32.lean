/-
  Texts that the proof leans on, joined: Rw, Sj9, Dec, Dig, Sk9, Sl9, Sm9, Su9.
-/
import Derived.Test.YtplocajjfoiklaaGreatDoorJ31
import Derived.Test.YtplocajjfoiklaaGreatDoorJ22
import Derived.Test.YtplocajjfoiklaaGreatDoorJ1
import Derived.Test.YtplocajjfoiklaaGreatDoorJ8
import Derived.Laws.BytesArg
import Derived.Test.YtplocajjfoiklaaGreatDoorJ14
import Derived.Test.YtplocajjfoiklaaGreatDoorJ21
import Derived.Test.YtplocajjfoiklaaGreatDoorJ29
set_option linter.unusedVariables false
set_option linter.unusedSectionVars false
set_option linter.unusedSimpArgs false
set_option maxRecDepth 20000
namespace Go.Proofs.YtplocajjfoiklaaGreatDoor
open Go.RowKit

theorem puts_slot (a : Act) : ∀ (D : List Nat) (b : Act), (D.foldl (fun b d => b.put (some d) (slot a d)) b).tmps.size = b.tmps.size ∧ (D.foldl (fun b d => b.put (some d) (slot a d)) b).defers = b.defers ∧ ∀ t, t < b.tmps.size → slot (D.foldl (fun b d => b.put (some d) (slot a d)) b) t = if t ∈ D then slot a t else slot b t
  | [], b => ⟨rfl, rfl, fun t ht => by simp⟩
  | d :: D, b => by
    obtain ⟨h1, h2, h3⟩ := puts_slot a D (b.put (some d) (slot a d))
    have hs : (b.put (some d) (slot a d)).tmps.size = b.tmps.size := by simp [Act.put]
    refine ⟨h1.trans hs, h2, fun t ht => ?_⟩
    rw [List.foldl_cons, h3 t (by rw [hs]; exact ht)]
    by_cases hD : t ∈ D
    · rw [if_pos hD, if_pos (List.mem_cons_of_mem _ hD)]
    · rw [if_neg hD]
      by_cases hd : t = d
      · subst hd
        rw [if_pos List.mem_cons_self, slot_put ht]
      · rw [if_neg (by simp [hd, hD]), slot_put_ne (fun h => hd h.symm)]
theorem act_of {a a0 : Act} (D : List Nat) (n : Nat) (hn : D.length = n) (hsz : a.tmps.size = a0.tmps.size) (hdf : a.defers = a0.defers) (hF : ∀ t, (∀ i, i < n → D.getD i 0 ≠ t) → slot a t = slot a0 t) :
    a = D.foldl (fun b d => b.put (some d) (slot a d)) a0 := by
  obtain ⟨h1, h2, h3⟩ := puts_slot a D a0
  generalize D.foldl (fun b d => b.put (some d) (slot a d)) a0 = b at *
  have key : ∀ t, t < a0.tmps.size → slot a t = slot b t := fun t ht => by
    rw [h3 t ht]
    by_cases hD : t ∈ D
    · rw [if_pos hD]
    · rw [if_neg hD]
      refine hF t fun i hi e => hD ?_
      rw [← e, List.getD_eq_getElem?_getD, List.getElem?_eq_getElem (by omega)]
      exact List.getElem_mem _
  have ht : a.tmps = b.tmps := by
    apply Array.ext (by omega)
    intro i h4 h5
    have := key i (by omega)
    unfold slot at this
    rw [Array.getElem?_eq_getElem h4, Array.getElem?_eq_getElem h5] at this
    exact this
  cases a; cases b
  simp only at ht hdf h2 ⊢
  rw [ht, hdf, h2]

set_option maxHeartbeats 1000000 in
theorem runpack_bad (n : Int) (B : Nat) (w : World) (hB : B < 2 ^ 256) (h : ¬ goodN n B) :
    Calls Tryz.prog 24 #[.int .i64 n, A4 B] w fun x w' => x = .returned (.tuple #[DV 0 false false 0 0, .int .i64 1]) ∧ Below w.heap.size w w' := by
  have c24 := fun w => rgood_any n B hB w
  rw [decide_eq_false h] at c24
  unfold DV
  simp only [W4_zero]
  clear h hB
  go_enter Tryz.func24, Tryz.ntmps24
  go_wp2_with (go_at_call 13; refine (c24 _).mono ?_; rintro x w1 ⟨rfl, hb1⟩; obtain ⟨hc1, hf1⟩ := bcell hb1; have hz1_0 : w.heap.size < w1.heap.size := lt_below hb1 ltg; have hl1_0 := Nat.le_of_lt hz1_0; have hz1_1 : w.heap.size + 1 < w1.heap.size := lt_below hb1 ltg; have hl1_1 := Nat.le_of_lt hz1_1; have hA1 := bnext (w0 := w) bgo hb1; have hs1 := hA1.size; clear hb1)
  have hsm := cell_set_map
  exact bodyPost_ret (v := .tuple #[.agg #[.int .i64 0, .bool false, .bool false, .int .i64 0, .int .u64 0, .int .u64 0, .int .u64 0, .int .u64 0], .int .i64 1]) (by simp only [results, Tryz.results24]; go_simp) rfl ⟨rfl, bgo⟩

theorem pow_e' {e : Nat} (h15 : e ≤ 15) : (1 : Int) ≤ 2 ^ e ∧ (2 : Int) ^ e ≤ 32768 := by
  have b : (2 : Nat) ^ e ≤ 2 ^ 15 := Nat.pow_le_pow_right (by decide) h15
  have a : 1 ≤ 2 ^ e := Nat.one_le_two_pow
  have c : ((2 : Int) ^ e) = ((2 ^ e : Nat) : Int) := by simp
  rw [c]; omega
attribute [local irreducible] W4 NT NV
section
variable (n : Int) (B : Nat) (f e Fr En S : Nat) (l m pay wd : Int) (nm : ByteArray) (w : World) (hf : 2 ≤ f ∧ f ≤ 240) (he : e ≤ 15) (hEn : En < 9223372036854775808) (hS9 : S < 9223372036854775808)
  (c24 : ∀ w, Calls Tryz.prog 13 #[.int .i64 n, A4 B] w fun x w' => x = .returned (.bool true) ∧ Below w.heap.size w w')
  (c25 : ∀ w, Calls Tryz.prog 58 #[.int .i64 n] w fun x w' => x = .returned (.tuple #[.agg #[.int .i64 n, .string nm, .int .i64 2, .int .i64 wd, .int .i64 ((f : Int) + 1), .int .i64 e, .int .i64 l, .int .i64 m, .int .i64 pay, .bool false], .int .i64 0]) ∧ Below w.heap.size w w')
  (c0 : ∀ w, Calls Tryz.prog 27 #[A4 B, .int .i64 0, .int .i64 f] w fun x w' => ∃ r, x = .returned r ∧ NT 19 Fr r w' ∧ Below w.heap.size w w')
  (c1 : ∀ w, Calls Tryz.prog 27 #[A4 B, .int .i64 f, .int .i64 e] w fun x w' => ∃ r, x = .returned r ∧ NT 19 En r w' ∧ Below w.heap.size w w')
  (c26 : ∀ w, Calls Tryz.prog 27 #[A4 B, .int .i64 ((f : Int) + e), .int .i64 1] w fun x w' => ∃ r, x = .returned r ∧ NT 19 S r w' ∧ Below w.heap.size w w')
include hf he hEn hS9 c24 c25 c0 c1 c26
set_option maxHeartbeats 1000000 in
theorem runpack_inf (hE : ((En : Int) == 2 ^ e - 1) = true) (h0 : Fr = 0) :
    Calls Tryz.prog 24 #[.int .i64 n, A4 B] w fun x w' => x = .returned (.tuple #[.agg #[.int .i64 2, .bool ((S : Int) == 1), .bool false, .int .i64 0, .int .u64 0, .int .u64 0, .int .u64 0, .int .u64 0], .int .i64 0]) ∧ Below w.heap.size w w' := by
  go_enter Tryz.func24, Tryz.ntmps24
  go_wp2_with (first
    | (go_at_call 13; refine (c24 _).mono ?_; rintro x w1 ⟨rfl, hb1⟩; obtain ⟨hc1, hf1⟩ := bcell hb1; have hz1_0 : w.heap.size < w1.heap.size := lt_below hb1 ltg; have hl1_0 := Nat.le_of_lt hz1_0; have hz1_1 : w.heap.size + 1 < w1.heap.size := lt_below hb1 ltg; have hl1_1 := Nat.le_of_lt hz1_1; have hA1 := bnext (w0 := w) bgo hb1; have hs1 := hA1.size; clear hb1)
    | (go_at_call 58; refine (c25 _).mono ?_; rintro x w2 ⟨rfl, hb2⟩; obtain ⟨hc2, hf2⟩ := bcell hb2; have hz2_0 : w.heap.size < w2.heap.size := lt_below hb2 ltg; have hl2_0 := Nat.le_of_lt hz2_0; have hz2_1 : w.heap.size + 1 < w2.heap.size := lt_below hb2 ltg; have hl2_1 := Nat.le_of_lt hz2_1; have hA2 := bnext (w0 := w) bgo hb2; have hs2 := hA2.size; clear hb2))
  have k0 : w2.cell? ⟨w.heap.size, 0, none⟩ = some (.int .u64 (W4 B 0)) := (by go_simp)
  have k1 : w2.cell? ⟨w.heap.size, 1, none⟩ = some (.int .u64 (W4 B 1)) := (by go_simp)
  have k2 : w2.cell? ⟨w.heap.size, 2, none⟩ = some (.int .u64 (W4 B 2)) := (by go_simp)
  have k3 : w2.cell? ⟨w.heap.size, 3, none⟩ = some (.int .u64 (W4 B 3)) := (by go_simp)
  refine reg5 (gb := w.heap.size) (gi := w2.heap.size) (f := f) (e := e) (B := B) c0 c1 hEn rfl rfl rfl rfl (by simp; omega) (by simp) (fun i hi => ?_) (by go_simp) ?_
  · have : i = 0 ∨ i = 1 ∨ i = 2 ∨ i = 3 := by omega
    rcases this with rfl | rfl | rfl | rfl <;> go_simp
  intro a w3 v hv h9 h10 hsz hdf hF hb3
  have ha := act_of slots5 11 rfl hsz hdf hF
  rw [ha]
  simp only [slots5, List.foldl_cons, List.foldl_nil, Act.put, List.setIfInBounds_toArray, List.set_cons_succ, List.set_cons_zero, h9, h10]
  generalize slot a 25 = s25
  generalize slot a 26 = s26
  generalize slot a 27 = s27
  generalize slot a 28 = s28
  generalize slot a 29 = s29
  generalize slot a 30 = s30
  generalize slot a 31 = s31
  generalize slot a 32 = s32
  generalize slot a 33 = s33
  clear ha hF hsz hdf h9 h10 a
  obtain ⟨hc3, hf3⟩ := bcell hb3; have hz3_0 : w.heap.size < w3.heap.size := lt_below hb3 ltg; have hl3_0 := Nat.le_of_lt hz3_0; have hz3_1 : w.heap.size + 1 < w3.heap.size := lt_below hb3 ltg; have hl3_1 := Nat.le_of_lt hz3_1; have hz3_2 : w2.heap.size < w3.heap.size := lt_below hb3 ltg; have hl3_2 := Nat.le_of_lt hz3_2; have hA3 := bnext (w0 := w) bgo hb3; have hs3 := hA3.size; clear hb3
  obtain ⟨gv, kv, cv, rfl, hkv, hkz⟩ := hv.zero
  have hp := pow_e' he
  obtain rfl : kv = 0 := hkz.2 h0
  generalize (En : Int) = E at *
  clear hkz h0 hv hkv k0 k1 k2 k3 c0 c1
  go_wp2_with (first
    | (go_at_call 27; refine (c26 _).mono ?_; rintro x w4 ⟨v4, rfl, hn4, hb4⟩; obtain ⟨hc4, hf4⟩ := bcell hb4; have hz4_0 : w.heap.size < w4.heap.size := lt_below hb4 ltg; have hl4_0 := Nat.le_of_lt hz4_0; have hz4_1 : w.heap.size + 1 < w4.heap.size := lt_below hb4 ltg; have hl4_1 := Nat.le_of_lt hz4_1; have hz4_2 : w2.heap.size < w4.heap.size := lt_below hb4 ltg; have hl4_2 := Nat.le_of_lt hz4_2; have hA4 := bnext (w0 := w) bgo hb4; have hs4 := hA4.size; clear hb4)
    | (go_at_call 59; refine (number_nv hn4.nv (by decide) hS9).mono ?_; rintro x w5 ⟨rfl, rfl⟩))
  have hsm := cell_set_map
  go_wp2
  exact bodyPost_ret (v := .tuple #[.agg #[.int .i64 2, .bool ((S : Int) == 1), .bool false, .int .i64 0, .int .u64 0, .int .u64 0, .int .u64 0, .int .u64 0], .int .i64 0]) (by simp only [results, Tryz.results24]; go_simp) rfl ⟨rfl, bgo⟩
set_option maxHeartbeats 1000000 in
theorem runpack_nan (hE : ((En : Int) == 2 ^ e - 1) = true) (h0 : Fr ≠ 0) (Sg Pl : Nat) (hS8 : Sg < 9223372036854775808)
  (c26b : ∀ w, Calls Tryz.prog 27 #[A4 B, .int .i64 ((f : Int) - 1), .int .i64 1] w fun x w' => ∃ r, x = .returned r ∧ NT 19 Sg r w' ∧ Below w.heap.size w w')
  (c26c : ∀ w, Calls Tryz.prog 27 #[A4 B, .int .i64 0, .int .i64 ((f : Int) - 1)] w fun x w' => ∃ r, x = .returned r ∧ NT 19 Pl r w' ∧ Below w.heap.size w w') :
    Calls Tryz.prog 24 #[.int .i64 n, A4 B] w fun x w' => x = .returned (.tuple #[.agg #[.int .i64 3, .bool ((S : Int) == 1), .bool ((Sg : Int) == 0), .int .i64 0, .int .u64 (W4 Pl 0), .int .u64 (W4 Pl 1), .int .u64 (W4 Pl 2), .int .u64 (W4 Pl 3)], .int .i64 0]) ∧ Below w.heap.size w w' := by
  go_enter Tryz.func24, Tryz.ntmps24
  go_wp2_with (first
    | (go_at_call 13; refine (c24 _).mono ?_; rintro x w1 ⟨rfl, hb1⟩; obtain ⟨hc1, hf1⟩ := bcell hb1; have hz1_0 : w.heap.size < w1.heap.size := lt_below hb1 ltg; have hl1_0 := Nat.le_of_lt hz1_0; have hz1_1 : w.heap.size + 1 < w1.heap.size := lt_below hb1 ltg; have hl1_1 := Nat.le_of_lt hz1_1; have hA1 := bnext (w0 := w) bgo hb1; have hs1 := hA1.size; clear hb1)
    | (go_at_call 58; refine (c25 _).mono ?_; rintro x w2 ⟨rfl, hb2⟩; obtain ⟨hc2, hf2⟩ := bcell hb2; have hz2_0 : w.heap.size < w2.heap.size := lt_below hb2 ltg; have hl2_0 := Nat.le_of_lt hz2_0; have hz2_1 : w.heap.size + 1 < w2.heap.size := lt_below hb2 ltg; have hl2_1 := Nat.le_of_lt hz2_1; have hA2 := bnext (w0 := w) bgo hb2; have hs2 := hA2.size; clear hb2))
  have k0 : w2.cell? ⟨w.heap.size, 0, none⟩ = some (.int .u64 (W4 B 0)) := (by go_simp)
  have k1 : w2.cell? ⟨w.heap.size, 1, none⟩ = some (.int .u64 (W4 B 1)) := (by go_simp)
  have k2 : w2.cell? ⟨w.heap.size, 2, none⟩ = some (.int .u64 (W4 B 2)) := (by go_simp)
  have k3 : w2.cell? ⟨w.heap.size, 3, none⟩ = some (.int .u64 (W4 B 3)) := (by go_simp)
  refine reg5 (gb := w.heap.size) (gi := w2.heap.size) (f := f) (e := e) (B := B) c0 c1 hEn rfl rfl rfl rfl (by simp; omega) (by simp) (fun i hi => ?_) (by go_simp) ?_
  · have : i = 0 ∨ i = 1 ∨ i = 2 ∨ i = 3 := by omega
    rcases this with rfl | rfl | rfl | rfl <;> go_simp
  intro a w3 v hv h9 h10 hsz hdf hF hb3
  have ha := act_of slots5 11 rfl hsz hdf hF
  rw [ha]
  simp only [slots5, List.foldl_cons, List.foldl_nil, Act.put, List.setIfInBounds_toArray, List.set_cons_succ, List.set_cons_zero, h9, h10]
  generalize slot a 25 = s25
  generalize slot a 26 = s26
  generalize slot a 27 = s27
  generalize slot a 28 = s28
  generalize slot a 29 = s29
  generalize slot a 30 = s30
  generalize slot a 31 = s31
  generalize slot a 32 = s32
  generalize slot a 33 = s33
  clear ha hF hsz hdf h9 h10 a
  obtain ⟨hc3, hf3⟩ := bcell hb3; have hz3_0 : w.heap.size < w3.heap.size := lt_below hb3 ltg; have hl3_0 := Nat.le_of_lt hz3_0; have hz3_1 : w.heap.size + 1 < w3.heap.size := lt_below hb3 ltg; have hl3_1 := Nat.le_of_lt hz3_1; have hz3_2 : w2.heap.size < w3.heap.size := lt_below hb3 ltg; have hl3_2 := Nat.le_of_lt hz3_2; have hA3 := bnext (w0 := w) bgo hb3; have hs3 := hA3.size; clear hb3
  obtain ⟨gv, kv, cv, rfl, hkv, hkz⟩ := hv.zero
  have hp := pow_e' he
  have hkn : ¬ ((kv : Int) = 0) := fun h => h0 (hkz.1 (by omega))
  have hkb : ((kv : Int) == 0) = false := by simpa using hkn
  generalize (En : Int) = E at *
  clear hkz h0 hv hkv hkn k0 k1 k2 k3 c0 c1
  have hsm := cell_set_map
  go_wp2_with (first
    | (have := hA6; go_at_call 27; refine (c26c _).mono ?_; rintro x w7 ⟨v7, rfl, hn7, hb7⟩; obtain ⟨hc7, hf7⟩ := bcell hb7; have hz7_0 : w.heap.size < w7.heap.size := lt_below hb7 ltg; have hl7_0 := Nat.le_of_lt hz7_0; have hz7_1 : w.heap.size + 1 < w7.heap.size := lt_below hb7 ltg; have hl7_1 := Nat.le_of_lt hz7_1; have hz7_2 : w2.heap.size < w7.heap.size := lt_below hb7 ltg; have hl7_2 := Nat.le_of_lt hz7_2; have hz7_3 : w5.heap.size < w7.heap.size := lt_below hb7 ltg; have hl7_3 := Nat.le_of_lt hz7_3; have hA7 := bnext (w0 := w) bgo hb7; have hs7 := hA7.size; clear hb7)
    | (have := hA6; go_at_call 59; refine (number_nv hn6.nv (by decide) hS8).mono ?_; rintro x w8 ⟨rfl, rfl⟩)
    | (have := hA4; go_at_call 27; refine (c26b _).mono ?_; rintro x w6 ⟨v6, rfl, hn6, hb6⟩; obtain ⟨hc6, hf6⟩ := bcell hb6; have hz6_0 : w.heap.size < w6.heap.size := lt_below hb6 ltg; have hl6_0 := Nat.le_of_lt hz6_0; have hz6_1 : w.heap.size + 1 < w6.heap.size := lt_below hb6 ltg; have hl6_1 := Nat.le_of_lt hz6_1; have hz6_2 : w2.heap.size < w6.heap.size := lt_below hb6 ltg; have hl6_2 := Nat.le_of_lt hz6_2; have hz6_3 : w5.heap.size < w6.heap.size := lt_below hb6 ltg; have hl6_3 := Nat.le_of_lt hz6_3; have hA6 := bnext (w0 := w) bgo hb6; have hs6 := hA6.size; clear hb6)
    | (go_at_call 60; refine (bits_nv hn7.nv).mono ?_; rintro x w9 ⟨rfl, hb9⟩; obtain ⟨hc9, hf9⟩ := bcell hb9; have hz9_0 : w.heap.size < w9.heap.size := lt_below hb9 ltg; have hl9_0 := Nat.le_of_lt hz9_0; have hz9_1 : w.heap.size + 1 < w9.heap.size := lt_below hb9 ltg; have hl9_1 := Nat.le_of_lt hz9_1; have hz9_2 : w2.heap.size < w9.heap.size := lt_below hb9 ltg; have hl9_2 := Nat.le_of_lt hz9_2; have hz9_3 : w5.heap.size < w9.heap.size := lt_below hb9 ltg; have hl9_3 := Nat.le_of_lt hz9_3; have hA9 := bnext (w0 := w) bgo hb9; have hs9 := hA9.size; clear hb9)
    | (go_at_call 27; refine (c26 _).mono ?_; rintro x w4 ⟨v4, rfl, hn4, hb4⟩; obtain ⟨hc4, hf4⟩ := bcell hb4; have hz4_0 : w.heap.size < w4.heap.size := lt_below hb4 ltg; have hl4_0 := Nat.le_of_lt hz4_0; have hz4_1 : w.heap.size + 1 < w4.heap.size := lt_below hb4 ltg; have hl4_1 := Nat.le_of_lt hz4_1; have hz4_2 : w2.heap.size < w4.heap.size := lt_below hb4 ltg; have hl4_2 := Nat.le_of_lt hz4_2; have hA4 := bnext (w0 := w) bgo hb4; have hs4 := hA4.size; clear hb4)
    | (go_at_call 59; refine (number_nv hn4.nv (by decide) hS9).mono ?_; rintro x w5 ⟨rfl, rfl⟩))
  go_wp2
  exact bodyPost_ret (v := .tuple #[.agg #[.int .i64 3, .bool ((S : Int) == 1), .bool ((Sg : Int) == 0), .int .i64 0, .int .u64 (W4 Pl 0), .int .u64 (W4 Pl 1), .int .u64 (W4 Pl 2), .int .u64 (W4 Pl 3)], .int .i64 0]) (by simp only [results, Tryz.results24]; go_simp) rfl ⟨rfl, bgo⟩
set_option maxHeartbeats 2000000 in
theorem runpack_sub (hE : ((En : Int) == 2 ^ e - 1) = false) (h0 : (En : Int) = 0) :
    Calls Tryz.prog 24 #[.int .i64 n, A4 B] w fun x w' => x = .returned (.tuple #[.agg #[.int .i64 1, .bool ((S : Int) == 1), .bool false, .int .i64 l, .int .u64 (W4 Fr 0), .int .u64 (W4 Fr 1), .int .u64 (W4 Fr 2), .int .u64 (W4 Fr 3)], .int .i64 0]) ∧ Below w.heap.size w w' := by
  go_enter Tryz.func24, Tryz.ntmps24
  go_wp2_with (first
    | (go_at_call 13; refine (c24 _).mono ?_; rintro x w1 ⟨rfl, hb1⟩; obtain ⟨hc1, hf1⟩ := bcell hb1; have hz1_0 : w.heap.size < w1.heap.size := lt_below hb1 ltg; have hl1_0 := Nat.le_of_lt hz1_0; have hz1_1 : w.heap.size + 1 < w1.heap.size := lt_below hb1 ltg; have hl1_1 := Nat.le_of_lt hz1_1; have hA1 := bnext (w0 := w) bgo hb1; have hs1 := hA1.size; clear hb1)
    | (go_at_call 58; refine (c25 _).mono ?_; rintro x w2 ⟨rfl, hb2⟩; obtain ⟨hc2, hf2⟩ := bcell hb2; have hz2_0 : w.heap.size < w2.heap.size := lt_below hb2 ltg; have hl2_0 := Nat.le_of_lt hz2_0; have hz2_1 : w.heap.size + 1 < w2.heap.size := lt_below hb2 ltg; have hl2_1 := Nat.le_of_lt hz2_1; have hA2 := bnext (w0 := w) bgo hb2; have hs2 := hA2.size; clear hb2))
  have k0 : w2.cell? ⟨w.heap.size, 0, none⟩ = some (.int .u64 (W4 B 0)) := (by go_simp)
  have k1 : w2.cell? ⟨w.heap.size, 1, none⟩ = some (.int .u64 (W4 B 1)) := (by go_simp)
  have k2 : w2.cell? ⟨w.heap.size, 2, none⟩ = some (.int .u64 (W4 B 2)) := (by go_simp)
  have k3 : w2.cell? ⟨w.heap.size, 3, none⟩ = some (.int .u64 (W4 B 3)) := (by go_simp)
  refine reg5 (gb := w.heap.size) (gi := w2.heap.size) (f := f) (e := e) (B := B) c0 c1 hEn rfl rfl rfl rfl (by simp; omega) (by simp) (fun i hi => ?_) (by go_simp) ?_
  · have : i = 0 ∨ i = 1 ∨ i = 2 ∨ i = 3 := by omega
    rcases this with rfl | rfl | rfl | rfl <;> go_simp
  intro a w3 v hv h9 h10 hsz hdf hF hb3
  have ha := act_of slots5 11 rfl hsz hdf hF
  rw [ha]
  simp only [slots5, List.foldl_cons, List.foldl_nil, Act.put, List.setIfInBounds_toArray, List.set_cons_succ, List.set_cons_zero, h9, h10]
  generalize slot a 25 = s25
  generalize slot a 26 = s26
  generalize slot a 27 = s27
  generalize slot a 28 = s28
  generalize slot a 29 = s29
  generalize slot a 30 = s30
  generalize slot a 31 = s31
  generalize slot a 32 = s32
  generalize slot a 33 = s33
  clear ha hF hsz hdf h9 h10 a
  obtain ⟨hc3, hf3⟩ := bcell hb3; have hz3_0 : w.heap.size < w3.heap.size := lt_below hb3 ltg; have hl3_0 := Nat.le_of_lt hz3_0; have hz3_1 : w.heap.size + 1 < w3.heap.size := lt_below hb3 ltg; have hl3_1 := Nat.le_of_lt hz3_1; have hz3_2 : w2.heap.size < w3.heap.size := lt_below hb3 ltg; have hl3_2 := Nat.le_of_lt hz3_2; have hA3 := bnext (w0 := w) bgo hb3; have hs3 := hA3.size; clear hb3
  obtain ⟨gv, kv, cv, rfl, hkv, hkz⟩ := hv.zero
  have hp := pow_e' he
  generalize (En : Int) = E at *
  clear hkz hkv k0 k1 k2 k3 c0 c1
  have hsm := cell_set_map
  go_wp2_with (first
    | (go_at_call 27; refine (c26 _).mono ?_; rintro x w4 ⟨v4, rfl, hn4, hb4⟩; replace hv := hv.next hb4; obtain ⟨hc4, hf4⟩ := bcell hb4; have hz4_0 : w.heap.size < w4.heap.size := lt_below hb4 ltg; have hl4_0 := Nat.le_of_lt hz4_0; have hz4_1 : w.heap.size + 1 < w4.heap.size := lt_below hb4 ltg; have hl4_1 := Nat.le_of_lt hz4_1; have hz4_2 : w2.heap.size < w4.heap.size := lt_below hb4 ltg; have hl4_2 := Nat.le_of_lt hz4_2; have hA4 := bnext (w0 := w) bgo hb4; have hs4 := hA4.size; clear hb4)
    | (go_at_call 59; refine (number_nv hn4.nv (by decide) hS9).mono ?_; rintro x w5 ⟨rfl, rfl⟩))
  go_region_with (go_at_call 60; refine (bits_nv (hv.nv.next bgo)).mono ?_; rintro x w9 ⟨rfl, hb9⟩; obtain ⟨hc9, hf9⟩ := bcell hb9; have hz9_0 : w.heap.size < w9.heap.size := lt_below hb9 ltg; have hl9_0 := Nat.le_of_lt hz9_0; have hz9_1 : w.heap.size + 1 < w9.heap.size := lt_below hb9 ltg; have hl9_1 := Nat.le_of_lt hz9_1; have hz9_2 : w2.heap.size < w9.heap.size := lt_below hb9 ltg; have hl9_2 := Nat.le_of_lt hz9_2; have hz9_3 : w5.heap.size < w9.heap.size := lt_below hb9 ltg; have hl9_3 := Nat.le_of_lt hz9_3; have hA9 := bnext (w0 := w) bgo hb9; have hs9 := hA9.size; clear hb9)
  all_goals
    go_wp2
    exact bodyPost_ret (v := .tuple #[.agg #[.int .i64 1, .bool ((S : Int) == 1), .bool false, .int .i64 l, .int .u64 (W4 Fr 0), .int .u64 (W4 Fr 1), .int .u64 (W4 Fr 2), .int .u64 (W4 Fr 3)], .int .i64 0]) (by simp only [results, Tryz.results24]; go_simp) rfl ⟨rfl, bgo⟩
end
end Go.Proofs.YtplocajjfoiklaaGreatDoor

namespace Go.Proofs.YtplocajjfoiklaaGreatDoor
open Go.RowKit

theorem tn_ex {k : Nat} {x : Int} : ∀ (d : Nat) (g0 : Int), tnP k x g0 → ¬ tnP k x (g0 + d) → ∃ E, g0 ≤ E ∧ E < g0 + d ∧ tnP k x E ∧ ¬ tnP k x (E + 1)
  | 0, g0, h0, h1 => absurd h0 (by simpa using h1)
  | d + 1, g0, h0, h1 => by
    by_cases h : tnP k x (g0 + 1)
    · obtain ⟨E, e1, e2, e3, e4⟩ := tn_ex d (g0 + 1) h (by rw [show g0 + 1 + (d : Int) = g0 + ((d + 1 : Nat) : Int) by omega]; exact h1)
      exact ⟨E, by omega, by omega, e3, e4⟩
    · exact ⟨g0, Int.le_refl _, by omega, h0, h⟩
theorem tn_top {k : Nat} {x : Int} (hk : k < 2 ^ 256) (hx : x ≤ 17000) : ¬ tnP k x 6000 := by
  unfold tnP zE oE
  rw [show ((-6000 : Int)).toNat = 0 by decide, Nat.pow_zero, Nat.mul_one, show ((6000 : Int)).toNat = 6000 by decide]
  have h1 : (2 : Nat) ^ 18000 ≤ 10 ^ 6000 := by decide +kernel
  obtain ⟨m', hm'⟩ : ∃ m' : Nat, m' = 18000 := ⟨_, rfl⟩
  rw [← hm'] at h1
  generalize (10 : Nat) ^ 6000 = T at *
  obtain ⟨m, hm⟩ : ∃ m : Nat, m = 17000 := ⟨_, rfl⟩
  have h2 : k * 2 ^ x.toNat < 2 ^ 256 * 2 ^ m := by
    have a1 : k * 2 ^ x.toNat < 2 ^ 256 * 2 ^ x.toNat := Nat.mul_lt_mul_of_pos_right hk (Nat.two_pow_pos _)
    have a2 : 2 ^ 256 * 2 ^ x.toNat ≤ 2 ^ 256 * 2 ^ m := Nat.mul_le_mul_left _ (Nat.pow_le_pow_right (by decide) (by omega))
    exact Nat.lt_of_lt_of_le a1 a2
  rw [← Nat.pow_add] at h2
  have h3 : (2 : Nat) ^ (256 + m) ≤ 2 ^ m' := Nat.pow_le_pow_right (by decide) (by omega)
  have h4 : 1 * T ≤ 2 ^ (-x).toNat * T := Nat.mul_le_mul_right _ (Nat.two_pow_pos _)
  generalize (2 : Nat) ^ (256 + m) = Y at *
  generalize (2 : Nat) ^ m' = Y' at *
  rw [Nat.mul_assoc 4, Nat.mul_assoc 4]
  generalize 2 ^ (-x).toNat * T = Z1 at *
  generalize k * 2 ^ x.toNat = Z2 at *
  omega
attribute [local irreducible] W4 Nz Nt NT
end Go.Proofs.YtplocajjfoiklaaGreatDoor

namespace Go.Proofs.YtplocajjfoiklaaGreatDoor
open Go.RowKit

theorem p10_pos (n : Nat) : (0 : Int) < 10 ^ n := Int.pow_pos (by decide)
/-- the digit of place i -/
def dgt (V : Int) (i : Nat) : Int := V / 10 ^ i % 10
theorem dgt_bd (V : Int) (i : Nat) : 0 ≤ dgt V i ∧ dgt V i ≤ 9 := by
  unfold dgt
  have := Int.emod_nonneg (V / 10 ^ i) (show (10 : Int) ≠ 0 by decide)
  have := Int.emod_lt_of_pos (V / 10 ^ i) (show (0 : Int) < 10 by decide)
  omega
theorem dgt_small {V : Int} {L : Nat} (h0 : 0 ≤ V) (h : V < 10 ^ L) (i : Nat) (hi : L ≤ i) : dgt V i = 0 := by
  unfold dgt
  have : V / 10 ^ i = 0 := Int.ediv_eq_zero_of_lt h0 (Int.lt_of_lt_of_le h (by
    obtain ⟨k, rfl⟩ : ∃ k, i = L + k := ⟨i - L, by omega⟩
    rw [Int.pow_add]
    have h1 := p10_pos L
    have h2 := p10_pos k
    have : (10 : Int) ^ L * 1 ≤ 10 ^ L * 10 ^ k := Int.mul_le_mul_of_nonneg_left (by omega) (by omega)
    omega))
  rw [this]; rfl
theorem div_div10 (V : Int) (a b : Nat) : V / 10 ^ a / 10 ^ b = V / 10 ^ (a + b) := by
  rw [Int.pow_add, Int.ediv_ediv_of_nonneg (Int.le_of_lt (p10_pos a))]
theorem emod_mul_ediv' {W a b : Int} (ha : 0 < a) : W % (a * b) / a = W / a % b := by
  rw [Int.emod_def, Int.emod_def, ← Int.ediv_ediv_of_nonneg (Int.le_of_lt ha)]
  have : W - a * b * (W / a / b) = W + (-(b * (W / a / b))) * a := by grind
  rw [this, Int.add_mul_ediv_right _ _ (by omega)]; omega
theorem dgt_step {V r : Int} {L j : Nat} (hr : V / 10 ^ L % 10 ^ 19 = r) (hj : j < 19) : r / 10 ^ j % 10 = dgt V (L + j) := by
  unfold dgt
  rw [← div_div10]
  generalize V / 10 ^ L = W at *
  subst hr
  have h1 : (10 : Int) ^ 19 = 10 ^ j * (10 * 10 ^ (18 - j)) := by
    rw [← Int.mul_assoc, ← Int.pow_succ, ← Int.pow_add]; congr 1; omega
  have hp := p10_pos j
  have hp2 := p10_pos (18 - j)
  rw [h1, emod_mul_ediv' hp]
  exact Int.emod_emod_of_dvd _ ⟨10 ^ (18 - j), rfl⟩
/-- the digits, the highest first: those of the lowest L places -/
def decL (V : Int) (L : Nat) : List Int := if sizeL (dgt V) L = 0 then [48] else (List.range (sizeL (dgt V) L)).map fun i => 48 + dgt V (sizeL (dgt V) L - 1 - i)
theorem decL_more {V : Int} {L L' : Nat} (h0 : 0 ≤ V) (h : V < 10 ^ L) (h' : V < 10 ^ L') : decL V L = decL V L' := by
  have key : ∀ a b, a ≤ b → V < 10 ^ a → decL V b = decL V a := fun a b hab ha => by
    unfold decL
    rw [sizeL_more (fun i hi => dgt_small h0 ha i hi) b hab]
  rcases Nat.le_total L L' with e | e
  · exact (key L L' e h).symm
  · exact key L' L e h'

end Go.Proofs.YtplocajjfoiklaaGreatDoor

namespace Go.Proofs.YtplocajjfoiklaaGreatDoor
open Go.RowKit

/-- the digits of the lowest L places, as bytes -/
def blB (V : Int) (L : Nat) : List Value := (List.range L).map fun i => Value.int .u8 (48 + dgt V i)
theorem blB_succ (V : Int) (L : Nat) : blB V L ++ [Value.int .u8 (48 + dgt V L)] = blB V (L + 1) := by simp [blB, List.range_succ]
theorem owns_upd {w w' : World} {g base n : Nat} {v : Value} {xs : List Value} (h : w.ownsRow base 5 1 v n xs) (hU : Upd g w w') (hg : g < base) : w'.ownsRow base 5 1 v n xs := by
  obtain ⟨h1, h2⟩ := h
  refine ⟨h1, ?_⟩
  rcases h2 with h2 | ⟨g', cap, cur, e, hb, hh, r⟩
  · exact Or.inl h2
  · exact Or.inr ⟨g', cap, cur, e, hb, (hU.block g' (by omega)).trans hh, r⟩
/-- in the middle of the work: block s words z, the digits so far, all else as it was -/
def DigSt (w0 : World) (V : Int) (s : Nat) (z : Nat → Int) (ao : Option Addr) (L cp : Nat) (wr : World) : Prop :=
  Own w0.heap.size s z wr ∧ wr.ownsRow (w0.heap.size + 1) 5 1 (.slice ao L cp) L (blB V L) ∧ Below w0.heap.size w0 wr ∧ w0.heap.size + 1 ≤ wr.heap.size
def slLen : Value → Nat | .slice _ n _ => n | _ => 0

theorem p22 : ∀ s : Nat, (18446744073709551616 : Int) ^ s ≤ 10 ^ (22 * s)
  | 0 => by simp
  | s + 1 => by
    have ih := p22 s
    have e : (10 : Int) ^ (22 * (s + 1)) = 10 ^ (22 * s) * 10000000000000000000000 := by rw [Nat.mul_add, Int.pow_add]; rfl
    rw [e, Int.pow_succ]
    have h0 := pw_pos s
    have h1 := p10_pos (22 * s)
    generalize (18446744073709551616 : Int) ^ s = A at *
    generalize (10 : Int) ^ (22 * s) = B at *
    omega
theorem p10_lt {L s : Nat} (h : (10 : Int) ^ L < 18446744073709551616 ^ s) : L < 22 * s := by
  rcases Nat.lt_or_ge L (22 * s) with h' | h'
  · exact h'
  · have h2 := p22 s
    obtain ⟨k, rfl⟩ : ∃ k, L = 22 * s + k := ⟨L - 22 * s, by omega⟩
    rw [Int.pow_add] at h
    have h3 := p10_pos k
    have h4 := p10_pos (22 * s)
    have : (10 : Int) ^ (22 * s) * 1 ≤ 10 ^ (22 * s) * 10 ^ k := Int.mul_le_mul_of_nonneg_left (by omega) (by omega)
    omega
/-- bytes that are made: block g holds those of f, n of them, none frozen -/
def HasB (g n : Nat) (f : Nat → Int) (w : World) : Prop := g < w.heap.size ∧ ∀ i, i < n → w.cell? ⟨g, i, none⟩ = some (.int .u8 (f i)) ∧ w.frozen? ⟨g, i, none⟩ = false
theorem owns_cells {w : World} {base g L cap : Nat} {V : Int} (h : w.ownsRow base 5 1 (.slice (some ⟨g, 0, none⟩) L cap) L (blB V L)) : base ≤ g ∧ L ≤ cap ∧ cap ≤ maxLen ∧ HasB g L (fun i => 48 + dgt V i) w := by
  obtain ⟨hl, h⟩ := h
  rcases h with ⟨h, _⟩ | ⟨g', cap', cur, he, hb, hh, h1, h2, h3, h4⟩
  · cases h
  · cases he
    have hg : g < w.heap.size := by
      rcases Nat.lt_or_ge g w.heap.size with h' | h'
      · exact h'
      · rw [Array.getElem?_eq_none h'] at hh; cases hh
    refine ⟨hb, h1, h2, hg, fun i hi => ⟨?_, ?_⟩⟩
    · have hcur : cur[i]? = some (.int .u8 (48 + dgt V i)) := by
        have : (cur.toList.take (L * 1))[i]? = some (.int .u8 (48 + dgt V i)) := by rw [h4]; simp [blB, hi]
        rw [List.getElem?_take] at this
        simpa [hi] using this
      unfold World.cell?
      simp [hh, hcur]
    · unfold World.frozen?
      simp [hh]

end Go.Proofs.YtplocajjfoiklaaGreatDoor

namespace Go.Proofs.YtplocajjfoiklaaGreatDoor
open Go.RowKit

theorem Rch.grown {g : Nat} {vn vb va vw tv : Value} {c : Bool} {w w' : World} (hr : Rch g vn vb va vw c w) (hg : w.grownBy w' tv.ownBlock) (hf : some g ≠ tv.ownBlock) : Rch g vn vb va vw c w' :=
  ⟨(hg.block g hr.lt hf).trans hr.blk, hr.s0, hr.s1, hr.s2, hr.s3⟩
theorem NT.grown {K V Bs : Nat} {v tv : Value} {l : List UInt8} {w w' : World} (h : NT K V v w) (ho : w.ownsRow Bs 5 1 tv l.length (Lib.byteCells l)) (hl : tv = .slice none 0 0 ∨ 0 < l.length) (hg : w.grownBy w' tv.ownBlock) : NT K V v w' := by
  obtain ⟨b, k, cap, z, h1, h2, ⟨n1, n2, n3, n4, n5⟩, h4, h5⟩ := h
  refine ⟨b, k, cap, z, h1, h2, ⟨n1, n2, n3, n4, ?_⟩, h4, h5⟩
  rcases n5 with n5 | ⟨b', off, e, hb, hc⟩
  · exact Or.inl n5
  · cases e
    refine Or.inr ⟨b, 0, rfl, Nat.lt_of_lt_of_le hb hg.size, fun i hi => ?_⟩
    have hne : some b ≠ tv.ownBlock := by
      rcases hl with rfl | hl
      · intro h; cases h
      · obtain ⟨g', cap', rfl, _, _⟩ := ho.form hl
        intro h
        have : b = g' := Option.some.inj h
        subst this
        have h6 := hc 0 (by omega)
        rw [Nat.add_zero, ho.cellAt 0 (by omega)] at h6
        simp [Lib.byteCells, hl] at h6
    exact (World.cell?_of_block (w := w) (a := ⟨b, 0 + i, none⟩) (hg.block b hb hne)).trans (hc i hi)
attribute [local irreducible] W4 Nz Nt NT
end Go.Proofs.YtplocajjfoiklaaGreatDoor

namespace Go.Proofs.YtplocajjfoiklaaGreatDoor
open Go.RowKit

/-- how many quarters below a number are read as it -/
def lwN (n x : Int) (k : Nat) : Nat := if nbB n x k then 1 else 2
def evK (k : Nat) : Bool := decide (k % 2 = 0)
/-- the first digit's place, and how many digits behind it -/
structure Shd (n x : Int) (k : Nat) (E : Int) (K : Nat) : Prop where
  t0 : tnP k x E
  t1 : ¬ tnP k x (E + 1)
  st : stK (evK k) (4 * k * oE x E) (lwN n x k * oE x E) (2 * oE x E) (zE x E) K = true
  mn : ∀ j, j < K → stK (evK k) (4 * k * oE x E) (lwN n x k * oE x E) (2 * oE x E) (zE x E) j = false
theorem bin_x {n x : Int} (hb : binN n) (h1 : leastN n ≤ x) (h2 : x ≤ mostN n) : -16990 ≤ x ∧ x ≤ 16990 := by
  have h3 : -16990 ≤ leastN n ∧ mostN n ≤ 16990 := by
    rcases bin_cases hb with rfl | rfl | rfl | rfl | rfl | rfl <;> decide
  omega
theorem gs_in {k : Nat} {x : Int} (hk : k < 2 ^ 256) (hk0 : k ≠ 0) (hx : -16990 ≤ x ∧ x ≤ 16990) : tnP k x (gsP k x) ∧ -6000 ≤ gsP k x ∧ gsP k x < 6000 := by
  have hb : bl k ≤ 256 := bl_le.2 hk
  obtain ⟨b1, b2, b3⟩ := bl_bd hk0
  have e : ((bl k - 1 : Nat) : Int) = (bl k : Int) - 1 := by omega
  have := guess_ok (c := k) (L := bl k - 1) (x := x) b1 (by omega)
  rw [e] at this
  refine ⟨this, ?_⟩
  unfold gsP
  by_cases h0 : 0 ≤ (bl k : Int) - 1 + x
  · rw [Int.tdiv_eq_ediv_of_nonneg (by omega)]; omega
  · rw [show ((bl k : Int) - 1 + x) * 30103 = -(-((bl k : Int) - 1 + x) * 30103) by omega, Int.neg_tdiv, Int.tdiv_eq_ediv_of_nonneg (by omega)]; omega
theorem Shd.ex {n x : Int} {k : Nat} (hk : k < 2 ^ 256) (hk0 : k ≠ 0) (hx : -16990 ≤ x ∧ x ≤ 16990) : ∃ E K, Shd n x k E K := by
  obtain ⟨g1, g2, g3⟩ := gs_in hk hk0 hx
  obtain ⟨E, e1, e2, e3, e4⟩ := tn_ex (6000 - gsP k x).toNat (gsP k x) g1 (by rw [show gsP k x + ((6000 - gsP k x).toNat : Int) = 6000 by omega]; exact tn_top hk (by omega))
  have hl : 0 < lwN n x k * oE x E := Nat.mul_pos (by unfold lwN; split <;> decide) (oE_pos _ _)
  obtain ⟨K, h1, h2⟩ := st_ex (c := evK k) (R := 4 * k * oE x E) (u := 2 * oE x E) (zE_pos x E) hl
  exact ⟨E, K, e3, e4, h1, h2⟩
end Go.Proofs.YtplocajjfoiklaaGreatDoor

namespace Go.Proofs.YtplocajjfoiklaaGreatDoor
open Go.RowKit

theorem W4_none {k : Nat} (hk : k < 2 ^ 256) : decide (W4 k 0 = 0 ∧ W4 k 1 = 0 ∧ W4 k 2 = 0 ∧ W4 k 3 = 0) = decide (k = 0) := by
  by_cases h : k = 0
  · subst h
    rw [decide_eq_true (by simp [W4_zero]), decide_eq_true rfl]
  · rw [decide_eq_false h, decide_eq_false]
    rintro ⟨h0, h1, h2, h3⟩
    refine h (A4_inj hk (by decide) fun i hi => ?_)
    have : i = 0 ∨ i = 1 ∨ i = 2 ∨ i = 3 := by omega
    rcases this with rfl | rfl | rfl | rfl
    · rw [h0, W4_zero]
    · rw [h1, W4_zero]
    · rw [h2, W4_zero]
    · rw [h3, W4_zero]
attribute [local irreducible] W4
set_option maxHeartbeats 1000000 in
theorem none_v (c : Int) (s g : Bool) (x : Int) (k : Nat) (w : World) (hk : k < 2 ^ 256) :
    Calls Tryz.prog 117 #[DV c s g x k] w fun r w' => r = .returned (.bool (decide (k = 0))) ∧ Below w.heap.size w w' := by
  have h24 := eq24 (W4 k 0) (W4 k 1) (W4 k 2) (W4 k 3) 0 0 0 0
  rw [W4_none hk] at h24
  have hsm := cell_set_map
  unfold DV
  go_enter Tryz.func117, Tryz.ntmps117
  go_wp2
  go_ret
  exact ⟨rfl, bgo⟩
end Go.Proofs.YtplocajjfoiklaaGreatDoor

namespace Go.Proofs.YtplocajjfoiklaaGreatDoor
open Go.RowKit

theorem itoa_short {e : Int} (he : -100000 ≤ e ∧ e ≤ 100000) : (Lib.itoa e).length ≤ 100 := by
  have := Lib.itoa_length_le e (by omega) (by omega)
  omega
attribute [local irreducible] W4
section
variable (n : Int) (Bp : Nat) (c : Int) (s g : Bool) (x : Int) (k : Nat) (w : World) (hT : Tab w) (hT10 : Tb10 w)
include hT
include hT10
set_option maxHeartbeats 2000000 in
theorem wr_p (T : List UInt8) (hs : s = false) (c22 : ∀ W, Tab W → Calls Tryz.prog 21 #[.int .i64 n, A4 Bp] W fun r w' => r = .returned (.tuple #[DV c s g x k, .int .i64 0]) ∧ Below W.heap.size W w')
    (c39 : ∀ W, Tab W → Tb10 W → Calls Tryz.prog 54 #[.int .i64 n, DV c s g x k] W fun r w' => r = .returned (.string (B T)) ∧ Below W.heap.size W w') :
    Calls Tryz.prog 22 #[.int .i64 n, A4 Bp] w fun r w' => r = .returned (.tuple #[.string (B T), .int .i64 0]) ∧ Below w.heap.size w w' := by
  subst hs
  have hsm := cell_set_map
  unfold DV A4 at *
  go_enter Tryz.func22, Tryz.ntmps22
  go_wp2_with (first
    | (go_at_call 21; refine (c22 _ (hT.go bgo)).mono ?_; rintro r w1 ⟨rfl, hb1⟩; obtain ⟨hc1, hf1⟩ := bcell hb1; have hz1_0 : w.heap.size < w1.heap.size := lt_below hb1 ltg; have hl1_0 := Nat.le_of_lt hz1_0; have hA1 := bnext (w0 := w) bgo hb1; have hs1 := hA1.size; clear hb1)
    | (go_at_call 54; refine (c39 _ (hT.go bgo) (hT10.next bgo)).mono ?_; rintro r w2 ⟨rfl, hb2⟩; obtain ⟨hc2, hf2⟩ := bcell hb2; have hz2_0 : w.heap.size < w2.heap.size := lt_below hb2 ltg; have hl2_0 := Nat.le_of_lt hz2_0; have hz2_1 : w1.heap.size < w2.heap.size := lt_below hb2 ltg; have hl2_1 := Nat.le_of_lt hz2_1; have hA2 := bnext (w0 := w) bgo hb2; have hs2 := hA2.size; clear hb2))
  exact bodyPost_ret (v := .tuple #[.string (B T), .int .i64 0]) (by simp only [results, Tryz.results22]; go_simp) rfl ⟨rfl, bgo⟩
set_option maxHeartbeats 2000000 in
theorem wr_m (T : List UInt8) (hl : T.length ≤ 100000) (hs : s = true) (c22 : ∀ W, Tab W → Calls Tryz.prog 21 #[.int .i64 n, A4 Bp] W fun r w' => r = .returned (.tuple #[DV c s g x k, .int .i64 0]) ∧ Below W.heap.size W w')
    (c39 : ∀ W, Tab W → Tb10 W → Calls Tryz.prog 54 #[.int .i64 n, DV c s g x k] W fun r w' => r = .returned (.string (B T)) ∧ Below W.heap.size W w') :
    Calls Tryz.prog 22 #[.int .i64 n, A4 Bp] w fun r w' => r = .returned (.tuple #[.string (B ([45] ++ T)), .int .i64 0]) ∧ Below w.heap.size w w' := by
  subst hs
  have htl := B_toList
  have hsm := cell_set_map
  have p0 : (⟨#[45]⟩ : ByteArray) ++ B T = B ([45] ++ T) := B_app [45] T
  have z0 : (B T).size = T.length := B_size T
  generalize [45] ++ T = T2 at *
  unfold DV A4 at *
  go_enter Tryz.func22, Tryz.ntmps22
  go_wp2_with (first
    | (go_at_call 21; refine (c22 _ (hT.go bgo)).mono ?_; rintro r w1 ⟨rfl, hb1⟩; obtain ⟨hc1, hf1⟩ := bcell hb1; have hz1_0 : w.heap.size < w1.heap.size := lt_below hb1 ltg; have hl1_0 := Nat.le_of_lt hz1_0; have hA1 := bnext (w0 := w) bgo hb1; have hs1 := hA1.size; clear hb1)
    | (go_at_call 54; refine (c39 _ (hT.go bgo) (hT10.next bgo)).mono ?_; rintro r w2 ⟨rfl, hb2⟩; obtain ⟨hc2, hf2⟩ := bcell hb2; have hz2_0 : w.heap.size < w2.heap.size := lt_below hb2 ltg; have hl2_0 := Nat.le_of_lt hz2_0; have hz2_1 : w1.heap.size < w2.heap.size := lt_below hb2 ltg; have hl2_1 := Nat.le_of_lt hz2_1; have hA2 := bnext (w0 := w) bgo hb2; have hs2 := hA2.size; clear hb2))
  exact bodyPost_ret (v := .tuple #[.string (B T2), .int .i64 0]) (by simp only [results, Tryz.results22]; go_simp) rfl ⟨rfl, bgo⟩
end
end Go.Proofs.YtplocajjfoiklaaGreatDoor
