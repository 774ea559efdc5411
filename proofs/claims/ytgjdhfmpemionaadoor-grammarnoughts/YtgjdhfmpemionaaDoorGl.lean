/-
  The document's Cut of numbers without a point, way by way.
-/
import Derived.Test.YtgjdhfmpemionaaDoorGj
set_option linter.unusedVariables false
set_option linter.unusedSimpArgs false
set_option maxRecDepth 20000
namespace Go.Proofs.YtgjdhfmpemionaaDoor
open Go.RowKit

set_option maxHeartbeats 2000000 in
theorem rcut_nk1x (l : List UInt8) (w : World) (hl : l.length ≤ 4000) (z : Bool) (R T : List UInt8) (x : UInt8) (xs : List UInt8) (hX : xs.length + 1 < 4001) (c : UInt8) (r : List UInt8) (hr : r.length < 4001) (hc46 : (c.toNat : Int) ≠ 46) (hc1 : (c.toNat : Int) ≠ 101) (hc2 : (c.toNat : Int) ≠ 69)
    (c19 : ∀ w, Calls Tryd.prog 19 #[.string (B l)] w fun e w' => e = .returned (.tuple #[.bool z, .string (B R)]) ∧ Below w.heap.size w w')
    (c20 : ∀ w, Calls Tryd.prog 20 #[.string (B R)] w fun e w' => e = .returned (.tuple #[.agg #[.int .i64 0, .bool false, .bool false, .string ⟨#[]⟩, .int .i64 0], .bool false]) ∧ Below w.heap.size w w')
    (c21 : ∀ w, Calls Tryd.prog 21 #[.string (B R)] w fun e w' => e = .returned (.tuple #[.string (B (x :: xs)), .string (B (c :: r))]) ∧ Below w.heap.size w w') :
    Calls Tryd.prog 10 #[.string (B l)] w fun e w' => e = .returned (.tuple #[.agg #[.int .i64 0, .bool false, .bool false, .string ⟨#[]⟩, .int .i64 0], .int .i64 2]) ∧ Below w.heap.size w w' := by
  have hsz := B_size l
  have hi : (l.length : Int) ≤ 4000 := by omega
  have htl := B_toList
  have hsm := cell_set_map
  have hszQ : (B (c :: r)).size = r.length + 1 := rfl
  have hfs := B_first c r (by omega)
  have htq : (B (c :: r)).extract 1 (r.length + 1) = B r := B_tail c r
  have hcb := c.toNat_lt
  have h46 : ((c.toNat : Int) == 46) = false := beq_eq_false_iff_ne.2 hc46
  have g1 : ((c.toNat : Int) != 101) = true := by simpa using hc1
  have g2 : ((c.toNat : Int) != 69) = true := by simpa using hc2
  go_enter Tryd.func10, Tryd.ntmps10
  go_wp2_with (first | (go_at_call 19; refine (c19 _).mono ?_; rintro x w1 ⟨rfl, hb1⟩; obtain ⟨hc1, hf1⟩ := bcell hb1; have hz1_0 : w.heap.size < w1.heap.size := lt_below hb1 (by first | with_reducible assumption | (simp; done) | (simp; omega)); have hl1_0 := Nat.le_of_lt hz1_0; have hA1 := bnext (w0 := w) (by (repeat (first | with_reducible assumption | with_reducible exact Below.refl _ _ | with_reducible refine Below.setCell ?_ (by first | omega | (dsimp only; omega) | (simp <;> omega)) _ | with_reducible refine Below.alloc ?_ (by first | omega | (simp <;> omega)) _ | with_reducible refine Below.drew ?_))) hb1; have hs1 := hA1.size; clear hb1) | (go_at_call 20; refine (c20 _).mono ?_; rintro x w2 ⟨rfl, hb2⟩; obtain ⟨hc2, hf2⟩ := bcell hb2; have hz2_0 : w.heap.size < w2.heap.size := lt_below hb2 (by first | with_reducible assumption | (simp; done) | (simp; omega)); have hl2_0 := Nat.le_of_lt hz2_0; have hA2 := bnext (w0 := w) (by (repeat (first | with_reducible assumption | with_reducible exact Below.refl _ _ | with_reducible refine Below.setCell ?_ (by first | omega | (dsimp only; omega) | (simp <;> omega)) _ | with_reducible refine Below.alloc ?_ (by first | omega | (simp <;> omega)) _ | with_reducible refine Below.drew ?_))) hb2; have hs2 := hA2.size; clear hb2) | (go_at_call 21; refine (c21 _).mono ?_; rintro x w3 ⟨rfl, hb3⟩; obtain ⟨hc3, hf3⟩ := bcell hb3; have hz3_0 : w.heap.size < w3.heap.size := lt_below hb3 (by first | with_reducible assumption | (simp; done) | (simp; omega)); have hl3_0 := Nat.le_of_lt hz3_0; have hA3 := bnext (w0 := w) (by (repeat (first | with_reducible assumption | with_reducible exact Below.refl _ _ | with_reducible refine Below.setCell ?_ (by first | omega | (dsimp only; omega) | (simp <;> omega)) _ | with_reducible refine Below.alloc ?_ (by first | omega | (simp <;> omega)) _ | with_reducible refine Below.drew ?_))) hb3; have hs3 := hA3.size; clear hb3))
  exact bodyPost_ret (v := .tuple #[.agg #[.int .i64 0, .bool false, .bool false, .string ⟨#[]⟩, .int .i64 0], .int .i64 2]) (by simp only [results, Tryd.results10]; go_simp) rfl ⟨rfl, by (repeat (first | with_reducible assumption | with_reducible exact Below.refl _ _ | with_reducible refine Below.setCell ?_ (by first | omega | (dsimp only; omega) | (simp <;> omega)) _ | with_reducible refine Below.alloc ?_ (by first | omega | (simp <;> omega)) _ | with_reducible refine Below.drew ?_))⟩
set_option maxHeartbeats 2000000 in
theorem rcut_nk1z (l : List UInt8) (w : World) (hl : l.length ≤ 4000) (z : Bool) (R T : List UInt8) (Q : List UInt8) (c : UInt8) (r : List UInt8) (hQ : Q = c :: r) (hc46 : (c.toNat : Int) ≠ 46)
    (c19 : ∀ w, Calls Tryd.prog 19 #[.string (B l)] w fun e w' => e = .returned (.tuple #[.bool z, .string (B R)]) ∧ Below w.heap.size w w')
    (c20 : ∀ w, Calls Tryd.prog 20 #[.string (B R)] w fun e w' => e = .returned (.tuple #[.agg #[.int .i64 0, .bool false, .bool false, .string ⟨#[]⟩, .int .i64 0], .bool false]) ∧ Below w.heap.size w w')
    (c21 : ∀ w, Calls Tryd.prog 21 #[.string (B R)] w fun e w' => e = .returned (.tuple #[.string (B []), .string (B Q)]) ∧ Below w.heap.size w w') :
    Calls Tryd.prog 10 #[.string (B l)] w fun e w' => e = .returned (.tuple #[.agg #[.int .i64 0, .bool false, .bool false, .string ⟨#[]⟩, .int .i64 0], .int .i64 2]) ∧ Below w.heap.size w w' := by
  have hsz := B_size l
  have hi : (l.length : Int) ≤ 4000 := by omega
  have htl := B_toList
  have hsm := cell_set_map
  have h46 : ((c.toNat : Int) == 46) = false := beq_eq_false_iff_ne.2 hc46
  subst hQ
  have hszQ : (B (c :: r)).size = r.length + 1 := rfl
  have hfs := B_first c r (by omega)
  have hcb := c.toNat_lt
  go_enter Tryd.func10, Tryd.ntmps10
  go_wp2_with (first | (go_at_call 19; refine (c19 _).mono ?_; rintro x w1 ⟨rfl, hb1⟩; obtain ⟨hc1, hf1⟩ := bcell hb1; have hz1_0 : w.heap.size < w1.heap.size := lt_below hb1 (by first | with_reducible assumption | (simp; done) | (simp; omega)); have hl1_0 := Nat.le_of_lt hz1_0; have hA1 := bnext (w0 := w) (by (repeat (first | with_reducible assumption | with_reducible exact Below.refl _ _ | with_reducible refine Below.setCell ?_ (by first | omega | (dsimp only; omega) | (simp <;> omega)) _ | with_reducible refine Below.alloc ?_ (by first | omega | (simp <;> omega)) _ | with_reducible refine Below.drew ?_))) hb1; have hs1 := hA1.size; clear hb1) | (go_at_call 20; refine (c20 _).mono ?_; rintro x w2 ⟨rfl, hb2⟩; obtain ⟨hc2, hf2⟩ := bcell hb2; have hz2_0 : w.heap.size < w2.heap.size := lt_below hb2 (by first | with_reducible assumption | (simp; done) | (simp; omega)); have hl2_0 := Nat.le_of_lt hz2_0; have hA2 := bnext (w0 := w) (by (repeat (first | with_reducible assumption | with_reducible exact Below.refl _ _ | with_reducible refine Below.setCell ?_ (by first | omega | (dsimp only; omega) | (simp <;> omega)) _ | with_reducible refine Below.alloc ?_ (by first | omega | (simp <;> omega)) _ | with_reducible refine Below.drew ?_))) hb2; have hs2 := hA2.size; clear hb2) | (go_at_call 21; refine (c21 _).mono ?_; rintro x w3 ⟨rfl, hb3⟩; obtain ⟨hc3, hf3⟩ := bcell hb3; have hz3_0 : w.heap.size < w3.heap.size := lt_below hb3 (by first | with_reducible assumption | (simp; done) | (simp; omega)); have hl3_0 := Nat.le_of_lt hz3_0; have hA3 := bnext (w0 := w) (by (repeat (first | with_reducible assumption | with_reducible exact Below.refl _ _ | with_reducible refine Below.setCell ?_ (by first | omega | (dsimp only; omega) | (simp <;> omega)) _ | with_reducible refine Below.alloc ?_ (by first | omega | (simp <;> omega)) _ | with_reducible refine Below.drew ?_))) hb3; have hs3 := hA3.size; clear hb3))
  exact bodyPost_ret (v := .tuple #[.agg #[.int .i64 0, .bool false, .bool false, .string ⟨#[]⟩, .int .i64 0], .int .i64 2]) (by simp only [results, Tryd.results10]; go_simp) rfl ⟨rfl, by (repeat (first | with_reducible assumption | with_reducible exact Below.refl _ _ | with_reducible refine Below.setCell ?_ (by first | omega | (dsimp only; omega) | (simp <;> omega)) _ | with_reducible refine Below.alloc ?_ (by first | omega | (simp <;> omega)) _ | with_reducible refine Below.drew ?_))⟩
set_option maxHeartbeats 2000000 in
theorem rcut_nk2x (l : List UInt8) (w : World) (hl : l.length ≤ 4000) (z : Bool) (R T : List UInt8) (x : UInt8) (xs : List UInt8) (hX : xs.length + 1 < 4001) (c : UInt8) (r : List UInt8) (hr : r.length < 4001) (hc46 : (c.toNat : Int) ≠ 46) (hc : (c.toNat : Int) = 101 ∨ (c.toNat : Int) = 69) (E : Int)
    (c19 : ∀ w, Calls Tryd.prog 19 #[.string (B l)] w fun e w' => e = .returned (.tuple #[.bool z, .string (B R)]) ∧ Below w.heap.size w w')
    (c20 : ∀ w, Calls Tryd.prog 20 #[.string (B R)] w fun e w' => e = .returned (.tuple #[.agg #[.int .i64 0, .bool false, .bool false, .string ⟨#[]⟩, .int .i64 0], .bool false]) ∧ Below w.heap.size w w')
    (c21 : ∀ w, Calls Tryd.prog 21 #[.string (B R)] w fun e w' => e = .returned (.tuple #[.string (B (x :: xs)), .string (B (c :: r))]) ∧ Below w.heap.size w w')
    (c22 : ∀ w, Calls Tryd.prog 22 #[.string (B r)] w fun e w' => e = .returned (.tuple #[.int .i64 E, .bool false]) ∧ Below w.heap.size w w') :
    Calls Tryd.prog 10 #[.string (B l)] w fun e w' => e = .returned (.tuple #[.agg #[.int .i64 0, .bool false, .bool false, .string ⟨#[]⟩, .int .i64 0], .int .i64 2]) ∧ Below w.heap.size w w' := by
  have hsz := B_size l
  have hi : (l.length : Int) ≤ 4000 := by omega
  have htl := B_toList
  have hsm := cell_set_map
  have hszQ : (B (c :: r)).size = r.length + 1 := rfl
  have hfs := B_first c r (by omega)
  have htq : (B (c :: r)).extract 1 (r.length + 1) = B r := B_tail c r
  have hcb := c.toNat_lt
  have h46 : ((c.toNat : Int) == 46) = false := beq_eq_false_iff_ne.2 hc46
  rcases hc with h | h
  all_goals
    go_enter Tryd.func10, Tryd.ntmps10
    go_wp2_with (first | (go_at_call 19; refine (c19 _).mono ?_; rintro x w1 ⟨rfl, hb1⟩; obtain ⟨hc1, hf1⟩ := bcell hb1; have hz1_0 : w.heap.size < w1.heap.size := lt_below hb1 (by first | with_reducible assumption | (simp; done) | (simp; omega)); have hl1_0 := Nat.le_of_lt hz1_0; have hA1 := bnext (w0 := w) (by (repeat (first | with_reducible assumption | with_reducible exact Below.refl _ _ | with_reducible refine Below.setCell ?_ (by first | omega | (dsimp only; omega) | (simp <;> omega)) _ | with_reducible refine Below.alloc ?_ (by first | omega | (simp <;> omega)) _ | with_reducible refine Below.drew ?_))) hb1; have hs1 := hA1.size; clear hb1) | (go_at_call 20; refine (c20 _).mono ?_; rintro x w2 ⟨rfl, hb2⟩; obtain ⟨hc2, hf2⟩ := bcell hb2; have hz2_0 : w.heap.size < w2.heap.size := lt_below hb2 (by first | with_reducible assumption | (simp; done) | (simp; omega)); have hl2_0 := Nat.le_of_lt hz2_0; have hA2 := bnext (w0 := w) (by (repeat (first | with_reducible assumption | with_reducible exact Below.refl _ _ | with_reducible refine Below.setCell ?_ (by first | omega | (dsimp only; omega) | (simp <;> omega)) _ | with_reducible refine Below.alloc ?_ (by first | omega | (simp <;> omega)) _ | with_reducible refine Below.drew ?_))) hb2; have hs2 := hA2.size; clear hb2) | (go_at_call 21; refine (c21 _).mono ?_; rintro x w3 ⟨rfl, hb3⟩; obtain ⟨hc3, hf3⟩ := bcell hb3; have hz3_0 : w.heap.size < w3.heap.size := lt_below hb3 (by first | with_reducible assumption | (simp; done) | (simp; omega)); have hl3_0 := Nat.le_of_lt hz3_0; have hA3 := bnext (w0 := w) (by (repeat (first | with_reducible assumption | with_reducible exact Below.refl _ _ | with_reducible refine Below.setCell ?_ (by first | omega | (dsimp only; omega) | (simp <;> omega)) _ | with_reducible refine Below.alloc ?_ (by first | omega | (simp <;> omega)) _ | with_reducible refine Below.drew ?_))) hb3; have hs3 := hA3.size; clear hb3) | (go_at_call 22; refine (c22 _).mono ?_; rintro x w5 ⟨rfl, hb5⟩; obtain ⟨hc5, hf5⟩ := bcell hb5; have hz5_0 : w.heap.size < w5.heap.size := lt_below hb5 (by first | with_reducible assumption | (simp; done) | (simp; omega)); have hl5_0 := Nat.le_of_lt hz5_0; have hA5 := bnext (w0 := w) (by (repeat (first | with_reducible assumption | with_reducible exact Below.refl _ _ | with_reducible refine Below.setCell ?_ (by first | omega | (dsimp only; omega) | (simp <;> omega)) _ | with_reducible refine Below.alloc ?_ (by first | omega | (simp <;> omega)) _ | with_reducible refine Below.drew ?_))) hb5; have hs5 := hA5.size; clear hb5))
    exact bodyPost_ret (v := .tuple #[.agg #[.int .i64 0, .bool false, .bool false, .string ⟨#[]⟩, .int .i64 0], .int .i64 2]) (by simp only [results, Tryd.results10]; go_simp) rfl ⟨rfl, by (repeat (first | with_reducible assumption | with_reducible exact Below.refl _ _ | with_reducible refine Below.setCell ?_ (by first | omega | (dsimp only; omega) | (simp <;> omega)) _ | with_reducible refine Below.alloc ?_ (by first | omega | (simp <;> omega)) _ | with_reducible refine Below.drew ?_))⟩
set_option maxHeartbeats 2000000 in
theorem rcut_nk3x (l : List UInt8) (w : World) (hl : l.length ≤ 4000) (z : Bool) (R T : List UInt8) (x : UInt8) (xs : List UInt8) (hX : xs.length + 1 < 4001) (c : UInt8) (r : List UInt8) (hr : r.length < 4001) (hc46 : (c.toNat : Int) ≠ 46) (hc : (c.toNat : Int) = 101 ∨ (c.toNat : Int) = 69) (E : Int) (D : List UInt8)
    (c19 : ∀ w, Calls Tryd.prog 19 #[.string (B l)] w fun e w' => e = .returned (.tuple #[.bool z, .string (B R)]) ∧ Below w.heap.size w w')
    (c20 : ∀ w, Calls Tryd.prog 20 #[.string (B R)] w fun e w' => e = .returned (.tuple #[.agg #[.int .i64 0, .bool false, .bool false, .string ⟨#[]⟩, .int .i64 0], .bool false]) ∧ Below w.heap.size w w')
    (c21 : ∀ w, Calls Tryd.prog 21 #[.string (B R)] w fun e w' => e = .returned (.tuple #[.string (B (x :: xs)), .string (B (c :: r))]) ∧ Below w.heap.size w w')
    (c22 : ∀ w, Calls Tryd.prog 22 #[.string (B r)] w fun e w' => e = .returned (.tuple #[.int .i64 E, .bool true]) ∧ Below w.heap.size w w') (hE : -2000000000 ≤ E ∧ E ≤ 2000000000)
    (c23 : ∀ w, Calls Tryd.prog 23 #[.string (B ((x :: xs)))] w fun e w' => e = .returned (.string (B D)) ∧ Below w.heap.size w w') :
    Calls Tryd.prog 10 #[.string (B l)] w fun e w' => e = .returned (.tuple #[.agg #[.int .i64 1, .bool z, .bool false, .string (B D), .int .i64 (min (max E (-1000000000)) 1000000000)], .int .i64 0]) ∧ Below w.heap.size w w' := by
  have hsz := B_size l
  have hi : (l.length : Int) ≤ 4000 := by omega
  have htl := B_toList
  have hsm := cell_set_map
  have hszQ : (B (c :: r)).size = r.length + 1 := rfl
  have hfs := B_first c r (by omega)
  have htq : (B (c :: r)).extract 1 (r.length + 1) = B r := B_tail c r
  have hcb := c.toNat_lt
  have h46 : ((c.toNat : Int) == 46) = false := beq_eq_false_iff_ne.2 hc46
  have hap := B_app (x :: xs) []
  rw [List.append_nil] at hap
  have hXs : (B (x :: xs)).size < 4001 := hX
  have hFs : (B []).size = 0 := rfl
  have hn0 : (⟨#[]⟩ : ByteArray).size = 0 := rfl
  change B (x :: xs) ++ ⟨#[]⟩ = _ at hap
  rcases hc with h | h
  all_goals
    go_enter Tryd.func10, Tryd.ntmps10
    go_wp2_with (first | (go_at_call 19; refine (c19 _).mono ?_; rintro x w1 ⟨rfl, hb1⟩; obtain ⟨hc1, hf1⟩ := bcell hb1; have hz1_0 : w.heap.size < w1.heap.size := lt_below hb1 (by first | with_reducible assumption | (simp; done) | (simp; omega)); have hl1_0 := Nat.le_of_lt hz1_0; have hA1 := bnext (w0 := w) (by (repeat (first | with_reducible assumption | with_reducible exact Below.refl _ _ | with_reducible refine Below.setCell ?_ (by first | omega | (dsimp only; omega) | (simp <;> omega)) _ | with_reducible refine Below.alloc ?_ (by first | omega | (simp <;> omega)) _ | with_reducible refine Below.drew ?_))) hb1; have hs1 := hA1.size; clear hb1) | (go_at_call 20; refine (c20 _).mono ?_; rintro x w2 ⟨rfl, hb2⟩; obtain ⟨hc2, hf2⟩ := bcell hb2; have hz2_0 : w.heap.size < w2.heap.size := lt_below hb2 (by first | with_reducible assumption | (simp; done) | (simp; omega)); have hl2_0 := Nat.le_of_lt hz2_0; have hA2 := bnext (w0 := w) (by (repeat (first | with_reducible assumption | with_reducible exact Below.refl _ _ | with_reducible refine Below.setCell ?_ (by first | omega | (dsimp only; omega) | (simp <;> omega)) _ | with_reducible refine Below.alloc ?_ (by first | omega | (simp <;> omega)) _ | with_reducible refine Below.drew ?_))) hb2; have hs2 := hA2.size; clear hb2) | (go_at_call 21; refine (c21 _).mono ?_; rintro x w3 ⟨rfl, hb3⟩; obtain ⟨hc3, hf3⟩ := bcell hb3; have hz3_0 : w.heap.size < w3.heap.size := lt_below hb3 (by first | with_reducible assumption | (simp; done) | (simp; omega)); have hl3_0 := Nat.le_of_lt hz3_0; have hA3 := bnext (w0 := w) (by (repeat (first | with_reducible assumption | with_reducible exact Below.refl _ _ | with_reducible refine Below.setCell ?_ (by first | omega | (dsimp only; omega) | (simp <;> omega)) _ | with_reducible refine Below.alloc ?_ (by first | omega | (simp <;> omega)) _ | with_reducible refine Below.drew ?_))) hb3; have hs3 := hA3.size; clear hb3) | (go_at_call 22; refine (c22 _).mono ?_; rintro x w5 ⟨rfl, hb5⟩; obtain ⟨hc5, hf5⟩ := bcell hb5; have hz5_0 : w.heap.size < w5.heap.size := lt_below hb5 (by first | with_reducible assumption | (simp; done) | (simp; omega)); have hl5_0 := Nat.le_of_lt hz5_0; have hA5 := bnext (w0 := w) (by (repeat (first | with_reducible assumption | with_reducible exact Below.refl _ _ | with_reducible refine Below.setCell ?_ (by first | omega | (dsimp only; omega) | (simp <;> omega)) _ | with_reducible refine Below.alloc ?_ (by first | omega | (simp <;> omega)) _ | with_reducible refine Below.drew ?_))) hb5; have hs5 := hA5.size; clear hb5) | (go_at_call 23; refine (c23 _).mono ?_; rintro x w6 ⟨rfl, hb6⟩; obtain ⟨hc6, hf6⟩ := bcell hb6; have hz6_0 : w.heap.size < w6.heap.size := lt_below hb6 (by first | with_reducible assumption | (simp; done) | (simp; omega)); have hl6_0 := Nat.le_of_lt hz6_0; have hA6 := bnext (w0 := w) (by (repeat (first | with_reducible assumption | with_reducible exact Below.refl _ _ | with_reducible refine Below.setCell ?_ (by first | omega | (dsimp only; omega) | (simp <;> omega)) _ | with_reducible refine Below.alloc ?_ (by first | omega | (simp <;> omega)) _ | with_reducible refine Below.drew ?_))) hb6; have hs6 := hA6.size; clear hb6))
    exact bodyPost_ret (v := .tuple #[.agg #[.int .i64 1, .bool z, .bool false, .string (B D), .int .i64 (min (max E (-1000000000)) 1000000000)], .int .i64 0]) (by simp only [results, Tryd.results10]; go_simp) rfl ⟨rfl, by (repeat (first | with_reducible assumption | with_reducible exact Below.refl _ _ | with_reducible refine Below.setCell ?_ (by first | omega | (dsimp only; omega) | (simp <;> omega)) _ | with_reducible refine Below.alloc ?_ (by first | omega | (simp <;> omega)) _ | with_reducible refine Below.drew ?_))⟩
set_option maxHeartbeats 2000000 in
theorem rcut_ok0x (l : List UInt8) (w : World) (hl : l.length ≤ 4000) (z : Bool) (R T : List UInt8) (x : UInt8) (xs : List UInt8) (hX : xs.length + 1 < 4001) (D : List UInt8)
    (c19 : ∀ w, Calls Tryd.prog 19 #[.string (B l)] w fun e w' => e = .returned (.tuple #[.bool z, .string (B R)]) ∧ Below w.heap.size w w')
    (c20 : ∀ w, Calls Tryd.prog 20 #[.string (B R)] w fun e w' => e = .returned (.tuple #[.agg #[.int .i64 0, .bool false, .bool false, .string ⟨#[]⟩, .int .i64 0], .bool false]) ∧ Below w.heap.size w w')
    (c21 : ∀ w, Calls Tryd.prog 21 #[.string (B R)] w fun e w' => e = .returned (.tuple #[.string (B (x :: xs)), .string (B [])]) ∧ Below w.heap.size w w')
    (c23 : ∀ w, Calls Tryd.prog 23 #[.string (B ((x :: xs)))] w fun e w' => e = .returned (.string (B D)) ∧ Below w.heap.size w w') :
    Calls Tryd.prog 10 #[.string (B l)] w fun e w' => e = .returned (.tuple #[.agg #[.int .i64 1, .bool z, .bool false, .string (B D), .int .i64 (min (max 0 (-1000000000)) 1000000000)], .int .i64 0]) ∧ Below w.heap.size w w' := by
  have hsz := B_size l
  have hi : (l.length : Int) ≤ 4000 := by omega
  have htl := B_toList
  have hsm := cell_set_map
  have hszQ : (B []).size = 0 := rfl
  have hap := B_app (x :: xs) []
  rw [List.append_nil] at hap
  have hXs : (B (x :: xs)).size < 4001 := hX
  have hFs : (B []).size = 0 := rfl
  have hn0 : (⟨#[]⟩ : ByteArray).size = 0 := rfl
  change B (x :: xs) ++ ⟨#[]⟩ = _ at hap
  go_enter Tryd.func10, Tryd.ntmps10
  go_wp2_with (first | (go_at_call 19; refine (c19 _).mono ?_; rintro x w1 ⟨rfl, hb1⟩; obtain ⟨hc1, hf1⟩ := bcell hb1; have hz1_0 : w.heap.size < w1.heap.size := lt_below hb1 (by first | with_reducible assumption | (simp; done) | (simp; omega)); have hl1_0 := Nat.le_of_lt hz1_0; have hA1 := bnext (w0 := w) (by (repeat (first | with_reducible assumption | with_reducible exact Below.refl _ _ | with_reducible refine Below.setCell ?_ (by first | omega | (dsimp only; omega) | (simp <;> omega)) _ | with_reducible refine Below.alloc ?_ (by first | omega | (simp <;> omega)) _ | with_reducible refine Below.drew ?_))) hb1; have hs1 := hA1.size; clear hb1) | (go_at_call 20; refine (c20 _).mono ?_; rintro x w2 ⟨rfl, hb2⟩; obtain ⟨hc2, hf2⟩ := bcell hb2; have hz2_0 : w.heap.size < w2.heap.size := lt_below hb2 (by first | with_reducible assumption | (simp; done) | (simp; omega)); have hl2_0 := Nat.le_of_lt hz2_0; have hA2 := bnext (w0 := w) (by (repeat (first | with_reducible assumption | with_reducible exact Below.refl _ _ | with_reducible refine Below.setCell ?_ (by first | omega | (dsimp only; omega) | (simp <;> omega)) _ | with_reducible refine Below.alloc ?_ (by first | omega | (simp <;> omega)) _ | with_reducible refine Below.drew ?_))) hb2; have hs2 := hA2.size; clear hb2) | (go_at_call 21; refine (c21 _).mono ?_; rintro x w3 ⟨rfl, hb3⟩; obtain ⟨hc3, hf3⟩ := bcell hb3; have hz3_0 : w.heap.size < w3.heap.size := lt_below hb3 (by first | with_reducible assumption | (simp; done) | (simp; omega)); have hl3_0 := Nat.le_of_lt hz3_0; have hA3 := bnext (w0 := w) (by (repeat (first | with_reducible assumption | with_reducible exact Below.refl _ _ | with_reducible refine Below.setCell ?_ (by first | omega | (dsimp only; omega) | (simp <;> omega)) _ | with_reducible refine Below.alloc ?_ (by first | omega | (simp <;> omega)) _ | with_reducible refine Below.drew ?_))) hb3; have hs3 := hA3.size; clear hb3) | (go_at_call 23; refine (c23 _).mono ?_; rintro x w6 ⟨rfl, hb6⟩; obtain ⟨hc6, hf6⟩ := bcell hb6; have hz6_0 : w.heap.size < w6.heap.size := lt_below hb6 (by first | with_reducible assumption | (simp; done) | (simp; omega)); have hl6_0 := Nat.le_of_lt hz6_0; have hA6 := bnext (w0 := w) (by (repeat (first | with_reducible assumption | with_reducible exact Below.refl _ _ | with_reducible refine Below.setCell ?_ (by first | omega | (dsimp only; omega) | (simp <;> omega)) _ | with_reducible refine Below.alloc ?_ (by first | omega | (simp <;> omega)) _ | with_reducible refine Below.drew ?_))) hb6; have hs6 := hA6.size; clear hb6))
  exact bodyPost_ret (v := .tuple #[.agg #[.int .i64 1, .bool z, .bool false, .string (B D), .int .i64 (min (max 0 (-1000000000)) 1000000000)], .int .i64 0]) (by simp only [results, Tryd.results10]; go_simp) rfl ⟨rfl, by (repeat (first | with_reducible assumption | with_reducible exact Below.refl _ _ | with_reducible refine Below.setCell ?_ (by first | omega | (dsimp only; omega) | (simp <;> omega)) _ | with_reducible refine Below.alloc ?_ (by first | omega | (simp <;> omega)) _ | with_reducible refine Below.drew ?_))⟩
set_option maxHeartbeats 2000000 in
theorem rcut_ok0z (l : List UInt8) (w : World) (hl : l.length ≤ 4000) (z : Bool) (R T : List UInt8)
    (c19 : ∀ w, Calls Tryd.prog 19 #[.string (B l)] w fun e w' => e = .returned (.tuple #[.bool z, .string (B R)]) ∧ Below w.heap.size w w')
    (c20 : ∀ w, Calls Tryd.prog 20 #[.string (B R)] w fun e w' => e = .returned (.tuple #[.agg #[.int .i64 0, .bool false, .bool false, .string ⟨#[]⟩, .int .i64 0], .bool false]) ∧ Below w.heap.size w w')
    (c21 : ∀ w, Calls Tryd.prog 21 #[.string (B R)] w fun e w' => e = .returned (.tuple #[.string (B []), .string (B [])]) ∧ Below w.heap.size w w') :
    Calls Tryd.prog 10 #[.string (B l)] w fun e w' => e = .returned (.tuple #[.agg #[.int .i64 0, .bool false, .bool false, .string ⟨#[]⟩, .int .i64 0], .int .i64 2]) ∧ Below w.heap.size w w' := by
  have hsz := B_size l
  have hi : (l.length : Int) ≤ 4000 := by omega
  have htl := B_toList
  have hsm := cell_set_map
  have hszQ : (B []).size = 0 := rfl
  go_enter Tryd.func10, Tryd.ntmps10
  go_wp2_with (first | (go_at_call 19; refine (c19 _).mono ?_; rintro x w1 ⟨rfl, hb1⟩; obtain ⟨hc1, hf1⟩ := bcell hb1; have hz1_0 : w.heap.size < w1.heap.size := lt_below hb1 (by first | with_reducible assumption | (simp; done) | (simp; omega)); have hl1_0 := Nat.le_of_lt hz1_0; have hA1 := bnext (w0 := w) (by (repeat (first | with_reducible assumption | with_reducible exact Below.refl _ _ | with_reducible refine Below.setCell ?_ (by first | omega | (dsimp only; omega) | (simp <;> omega)) _ | with_reducible refine Below.alloc ?_ (by first | omega | (simp <;> omega)) _ | with_reducible refine Below.drew ?_))) hb1; have hs1 := hA1.size; clear hb1) | (go_at_call 20; refine (c20 _).mono ?_; rintro x w2 ⟨rfl, hb2⟩; obtain ⟨hc2, hf2⟩ := bcell hb2; have hz2_0 : w.heap.size < w2.heap.size := lt_below hb2 (by first | with_reducible assumption | (simp; done) | (simp; omega)); have hl2_0 := Nat.le_of_lt hz2_0; have hA2 := bnext (w0 := w) (by (repeat (first | with_reducible assumption | with_reducible exact Below.refl _ _ | with_reducible refine Below.setCell ?_ (by first | omega | (dsimp only; omega) | (simp <;> omega)) _ | with_reducible refine Below.alloc ?_ (by first | omega | (simp <;> omega)) _ | with_reducible refine Below.drew ?_))) hb2; have hs2 := hA2.size; clear hb2) | (go_at_call 21; refine (c21 _).mono ?_; rintro x w3 ⟨rfl, hb3⟩; obtain ⟨hc3, hf3⟩ := bcell hb3; have hz3_0 : w.heap.size < w3.heap.size := lt_below hb3 (by first | with_reducible assumption | (simp; done) | (simp; omega)); have hl3_0 := Nat.le_of_lt hz3_0; have hA3 := bnext (w0 := w) (by (repeat (first | with_reducible assumption | with_reducible exact Below.refl _ _ | with_reducible refine Below.setCell ?_ (by first | omega | (dsimp only; omega) | (simp <;> omega)) _ | with_reducible refine Below.alloc ?_ (by first | omega | (simp <;> omega)) _ | with_reducible refine Below.drew ?_))) hb3; have hs3 := hA3.size; clear hb3))
  exact bodyPost_ret (v := .tuple #[.agg #[.int .i64 0, .bool false, .bool false, .string ⟨#[]⟩, .int .i64 0], .int .i64 2]) (by simp only [results, Tryd.results10]; go_simp) rfl ⟨rfl, by (repeat (first | with_reducible assumption | with_reducible exact Below.refl _ _ | with_reducible refine Below.setCell ?_ (by first | omega | (dsimp only; omega) | (simp <;> omega)) _ | with_reducible refine Below.alloc ?_ (by first | omega | (simp <;> omega)) _ | with_reducible refine Below.drew ?_))⟩
end Go.Proofs.YtgjdhfmpemionaaDoor
