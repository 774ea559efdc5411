/-
  Texts that the proof leans on, joined: St9, Su9, Fl, Su8, Sv9, Byt, Rev, Dgn.
-/
import Derived.Test.YtoobncgmcnmgjaaGreatDoorL38
import Derived.Test.YtoobncgmcnmgjaaGreatDoorL34
import Derived.Test.YtoobncgmcnmgjaaGreatDoorL26
import Derived.Test.YtoobncgmcnmgjaaGreatDoorL1
import Derived.Test.YtoobncgmcnmgjaaGreatDoorL32
import Derived.Shelf.SlicesE.Reverse
import Derived.Test.YtoobncgmcnmgjaaGreatDoorL25
set_option linter.unusedVariables false
set_option linter.unusedSectionVars false
set_option linter.unusedSimpArgs false
set_option maxRecDepth 20000
namespace Go.Proofs.YtoobncgmcnmgjaaGreatDoor
open Go.RowKit

theorem un_isD {n : Int} {B : Nat} (h : goodN n B) : isD (fN n) (leastN n) (mostN n) (unD n B) := by
  have hF := bin_fm h.1
  obtain ⟨S, E, F, hS, hE, hFr, hB⟩ := fields_in h.2
  have hu : unD n B = mean (fN n) (eN n) (leastN n) S E F := by
    unfold unD; rw [if_pos h, hB, unp_mean _ hS hE hFr]
  rw [hu]
  exact (mean_isD hF hS hE hFr).1
/-- a number that has digits -/
def finP (n : Int) (V : Nat) : Prop := goodN n V ∧ (unD n V).c = 1 ∧ (unD n V).k ≠ 0
theorem fin_facts {n : Int} {V : Nat} (h : finP n V) : binN n ∧ (unD n V).k < 2 ^ 256 ∧ -16990 ≤ (unD n V).x ∧ (unD n V).x ≤ 16990 ∧ isD (fN n) (leastN n) (mostN n) (unD n V) := by
  obtain ⟨h1, h2, h3⟩ := h
  have hb := h1.1
  have hd := un_isD h1
  have hf := (bin_fm hb).f240
  rcases hd with ⟨e1, e2, e3, e4, e5, e6⟩ | ⟨e1, _⟩ | ⟨e1, _⟩
  · have hx := bin_x hb e4 e5
    refine ⟨hb, Nat.lt_of_lt_of_le e3 (Nat.pow_le_pow_right (by decide) (by omega)), hx.1, hx.2, Or.inl ⟨e1, e2, e3, e4, e5, e6⟩⟩
  · omega
  · omega
/-- digits and exponent, the program's -/
theorem digits_fin {n : Int} {V : Nat} {E : Int} {K : Nat} (h : finP n V) (hV : V < 2 ^ 256) (hS : Shd n (unD n V).x (unD n V).k E K) (w : World) (hT : Tab w) :
    Calls Tryz.prog 10 #[.int .i64 n, A4 V] w fun r w' => r = .returned (.tuple #[.string (B (sdT n (unD n V).x (unD n V).k E K)), .int .i64 (E + (sdC n (unD n V).x (unD n V).k E K : Nat) + 1 - (sdT n (unD n V).x (unD n V).k E K).length), .int .i64 0]) ∧ Below w.heap.size w w' := by
  obtain ⟨hb, hk, hx1, hx2, hd⟩ := fin_facts h
  obtain ⟨b1, b2, b3⟩ := hS.bd hk h.2.2 ⟨hx1, hx2⟩
  have c22 : ∀ W, Tab W → Calls Tryz.prog 22 #[.int .i64 n, A4 V] W fun r w' => r = .returned (.tuple #[DV 1 (unD n V).s (unD n V).g (unD n V).x (unD n V).k, .int .i64 0]) ∧ Below W.heap.size W w' := fun W hW => by
    have := unpack_any n V W hW hV
    rw [show unE n V = 0 from if_pos h.1] at this
    unfold Dat.v at this
    rw [h.2.1] at this
    exact this
  have hc : sdC n (unD n V).x (unD n V).k E K ≤ 1 := by unfold sdC shC; split <;> omega
  have hl : (sdT n (unD n V).x (unD n V).k E K).length ≤ 1000 := by
    unfold sdT shT
    split
    · simp
    · rw [List.length_append, dsN_len]; simp; omega
  refine dig10_k n V 1 (unD n V).s (unD n V).g (unD n V).x (unD n V).k w hT c22 rfl (fun W => ?_) _ _ (by omega) hl (fun W hW => digitsOf_v 1 (unD n V).s (unD n V).g W hW hb hk h.2.2 ⟨hx1, hx2⟩ hS)
  have := none_v 1 (unD n V).s (unD n V).g (unD n V).x (unD n V).k W hk
  rw [decide_eq_false h.2.2] at this
  exact this
end Go.Proofs.YtoobncgmcnmgjaaGreatDoor

namespace Go.Proofs.YtoobncgmcnmgjaaGreatDoor
open Go.RowKit

/-- a number's text, but for its sign -/
theorem itoa_brief {e : Int} (he : -100000 ≤ e ∧ e ≤ 100000) : (Lib.itoa e).length ≤ 21 := by
  have := Lib.itoa_length_le e (by omega) (by omega)
  omega
def unT (D : List UInt8) (e : Int) : List UInt8 := ((D.take 1 ++ if 1 < D.length then [46] ++ D.drop 1 else []) ++ [101]) ++ Lib.itoa e
theorem unT_brief {D : List UInt8} {e : Int} (he : -100000 ≤ e ∧ e ≤ 100000) : (unT D e).length ≤ D.length + 25 := by
  have := itoa_brief he
  unfold unT
  rw [List.length_append, List.length_append, List.length_append, List.length_take]
  split
  · simp; omega
  · simp; omega
theorem itoa_short {e : Int} (he : -100000 ≤ e ∧ e ≤ 100000) : (Lib.itoa e).length ≤ 100 := by
  have := Lib.itoa_length_le e (by omega) (by omega)
  omega
attribute [local irreducible] W4
section
variable (n : Int) (Bp : Nat) (c : Int) (s g : Bool) (x : Int) (k : Nat) (w : World) (hT : Tab w) (hT10 : Tb10 w)
include hT
set_option maxHeartbeats 2000000 in
theorem wr_e (E : Int) (hE : (E != 0) = true) (c22 : ∀ W, Tab W → Calls Tryz.prog 22 #[.int .i64 n, A4 Bp] W fun r w' => r = .returned (.tuple #[DV c s g x k, .int .i64 E]) ∧ Below W.heap.size W w') :
    Calls Tryz.prog 12 #[.int .i64 n, A4 Bp] w fun r w' => r = .returned (.tuple #[.string (B []), .int .i64 E]) ∧ Below w.heap.size w w' := by
  have hsm := cell_set_map
  unfold DV A4 at *
  go_enter Tryz.func12, Tryz.ntmps12
  go_wp2_with (go_at_call 22; refine (c22 _ (hT.go bgo)).mono ?_; rintro r w1 ⟨rfl, hb1⟩; obtain ⟨hc1, hf1⟩ := bcell hb1; have hz1_0 : w.heap.size < w1.heap.size := lt_below hb1 ltg; have hl1_0 := Nat.le_of_lt hz1_0; have hA1 := bnext (w0 := w) bgo hb1; have hs1 := hA1.size; clear hb1)
  exact bodyPost_ret (v := .tuple #[.string ⟨#[]⟩, .int .i64 E]) (by simp only [results, Tryz.results12]; go_simp) rfl ⟨rfl, bgo⟩
include hT10
set_option maxHeartbeats 2000000 in
theorem wr_p (T : List UInt8) (hs : s = false) (c22 : ∀ W, Tab W → Calls Tryz.prog 22 #[.int .i64 n, A4 Bp] W fun r w' => r = .returned (.tuple #[DV c s g x k, .int .i64 0]) ∧ Below W.heap.size W w')
    (c39 : ∀ W, Tab W → Tb10 W → Calls Tryz.prog 39 #[.int .i64 n, DV c s g x k] W fun r w' => r = .returned (.string (B T)) ∧ Below W.heap.size W w') :
    Calls Tryz.prog 12 #[.int .i64 n, A4 Bp] w fun r w' => r = .returned (.tuple #[.string (B T), .int .i64 0]) ∧ Below w.heap.size w w' := by
  subst hs
  have hsm := cell_set_map
  unfold DV A4 at *
  go_enter Tryz.func12, Tryz.ntmps12
  go_wp2_with (first
    | (go_at_call 22; refine (c22 _ (hT.go bgo)).mono ?_; rintro r w1 ⟨rfl, hb1⟩; obtain ⟨hc1, hf1⟩ := bcell hb1; have hz1_0 : w.heap.size < w1.heap.size := lt_below hb1 ltg; have hl1_0 := Nat.le_of_lt hz1_0; have hA1 := bnext (w0 := w) bgo hb1; have hs1 := hA1.size; clear hb1)
    | (go_at_call 39; refine (c39 _ (hT.go bgo) (hT10.next bgo)).mono ?_; rintro r w2 ⟨rfl, hb2⟩; obtain ⟨hc2, hf2⟩ := bcell hb2; have hz2_0 : w.heap.size < w2.heap.size := lt_below hb2 ltg; have hl2_0 := Nat.le_of_lt hz2_0; have hz2_1 : w1.heap.size < w2.heap.size := lt_below hb2 ltg; have hl2_1 := Nat.le_of_lt hz2_1; have hA2 := bnext (w0 := w) bgo hb2; have hs2 := hA2.size; clear hb2))
  exact bodyPost_ret (v := .tuple #[.string (B T), .int .i64 0]) (by simp only [results, Tryz.results12]; go_simp) rfl ⟨rfl, bgo⟩
set_option maxHeartbeats 2000000 in
theorem wr_m (T : List UInt8) (hl : T.length ≤ 100000) (hs : s = true) (c22 : ∀ W, Tab W → Calls Tryz.prog 22 #[.int .i64 n, A4 Bp] W fun r w' => r = .returned (.tuple #[DV c s g x k, .int .i64 0]) ∧ Below W.heap.size W w')
    (c39 : ∀ W, Tab W → Tb10 W → Calls Tryz.prog 39 #[.int .i64 n, DV c s g x k] W fun r w' => r = .returned (.string (B T)) ∧ Below W.heap.size W w') :
    Calls Tryz.prog 12 #[.int .i64 n, A4 Bp] w fun r w' => r = .returned (.tuple #[.string (B ([45] ++ T)), .int .i64 0]) ∧ Below w.heap.size w w' := by
  subst hs
  have htl := B_toList
  have hsm := cell_set_map
  have p0 : (⟨#[45]⟩ : ByteArray) ++ B T = B ([45] ++ T) := B_app [45] T
  have z0 : (B T).size = T.length := B_size T
  generalize [45] ++ T = T2 at *
  unfold DV A4 at *
  go_enter Tryz.func12, Tryz.ntmps12
  go_wp2_with (first
    | (go_at_call 22; refine (c22 _ (hT.go bgo)).mono ?_; rintro r w1 ⟨rfl, hb1⟩; obtain ⟨hc1, hf1⟩ := bcell hb1; have hz1_0 : w.heap.size < w1.heap.size := lt_below hb1 ltg; have hl1_0 := Nat.le_of_lt hz1_0; have hA1 := bnext (w0 := w) bgo hb1; have hs1 := hA1.size; clear hb1)
    | (go_at_call 39; refine (c39 _ (hT.go bgo) (hT10.next bgo)).mono ?_; rintro r w2 ⟨rfl, hb2⟩; obtain ⟨hc2, hf2⟩ := bcell hb2; have hz2_0 : w.heap.size < w2.heap.size := lt_below hb2 ltg; have hl2_0 := Nat.le_of_lt hz2_0; have hz2_1 : w1.heap.size < w2.heap.size := lt_below hb2 ltg; have hl2_1 := Nat.le_of_lt hz2_1; have hA2 := bnext (w0 := w) bgo hb2; have hs2 := hA2.size; clear hb2))
  exact bodyPost_ret (v := .tuple #[.string (B T2), .int .i64 0]) (by simp only [results, Tryz.results12]; go_simp) rfl ⟨rfl, bgo⟩
end
end Go.Proofs.YtoobncgmcnmgjaaGreatDoor

namespace Go.Proofs.YtoobncgmcnmgjaaGreatDoor
open Go.RowKit

section
variable (D : List UInt8) (e : Int) (w : World) (hT10 : Tb10 w) (he : -100000 ≤ e ∧ e ≤ 100000)
include hT10 he
set_option maxHeartbeats 4000000 in
theorem ltext_1 (hD : D.length = 1) : Calls Tryz.prog 72 #[.string (B D), .int .i64 e] w fun r w' => r = .returned (.string (B (unT D e))) ∧ Below w.heap.size w w' := by
  have hi := itoa_short he
  have c53 := fun W (h : Tb10 W) => itoa_any e W (by omega) h
  have htl := B_toList
  have hsz : (B D).size = 1 := by rw [B_size, hD]
  have HU : Hid (unT D e = (D ++ [101]) ++ Lib.itoa e) := by
    show _ = _
    unfold unT
    rw [if_neg (by omega), List.append_nil, List.take_of_length_le (by omega)]
  have ht : (B D).extract 0 1 = B D := by rw [B_ext, List.drop_zero, List.take_of_length_le (by omega)]
  have p0 : B D ++ (⟨#[101]⟩ : ByteArray) = B (D ++ [101]) := B_app D [101]
  have z0 : (B (D ++ [101])).size = 2 := by rw [B_size, List.length_append, hD]; rfl
  have p1 : B (D ++ [101]) ++ B (Lib.itoa e) = B ((D ++ [101]) ++ Lib.itoa e) := B_app _ _
  obtain ⟨il, hil⟩ : ∃ il, (Lib.itoa e).length = il := ⟨_, rfl⟩
  have z2 : (B (Lib.itoa e)).size = il := by rw [B_size]; exact hil
  have hil2 : il ≤ 100 := by omega
  have hemp : D.isEmpty = false := by cases D with | nil => exact absurd hD (by decide) | cons y ys => rfl
  clear hD hi hil
  generalize hL0 : D ++ [101] = L0 at *
  clear hL0
  generalize Lib.itoa e = I at *
  generalize hL1 : L0 ++ I = L1 at *
  clear hL1
  go_enter Tryz.func72, Tryz.ntmps72
  go_wp2_with (go_at_call 53; refine (c53 _ (hT10.next bgo)).mono ?_; rintro r w3 ⟨rfl, hb3⟩)
  go_ret
  exact ⟨by rw [HU.out]; rfl, hb3⟩
set_option maxHeartbeats 4000000 in
theorem ltext_m (hD : 1 < D.length) (hD2 : D.length ≤ 4000) : Calls Tryz.prog 72 #[.string (B D), .int .i64 e] w fun r w' => r = .returned (.string (B (unT D e))) ∧ Below w.heap.size w w' := by
  have hi := itoa_short he
  have c53 := fun W (h : Tb10 W) => itoa_any e W (by omega) h
  have htl := B_toList
  obtain ⟨m, hm⟩ : ∃ m, D.length = m + 2 := ⟨D.length - 2, by omega⟩
  have hsz : (B D).size = m + 2 := by rw [B_size, hm]
  have HU : Hid (unT D e = ((D.take 1 ++ ([46] ++ D.drop 1)) ++ [101]) ++ Lib.itoa e) := by
    show _ = _
    unfold unT
    rw [if_pos hD]
  have ht : (B D).extract 0 1 = B (D.take 1) := by rw [B_ext, List.drop_zero]
  have hd : (B D).extract 1 (m + 2) = B (D.drop 1) := by have := B_drop D 1; rw [hsz] at this; exact this
  have hm2 : m ≤ 4000 := by omega
  have q0 : (⟨#[46]⟩ : ByteArray) ++ B (D.drop 1) = B ([46] ++ D.drop 1) := B_app [46] _
  have y0 : (B (D.drop 1)).size = m + 1 := by rw [B_size, List.length_drop, hm]; omega
  have y1 : (B ([46] ++ D.drop 1)).size = m + 2 := by rw [B_size, List.length_append, List.length_drop, hm]; simp; omega
  have y2 : (B (D.take 1)).size = 1 := by rw [B_size, List.length_take, hm]; omega
  have p0 : B (D.take 1) ++ B ([46] ++ D.drop 1) = B (D.take 1 ++ ([46] ++ D.drop 1)) := B_app _ _
  have z0 : (B (D.take 1 ++ ([46] ++ D.drop 1))).size = m + 3 := by rw [B_size] at y1 y2 ⊢; rw [List.length_append, y1, y2]; omega
  have p1 : B (D.take 1 ++ ([46] ++ D.drop 1)) ++ (⟨#[101]⟩ : ByteArray) = B ((D.take 1 ++ ([46] ++ D.drop 1)) ++ [101]) := B_app _ [101]
  have z1 : (B ((D.take 1 ++ ([46] ++ D.drop 1)) ++ [101])).size = m + 4 := by rw [B_size] at z0 ⊢; rw [List.length_append, z0]; rfl
  have p2 : B ((D.take 1 ++ ([46] ++ D.drop 1)) ++ [101]) ++ B (Lib.itoa e) = B (((D.take 1 ++ ([46] ++ D.drop 1)) ++ [101]) ++ Lib.itoa e) := B_app _ _
  obtain ⟨il, hil⟩ : ∃ il, (Lib.itoa e).length = il := ⟨_, rfl⟩
  have z2 : (B (Lib.itoa e)).size = il := by rw [B_size]; exact hil
  have hil2 : il ≤ 100 := by omega
  have hemp : D.isEmpty = false := by cases D with | nil => exact absurd hD (by decide) | cons y ys => rfl
  clear hD hD2 hm hi hil
  generalize Lib.itoa e = I at *
  generalize hL3 : ((D.take 1 ++ ([46] ++ D.drop 1)) ++ [101]) ++ I = L3 at *
  generalize hL2 : (D.take 1 ++ ([46] ++ D.drop 1)) ++ [101] = L2 at *
  generalize hL1 : D.take 1 ++ ([46] ++ D.drop 1) = L1 at *
  generalize hL0 : [46] ++ D.drop 1 = L0 at *
  generalize hA : D.take 1 = A0 at *
  generalize hB : D.drop 1 = B0 at *
  clear hL3 hL2 hL1 hL0 hA hB
  go_enter Tryz.func72, Tryz.ntmps72
  go_wp2_with (go_at_call 53; refine (c53 _ (hT10.next bgo)).mono ?_; rintro r w3 ⟨rfl, hb3⟩)
  go_ret
  exact ⟨by rw [HU.out]; rfl, hb3⟩
end
theorem ltext_v (D : List UInt8) (e : Int) (w : World) (hT10 : Tb10 w) (he : -100000 ≤ e ∧ e ≤ 100000) (hD : 1 ≤ D.length) (hD2 : D.length ≤ 4000) : Calls Tryz.prog 72 #[.string (B D), .int .i64 e] w fun r w' => r = .returned (.string (B (unT D e))) ∧ Below w.heap.size w w' := by
  by_cases h : D.length = 1
  · exact ltext_1 D e w hT10 he h
  · exact ltext_m D e w hT10 he (by omega) hD2
end Go.Proofs.YtoobncgmcnmgjaaGreatDoor

namespace Go.Proofs.YtoobncgmcnmgjaaGreatDoor
open Go.RowKit

attribute [local irreducible] W4
section
variable (n : Int) (s g : Bool) (x : Int) (k : Nat) (D : List UInt8) (e : Int) (w : World) (hT : Tab w) (hT10 : Tb10 w) (he : -100000 ≤ e ∧ e ≤ 100000)
  (c23 : ∀ W, Calls Tryz.prog 23 #[DV 1 s g x k] W fun r w' => r = .returned (.bool false) ∧ Below W.heap.size W w')
  (c24 : ∀ W, Tab W → Calls Tryz.prog 24 #[.int .i64 n, DV 1 s g x k] W fun r w' => r = .returned (.tuple #[.string (B D), .int .i64 e]) ∧ Below W.heap.size W w')
include hT hT10 he c23 c24
set_option maxHeartbeats 4000000 in
theorem uns_x (T : List UInt8) (c26 : ∀ W, Tb10 W → Calls Tryz.prog 72 #[.string (B D), .int .i64 e] W fun r w' => r = .returned (.string (B T)) ∧ Below W.heap.size W w') : Calls Tryz.prog 39 #[.int .i64 n, DV 1 s g x k] w fun r w' => r = .returned (.string (B T)) ∧ Below w.heap.size w w' := by
  have hsm := cell_set_map
  unfold DV at *
  go_enter Tryz.func39, Tryz.ntmps39
  go_wp2_with (first
    | (go_at_call 23; refine (c23 _).mono ?_; rintro r w1 ⟨rfl, hb1⟩; obtain ⟨hc1, hf1⟩ := bcell hb1; have hz1_0 : w.heap.size < w1.heap.size := lt_below hb1 ltg; have hl1_0 := Nat.le_of_lt hz1_0; have hA1 := bnext (w0 := w) bgo hb1; have hs1 := hA1.size; clear hb1)
    | (go_at_call 24; refine (c24 _ (hT.go bgo)).mono ?_; rintro r w2 ⟨rfl, hb2⟩; obtain ⟨hc2, hf2⟩ := bcell hb2; have hz2_0 : w.heap.size < w2.heap.size := lt_below hb2 ltg; have hl2_0 := Nat.le_of_lt hz2_0; have hA2 := bnext (w0 := w) bgo hb2; have hs2 := hA2.size; clear hb2)
    | (go_at_call 72; refine (c26 _ (hT10.next bgo)).mono ?_; rintro r w3 ⟨rfl, hb3⟩; obtain ⟨hc3, hf3⟩ := bcell hb3; have hz3_0 : w.heap.size < w3.heap.size := lt_below hb3 ltg; have hl3_0 := Nat.le_of_lt hz3_0; have hA3 := bnext (w0 := w) bgo hb3; have hs3 := hA3.size; clear hb3))
  go_ret
  exact ⟨rfl, bgo⟩
theorem uns_1 (hD : D.length = 1) : Calls Tryz.prog 39 #[.int .i64 n, DV 1 s g x k] w fun r w' => r = .returned (.string (B (unT D e))) ∧ Below w.heap.size w w' :=
  uns_x n s g x k D e w hT hT10 he c23 c24 _ fun W hW => ltext_v D e W hW he (by omega) (by omega)
theorem uns_m (hD : 1 < D.length) (hD2 : D.length ≤ 1000) : Calls Tryz.prog 39 #[.int .i64 n, DV 1 s g x k] w fun r w' => r = .returned (.string (B (unT D e))) ∧ Below w.heap.size w w' :=
  uns_x n s g x k D e w hT hT10 he c23 c24 _ fun W hW => ltext_v D e W hW he (by omega) (by omega)
end
end Go.Proofs.YtoobncgmcnmgjaaGreatDoor

namespace Go.Proofs.YtoobncgmcnmgjaaGreatDoor
open Go.RowKit

theorem third_shd : Shd 3 (-27) 13421773 (-1) 0 := ⟨by unfold tnP zE oE; decide, by unfold tnP zE oE; decide, by decide, fun j hj => by omega⟩
theorem third_un : unD 3 1036831949 = ⟨1, false, false, -27, 13421773⟩ ∧ unE 3 1036831949 = 0 := ⟨by kernel_rfl, by kernel_rfl⟩
theorem third_T : sdT 3 (-27) 13421773 (-1) 0 = [49] ∧ sdC 3 (-27) 13421773 (-1) 0 = 0 := by decide
/-- a tenth is written -/
theorem write_tenth (w : World) (hT : Tab w) (hT10 : Tb10 w) : Calls Tryz.prog 12 #[.int .i64 3, A4 1036831949] w fun r w' => r = .returned (.tuple #[.string (B [49, 101, 45, 49]), .int .i64 0]) ∧ Below w.heap.size w w' := by
  have hb : binN 3 := by decide
  refine wr_p 3 1036831949 1 false false (-27) 13421773 w hT hT10 [49, 101, 45, 49] rfl (fun W hW => ?_) (fun W hW hW10 => ?_)
  · have := unpack_any 3 1036831949 W hW (by decide)
    rw [third_un.1, third_un.2] at this
    exact this
  · have c24 : ∀ W, Tab W → Calls Tryz.prog 24 #[.int .i64 3, DV 1 false false (-27) 13421773] W fun r w' => r = .returned (.tuple #[.string (B [49]), .int .i64 (-1)]) ∧ Below W.heap.size W w' := fun W hW => by
      have := digitsOf_v (n := 3) 1 false false W hW hb (by decide) (by decide) (by decide) third_shd
      rw [third_T.1, third_T.2] at this
      exact this
    have c23 : ∀ W, Calls Tryz.prog 23 #[DV 1 false false (-27) 13421773] W fun r w' => r = .returned (.bool false) ∧ Below W.heap.size W w' := fun W => none_v 1 false false (-27) 13421773 W (by decide)
    have eu : unT [49] (-1) = [49, 101, 45, 49] := by kernel_rfl
    have := uns_1 3 false false (-27) 13421773 [49] (-1) W hW hW10 (by decide) c23 c24 rfl
    rw [eu] at this
    exact this
theorem A4_third : A4 1036831949 = .agg #[.int .u64 1036831949, .int .u64 0, .int .u64 0, .int .u64 0] := by unfold A4; rw [show W4 1036831949 0 = 1036831949 by decide, show W4 1036831949 1 = 0 by decide, show W4 1036831949 2 = 0 by decide, show W4 1036831949 3 = 0 by decide]
attribute [local irreducible] W4
set_option maxHeartbeats 1000000 in
theorem awake9 (w : World) (hT : Tab w) (hT10 : Tb10 w) : Calls Tryz.prog 9 #[] w fun r w' => r = .returned (.bool true) ∧ Below w.heap.size w w' := by
  have c12 := fun W (h1 : Tab W) (h2 : Tb10 W) => write_tenth W h1 h2
  rw [A4_third] at c12
  have eb : B [49, 101, 45, 49] = ⟨#[49, 101, 45, 49]⟩ := rfl
  rw [eb] at c12
  go_enter Tryz.func9, Tryz.ntmps9
  go_wp2_with (go_at_call 12; refine (c12 _ (hT.go bgo) (hT10.next bgo)).mono ?_; rintro r w1 ⟨rfl, hb1⟩)
  go_ret
  exact ⟨rfl, hb1⟩
theorem sd_len {n x : Int} {k : Nat} {E : Int} {K : Nat} (hk : k < 2 ^ 256) (hk0 : k ≠ 0) (h : Shd n x k E K) : (sdT n x k E K).length = K + 1 := by
  unfold sdT shT
  split
  · rename_i h10
    have hRZ : 4 * k * oE x E < 10 * zE x E := by
      rcases Nat.lt_or_ge (4 * k * oE x E) (10 * zE x E) with h' | h'
      · exact h'
      · exact absurd (tn_next.2 h') h.t1
    rcases Nat.eq_zero_or_pos K with e | e
    · rw [e]; rfl
    · have := la_lt (zE_pos x E) e hRZ h.mn
      omega
  · rw [List.length_append, dsN_len]; rfl
end Go.Proofs.YtoobncgmcnmgjaaGreatDoor

namespace Go.Proofs.YtoobncgmcnmgjaaGreatDoor
open Go.RowKit

set_option maxHeartbeats 400000 in
theorem trimRB_any (b n c : Nat) (f : Nat → Int) (w : World) (hn : n < 4294967296) (hnc : n ≤ c) (hc2 : c ≤ maxLen) (hf : ∀ i, 0 ≤ f i ∧ f i ≤ 9) (hc : ∀ i, i < n → w.cell? ⟨b, i, none⟩ = some (.int .u8 (48 + f i))) :
    Calls Tryz.prog 162 #[.slice (some ⟨b, 0, none⟩) n c, .int .u8 48] w fun e w' => e = .returned (.slice (some ⟨b, 0, none⟩) (sizeL f n) c) ∧ w = w' := by
  unfold maxLen at hc2
  go_enter Tryz.func162, Tryz.ntmps162
  go_wp2
  go_loop [0] (fun t => ∃ k : Nat, k ≤ n ∧ sizeL f k = sizeL f n ∧ t = .slice (some ⟨b, 0, none⟩) k c) (fun t => match t with | .slice _ k _ => k | _ => 0)
  case atStart => exact ⟨n, Nat.le_refl _, rfl, rfl⟩
  case round =>
    obtain ⟨k, hk, hs, rfl⟩ := hrel
    by_cases h0 : k = 0
    · subst h0
      have HS : Hid (sizeL f n = 0) := hs.symm
      clear hs hc
      go_wp2
      go_ret
      exact ⟨by rw [HS.out]; rfl, rfl⟩
    · obtain ⟨j, rfl⟩ : ∃ j, k = j + 1 := ⟨k - 1, by omega⟩
      have hcj := hc j (by omega)
      have hfj := hf j
      by_cases hzj : f j = 0
      · have HS : Hid (sizeL f j = sizeL f n) := by
          have : sizeL f (j + 1) = sizeL f j := by simp [sizeL, hzj]
          exact this.symm.trans hs
        clear hs hc hf
        rw [hzj] at hcj
        go_wp2
        go_round
        case rel => exact ⟨j, by omega, HS.out, rfl⟩
        case measure => simp
      · have HS : Hid (sizeL f n = j + 1) := by
          have : sizeL f (j + 1) = j + 1 := by simp [sizeL, hzj]
          exact hs.symm.trans this
        have hne : (48 + f j == 48) = false := by simp; omega
        clear hs hc hf
        go_wp2
        go_ret
        exact ⟨by rw [HS.out]; rfl, rfl⟩

set_option maxRecDepth 20000 in
set_option maxHeartbeats 400000 in
theorem trimRight_any (b n c : Nat) (f : Nat → Int) (w : World) (hn : n < 4294967296) (hnc : n ≤ c) (hc2 : c ≤ maxLen) (hf : ∀ i, 0 ≤ f i ∧ f i ≤ 9) (hc : ∀ i, i < n → w.cell? ⟨b, i, none⟩ = some (.int .u8 (48 + f i))) :
    Calls Tryz.prog 134 #[.slice (some ⟨b, 0, none⟩) n c, .string ⟨#[48]⟩] w fun e w' => e = .returned (.slice (some ⟨b, 0, none⟩) (sizeL f n) c) ∧ w = w' := by
  have hT := trimRB_any b n c f w hn hnc hc2 hf hc
  clear hf
  by_cases h0 : n = 0
  · subst h0
    clear hT hc
    go_enter Tryz.func134, Tryz.ntmps134
    go_wp2
    go_ret
    exact ⟨rfl, rfl⟩
  · have hn0 : ((n : Int) == 0) = false := by simp; omega
    clear hc
    generalize sizeL f n = s at *
    go_enter Tryz.func134, Tryz.ntmps134
    have h48 : ∀ h, ((⟨#[48]⟩ : ByteArray)[0]'h).toNat = 48 := fun _ => rfl
    go_wp2_with (go_at_call 162; refine hT.mono ?_; rintro e w' ⟨rfl, rfl⟩)
    go_ret
    exact ⟨rfl, rfl⟩
set_option maxHeartbeats 400000 in
theorem trimRight_nil (w : World) :
    Calls Tryz.prog 134 #[.slice none 0 0, .string ⟨#[48]⟩] w fun e w' => e = .returned (.slice none 0 0) ∧ w = w' := by
  go_enter Tryz.func134, Tryz.ntmps134
  go_wp2
  go_ret
  exact ⟨rfl, rfl⟩
end Go.Proofs.YtoobncgmcnmgjaaGreatDoor

namespace Go.Proofs
open Go.Shelf
def Tryz.laysRev_ren : Go.Shelf.Ren := ⟨fun | 35 => 135 | n => n, fun | 22 => 80 | 23 => 5 | 3 => 3 | 4 => 4 | 0 => 0 | n => n, fun | n => n⟩
theorem Tryz.laysRev : Go.Proofs.SlLaysE.n35 Tryz.prog Tryz.laysRev_ren := {
  mixed := by kernel_rfl
  f35 := ⟨Tryz.f135.name, by decide, Tryz.func135.trans (congrArg some (by kernel_rfl))⟩
  t0 := Tryz.underlying0
  a0 := Tryz.isAgg0
  z0 := Tryz.sizeOf0
  v0 := Tryz.zeroValue0
  t3 := Tryz.underlying3
  a3 := Tryz.isAgg3
  z3 := Tryz.sizeOf3
  v3 := Tryz.zeroValue3
  t4 := Tryz.underlying4
  a4 := Tryz.isAgg4
  z4 := Tryz.sizeOf4
  v4 := Tryz.zeroValue4
  t22 := Tryz.underlying80
  a22 := Tryz.isAgg80
  z22 := Tryz.sizeOf80
  v22 := Tryz.zeroValue80
  a23 := Tryz.isAgg5
  z23 := Tryz.sizeOf5 }
end Go.Proofs
set_option maxRecDepth 20000
set_option linter.unusedSectionVars false
set_option linter.unusedSimpArgs false
namespace Go.Proofs.YtoobncgmcnmgjaaGreatDoor
open Go.RowKit Go.Sort


theorem reverse_any (g n c : Nat) (f : Nat → Int) (w : World) (hn : n < 4294967296) (h : HasB g n f w) :
    Calls Tryz.prog 135 #[.slice (some ⟨g, 0, none⟩) n c] w fun e w' => e = .returned (.tuple #[]) ∧ HasB g n (fun i => f (n - 1 - i)) w' ∧ Upd g w w' := by
  obtain ⟨hg, hc⟩ := h
  have hl : ((List.range n).map f).length = n := by simp
  have hH : Holds (Value.int .u8) w g 0 ((List.range n).map f).toArray := by
    intro j hj
    have hj' : j < n := by simpa using hj
    have := hc j hj'
    rw [Nat.zero_add]
    refine ⟨?_, this.2⟩
    rw [this.1, getElem!_pos _ j hj]
    simp
  have hR := AnyE.slices_Reverse Tryz.laysRev (Value.int .u8) (fun _ => rfl) g 0 c ((List.range n).map f) w hH (by rw [hl]; omega)
  rw [hl] at hR
  refine Calls.mono hR ?_
  rintro e w' ⟨rfl, m, rfl⟩
  have hs : ((List.range n).map f).reverse.toArray.size = ((List.range n).map f).toArray.size := by simp
  refine ⟨rfl, ⟨by simpa using hg, fun i hi => ?_⟩, ?_⟩
  · have hh := holds_putRow (Value.int .u8) (Sort.ahead w m) g 0 _ ((List.range n).map f).reverse.toArray (holds_ahead _ _ _ _ _ _ hH) hs i (by simpa using hi)
    rw [Nat.zero_add] at hh
    refine ⟨?_, hh.2⟩
    rw [hh.1, getElem!_pos _ i (by simpa using hi)]
    simp
  · refine ⟨rfl, rfl, rfl, by simp, fun k hk => ?_⟩
    simp only [putRow, mapBlock, Array.getElem?_modify]
    rw [if_neg (fun e => hk e.symm)]
    rfl
end Go.Proofs.YtoobncgmcnmgjaaGreatDoor

namespace Go.Proofs.YtoobncgmcnmgjaaGreatDoor
open Go.RowKit

set_option maxHeartbeats 2000000 in
theorem ndigits_any (a : Option Addr) (n c : Nat) (x : Nat → Int) (w : World) (hn : n < 4294967296) (h : Num w a n c x) (hsz : sizeL x n ≤ 2000) :
    Calls Tryz.prog 104 #[.slice a n c] w fun e w' => ∃ L, val x n < 10 ^ L ∧ e = .returned (.tuple #[.string (strOfNums (decL (val x n) L)), .int .i64 0]) ∧ Below w.heap.size w w' := by
  have hb := bare_any a n c x w hn h
  have ht := ntrim_any a n c x w hn h
  obtain ⟨s, hs⟩ : ∃ s, sizeL x n = s := ⟨_, rfl⟩
  have hss := sizeL_sizeL x n
  have hx := h.2.2.1
  have hval : val x n = val x s := by rw [← hs]; exact val_more (sizeL_zero n h.2.2.2.1) n (sizeL_le x n)
  rw [hval]
  obtain ⟨V, hV⟩ : ∃ V, val x s = V := ⟨_, rfl⟩
  rw [hs] at hb ht hsz hss
  have hV0 : 0 ≤ V := by rw [← hV]; exact (val_bd hx s).1
  have hst0 : DigSt w V s x none 0 0 (w.alloc (.cells (arrOf x s) 22)) := ⟨Own.new w x s, World.ownsRow_nil _ _ _ _, below1 w _, by simp⟩
  rw [hV]
  have HVB : Hid (V < 18446744073709551616 ^ s) := by show _ < _; rw [← hV]; exact (val_bd hx s).2
  have HV : Hid (val x s = V) := hV
  have HSS : Hid (sizeL x s = s) := hss
  have HX : Hid (Words x) := hx
  clear h hval hs hV hss hx
  go_enter Tryz.func104, Tryz.ntmps104
  go_wp2_with (first | (go_at_call 125; refine hb.mono ?_; rintro e w' ⟨rfl, rfl⟩) | (go_at_call 132; refine ht.mono ?_; rintro e w' ⟨rfl, rfl⟩))
  generalize w.alloc (.cells (arrOf x s) 22) = wA at *
  go_loopw [4, 5, 6, 20] (fun dv lv u6 u20 wr => ∃ (L m cp : Nat) (ao : Option Addr) (z : Nat → Int), dv = .slice ao L cp ∧ lv = .slice (some ⟨w.heap.size, 0, none⟩) m s ∧ m ≤ s ∧ L ≤ 22 * s + 18 ∧ Words z ∧ sizeL z m = m ∧ val z m = V / 10 ^ L ∧ DigSt w V s z ao L cp wr) (fun dv _ _ _ _ => 22 * s + 19 - slLen dv)
  case atStart => exact ⟨0, s, 0, none, x, rfl, rfl, Nat.le_refl _, by omega, HX.out, HSS.out, by rw [HV.out]; simp, hst0⟩
  case round =>
    obtain ⟨L, m, cp, ao, z, rfl, rfl, hm, hLs, hz, hzm, hv, hst⟩ := hrel
    by_cases h0 : m = 0
    · subst h0
      have hVL : V < 10 ^ L := by
        have e : V / 10 ^ L = 0 := hv.symm
        have := Int.lt_mul_ediv_self_add (x := V) (k := 10 ^ L) (p10_pos L)
        rw [e] at this; simpa using this
      obtain ⟨hO, hown, hB, hsz2⟩ := hst
      have hown' := hown
      obtain ⟨hl, hcase⟩ := hown'
      rcases hcase with ⟨he, hL0⟩ | ⟨g, cap, cur, he, _⟩
      · cases he
        have hTn := trimRight_nil wr
        have HV2 : Hid (V < 10 ^ 0) := hVL
        have HB : Hid (Below w.heap.size w wr) := hB
        clear hVL hB hown hl hO hv hst0
        go_wp2_with (go_at_call 134; refine hTn.mono ?_; rintro e w' ⟨rfl, rfl⟩)
        go_ret2
        exact ⟨0, HV2.out, rfl, HB.out⟩
      · cases he
        obtain ⟨hbg, hLc, hcm, hHB⟩ := owns_cells hown
        have hTr := trimRight_any g L cp (dgt V) wr (by omega) hLc hcm (dgt_bd V) (fun i hi => (hHB.2 i hi).1)
        have hKL := sizeL_le (dgt V) L
        have hRv := reverse_any g (sizeL (dgt V) L) cp (fun i => 48 + dgt V i) wr (by omega) ⟨hHB.1, fun i hi => hHB.2 i (by omega)⟩
        have HD : Hid (decL V L = if sizeL (dgt V) L = 0 then [48] else (List.range (sizeL (dgt V) L)).map fun i => 48 + dgt V (sizeL (dgt V) L - 1 - i)) := rfl
        have HV2 : Hid (V < 10 ^ L) := hVL
        have HB : Hid (Below w.heap.size w wr) := hB
        have HG : Hid (w.heap.size ≤ g) := by show _ ≤ _; omega
        generalize sizeL (dgt V) L = K at *
        clear hVL hB hown hl hO hv hst0 hHB
        by_cases hK : K = 0
        · subst hK
          have HD0 : Hid (strOfNums (decL V L) = ⟨#[48]⟩) := by show _ = _; rw [HD.out]; rfl
          clear HD hRv
          go_wp2_with (go_at_call 134; refine hTr.mono ?_; rintro e w' ⟨rfl, rfl⟩)
          go_ret2
          exact ⟨L, HV2.out, by rw [HD0.out]; rfl, HB.out⟩
        · have hK0 : ((K : Int) == 0) = false := by simp; omega
          rw [if_neg hK] at HD
          go_wp2_with (first | (go_at_call 134; refine hTr.mono ?_; rintro e w' ⟨rfl, rfl⟩) | (go_at_call 135; refine hRv.mono ?_; rintro e w2 ⟨rfl, hB2, hU2⟩; have hcv := run_convert_bytes_arg (P := Tryz.prog) w2 80 5 Tryz.underlying80 Tryz.underlying5 g 0 K cp (decL V L) (by rw [HD.out]; simp) (fun i hi => by rw [HD.out, Nat.zero_add, (hB2.2 i hi).1]; simp [hi]) 9 Tryz.underlying9))
          go_ret2
          exact ⟨L, HV2.out, rfl, HB.out.trans (hU2.below HG.out)⟩
    · have hm0 : (0 : Int) < m := by omega
      have hd := divideBy_any w.heap.size s m s z 10000000000000000000 wr hm (by omega) hz (by omega) hst.1
      have hL : L < 22 * s := by
        have h1 := val_pos hz m (by omega) hzm
        rw [hv] at h1
        refine p10_lt (Int.lt_of_le_of_lt ?_ HVB.out)
        have h2 := p10_pos L
        rcases Int.lt_or_le V (10 ^ L) with h3 | h3
        · rw [Int.ediv_eq_zero_of_lt hV0 h3] at h1; omega
        · exact h3
      have HZM : Hid (sizeL z m = m) := hzm
      have hq := quo_val hz (show (0 : Int) < 10000000000000000000 by decide) m
      have hr : V / 10 ^ L % 10 ^ 19 = remJ z 10000000000000000000 m m := by rw [hq.2, hv]; rfl
      have hrb := remJ_bd z 10000000000000000000 m m (by decide)
      have HW : Hid (Words (divZ z 10000000000000000000 m 0)) := divZ_words hz (by decide) m 0
      have HQ : Hid (val (divZ z 10000000000000000000 m 0) m = V / 10 ^ (L + 19)) := by
        show _ = _
        rw [val_congr (y := quoW z 10000000000000000000 m) m fun i hi => by unfold divZ; rw [if_pos (by omega)], hq.1, hv, ← div_div10]; rfl
      have HR : Hid (∀ j, j < 19 → remJ z 10000000000000000000 m m / 10 ^ j % 10 = dgt V (L + j)) := fun j hj => dgt_step hr hj
      generalize remJ z 10000000000000000000 m m = r at *
      generalize hz' : divZ z 10000000000000000000 m 0 = z' at *
      have HST : Hid (DigSt w V s z ao L cp wr) := hst
      clear hst hzm hq hr hv hz' hst0 hz
      go_wp2_with (go_at_call 133; refine hd.mono ?_; rintro e w1 ⟨rfl, hO1, hU1⟩)
      have hst1 : DigSt w V s z' ao L cp w1 := ⟨hO1, owns_upd HST.out.2.1 hU1 (by omega), HST.out.2.2.1.trans (hU1.below (Nat.le_refl _)), by rw [hU1.size]; exact HST.out.2.2.2⟩
      clear hO1 hU1 hd
      go_loopw [4, 6, 20] (fun dv pv cv wr => ∃ (j cp : Nat) (ao : Option Addr), j ≤ 19 ∧ dv = .slice ao (L + j) cp ∧ pv = .int .u64 (r / 10 ^ j) ∧ cv = .int .i64 j ∧ DigSt w V s z' ao (L + j) cp wr) (fun _ _ cv _ => 19 - (intOf cv).toNat)
      case atStart => exact ⟨0, cp, ao, by omega, rfl, by simp, rfl, hst1⟩
      case round =>
        clear hst1 HST
        obtain ⟨j, cp2, ao2, hj, rfl, rfl, rfl, hst2⟩ := hrel
        by_cases hj19 : j < 19
        · have hji : (j : Int) < 19 := by omega
          have hp : 0 ≤ r / 10 ^ j ∧ r / 10 ^ j ≤ 18446744073709551615 := by
            have h1 := p10_pos j
            have h2 := Int.ediv_nonneg hrb.1 (Int.le_of_lt h1)
            have h3 : r / 10 ^ j ≤ r := Int.ediv_le_self _ hrb.1
            omega
          have HP : Hid (r / 10 ^ (j + 1) = r / 10 ^ j / 10) := by
            show _ = _
            rw [Int.pow_succ, ← Int.ediv_ediv_of_nonneg (Int.le_of_lt (p10_pos j))]
          have HVAL : Hid (r / 10 ^ j % 10 = dgt V (L + j)) := HR.out j hj19
          generalize r / 10 ^ j = p at *
          obtain ⟨i0, hi, hz0, hz1, hz2⟩ := info_parts Tryz.info5
          obtain ⟨hO, hown, hB, hsz2⟩ := hst2
          have HOwn : Hid (Own w.heap.size s z' wr) := hO
          have HO : Hid (wr.ownsRow (w.heap.size + 1) 5 1 (.slice ao2 (L + j) cp2) (L + j) (blB V (L + j))) := hown
          have HOWN : (wr.alloc (.cells #[.int .u8 (48 + p % 10)] 5)).ownsRow (w.heap.size + 1) 5 1 (.slice ao2 (L + j) cp2) (L + j) (blB V (L + j)) := hown.alloc _
          have HNEWS : ∀ (q : Nat) (u : Value), [Value.int .u8 (48 + p % 10)][q]? = some u → (wr.alloc (.cells #[.int .u8 (48 + p % 10)] 5)).cell? ((⟨wr.heap.size, 0, none⟩ : Addr).add q) = some u := by
            intro q u hq
            match q, hq with
            | 0, hq => simp at hq; subst hq; simp [Addr.add]
          have HONE : ∀ u ∈ [Value.int .u8 (48 + p % 10)], u.oneCell' = true := by
            intro u hu; simp at hu; subst hu; rfl
          clear hO hown
          go_wp2_with (first | (at_builtin; refine wpList_append_lies _ rfl (.tmp 22) (.tmp 27) 80 rfl (w.heap.size + 1) 5 i0 (.int .u8 0) 1 1 Tryz.underlying80 hi hz0 hz1 hz2 rfl (by decide) (.slice ao2 (L + j) cp2) (L + j) (blB V (L + j)) rfl HOWN ⟨wr.heap.size, 0, none⟩ 1 1 [Value.int .u8 (48 + p % 10)] rfl rfl HNEWS HONE (by omega) (by unfold maxLen; omega) (by omega) (by simp; omega) (wr.heap.size + 1) (by simp) ?_; intro g cap w1 hown1 hgrow hat hlt1; clear HOWN HNEWS HONE))
          have hrow : ∀ q, (Value.slice ao2 (L + j) cp2).ownBlock = some q → w.heap.size + 1 ≤ q := by
            intro q hq
            rcases ao2 with _ | ⟨bb, oo, sp⟩
            · cases hq
            · cases hq
              obtain ⟨_, h1⟩ := HO.out
              rcases h1 with ⟨h1, _⟩ | ⟨g', _, _, h1, h2, _⟩
              · cases h1
              · cases h1; exact h2
          have hown2 : w1.ownsRow (w.heap.size + 1) 5 1 (.slice (some ⟨g, 0, none⟩) (L + (j + 1)) cap) (L + (j + 1)) (blB V (L + (j + 1))) := by
            rw [HVAL.out, blB_succ] at hown1; exact hown1
          have HB1 : Below (w.heap.size + 1) wr w1 := ((Below.refl _ wr).alloc hsz2 _).grown hgrow (by simp; omega) hrow
          have HST2 : DigSt w V s z' (some ⟨g, 0, none⟩) (L + (j + 1)) cap w1 := ⟨Below.own HB1 (by omega) HOwn.out, hown2, hB.trans (HB1.mono (by omega)), Nat.le_trans hsz2 HB1.size⟩
          clear hown1 hgrow hown2 HB1 hB hrow
          go_wp2
          go_roundw
          case rel => exact ⟨j + 1, cap, some ⟨g, 0, none⟩, by omega, rfl, by rw [HP.out], by go_num, HST2⟩
          case measure => simp [intOf]; omega
        · obtain rfl : j = 19 := by omega
          obtain ⟨m', hm'⟩ : ∃ m', sizeL z' m = m' := ⟨_, rfl⟩
          have hmle := sizeL_le z' m
          have hbr := bare_any (some ⟨w.heap.size, 0, none⟩) m s (segW z' 0 m) wr (by omega) (hst2.1.num HW.out 0 m s (by omega) hm (by unfold maxLen; omega))
          have e1 : sizeL (segW z' 0 m) m = m' := by rw [← hm']; exact sizeL_congr m fun i hi => by rw [segW_lt z' 0 m i hi, Nat.zero_add]
          rw [e1] at hbr
          rw [hm'] at hmle
          have HM1 : Hid (sizeL z' m' = m') := by show _ = _; rw [← hm']; exact sizeL_sizeL z' m
          have HM2 : Hid (val z' m' = V / 10 ^ (L + 19)) := by show _ = _; rw [← hm', val_bare, HQ.out]
          have HST : Hid (DigSt w V s z' ao2 (L + 19) cp2 wr) := hst2
          clear hst2 e1 hm'
          go_wp2_with (go_at_call 125; refine hbr.mono ?_; rintro e w2 ⟨rfl, rfl⟩)
          go_roundw
          case rel => exact ⟨L + 19, m', cp2, ao2, z', rfl, rfl, by omega, by omega, HW.out, HM1.out, HM2.out, HST.out⟩
          case measure => simp [slLen]; omega
end Go.Proofs.YtoobncgmcnmgjaaGreatDoor
