/-
  Texts that the proof leans on, joined: Wr9, Sy9.
-/
import Derived.Test.YtoobncgmcnmgjaaGreatDoorJ40
import Derived.Test.YtoobncgmcnmgjaaGreatDoorJ1
import Derived.Test.YtoobncgmcnmgjaaGreatDoorJ34
set_option linter.unusedVariables false
set_option linter.unusedSectionVars false
set_option linter.unusedSimpArgs false
set_option maxRecDepth 20000
namespace Go.Proofs.YtoobncgmcnmgjaaGreatDoor
open Go.RowKit

attribute [local irreducible] W4
section
variable (n : Int) (s g : Bool) (x : Int) (k : Nat) (w : World)
set_option maxHeartbeats 2000000 in
theorem uns_i : Calls Tryz.prog 39 #[.int .i64 n, DV 2 s g x k] w fun r w' => r = .returned (.string (B [105, 110, 102])) ∧ Below w.heap.size w w' := by
  have e : B [105, 110, 102] = ⟨#[105, 110, 102]⟩ := rfl
  rw [e]
  unfold DV
  go_enter Tryz.func39, Tryz.ntmps39
  go_wp2
  go_ret
  exact ⟨rfl, bgo⟩
set_option maxHeartbeats 2000000 in
theorem uns_n (T : List UInt8) (c71 : ∀ W, Calls Tryz.prog 71 #[DV 3 s g x k] W fun r w' => r = .returned (.string (B T)) ∧ Below W.heap.size W w') :
    Calls Tryz.prog 39 #[.int .i64 n, DV 3 s g x k] w fun r w' => r = .returned (.string (B T)) ∧ Below w.heap.size w w' := by
  have hsm := cell_set_map
  unfold DV at *
  go_enter Tryz.func39, Tryz.ntmps39
  go_wp2_with (go_at_call 71; refine (c71 _).mono ?_; rintro r w1 ⟨rfl, hb1⟩; obtain ⟨hc1, hf1⟩ := bcell hb1; have hz1_0 : w.heap.size < w1.heap.size := lt_below hb1 ltg; have hl1_0 := Nat.le_of_lt hz1_0; have hA1 := bnext (w0 := w) bgo hb1; have hs1 := hA1.size; clear hb1)
  go_ret
  exact ⟨rfl, bgo⟩
set_option maxHeartbeats 2000000 in
theorem uns_0 (c23 : ∀ W, Calls Tryz.prog 23 #[DV 1 s g x k] W fun r w' => r = .returned (.bool true) ∧ Below W.heap.size W w') :
    Calls Tryz.prog 39 #[.int .i64 n, DV 1 s g x k] w fun r w' => r = .returned (.string (B [48, 101, 48])) ∧ Below w.heap.size w w' := by
  have e : B [48, 101, 48] = ⟨#[48, 101, 48]⟩ := rfl
  rw [e]
  have hsm := cell_set_map
  unfold DV at *
  go_enter Tryz.func39, Tryz.ntmps39
  go_wp2_with (go_at_call 23; refine (c23 _).mono ?_; rintro r w1 ⟨rfl, hb1⟩; obtain ⟨hc1, hf1⟩ := bcell hb1; have hz1_0 : w.heap.size < w1.heap.size := lt_below hb1 ltg; have hl1_0 := Nat.le_of_lt hz1_0; have hA1 := bnext (w0 := w) bgo hb1; have hs1 := hA1.size; clear hb1)
  go_ret
  exact ⟨rfl, bgo⟩
end
section
variable (n : Int) (Bp : Nat) (c : Int) (s g : Bool) (x : Int) (k : Nat) (w : World) (hT10 : Tb10 w)
set_option maxHeartbeats 2000000 in
theorem rwr_e (E : Int) (hE : (E != 0) = true) (c16 : ∀ W, Calls Tryz.prog 16 #[.int .i64 n, A4 Bp] W fun r w' => r = .returned (.tuple #[DV c s g x k, .int .i64 E]) ∧ Below W.heap.size W w') :
    Calls Tryz.prog 13 #[.int .i64 n, A4 Bp] w fun r w' => r = .returned (.tuple #[.string (B []), .int .i64 E]) ∧ Below w.heap.size w w' := by
  have hsm := cell_set_map
  unfold DV A4 at *
  go_enter Tryz.func13, Tryz.ntmps13
  go_wp2_with (go_at_call 16; refine (c16 _).mono ?_; rintro r w1 ⟨rfl, hb1⟩; obtain ⟨hc1, hf1⟩ := bcell hb1; have hz1_0 : w.heap.size < w1.heap.size := lt_below hb1 ltg; have hl1_0 := Nat.le_of_lt hz1_0; have hA1 := bnext (w0 := w) bgo hb1; have hs1 := hA1.size; clear hb1)
  exact bodyPost_ret (v := .tuple #[.string ⟨#[]⟩, .int .i64 E]) (by simp only [results, Tryz.results13]; go_simp) rfl ⟨rfl, bgo⟩
variable (c16 : ∀ W, Calls Tryz.prog 16 #[.int .i64 n, A4 Bp] W fun r w' => r = .returned (.tuple #[DV c s g x k, .int .i64 0]) ∧ Below W.heap.size W w')
include hT10 c16
set_option maxHeartbeats 2000000 in
theorem rwr_c (hc : (c != 1) = true) (T : List UInt8) (c40 : ∀ W, Tb10 W → Calls Tryz.prog 40 #[DV c s g x k] W fun r w' => r = .returned (.string (B T)) ∧ Below W.heap.size W w') :
    Calls Tryz.prog 13 #[.int .i64 n, A4 Bp] w fun r w' => r = .returned (.tuple #[.string (B T), .int .i64 0]) ∧ Below w.heap.size w w' := by
  have hsm := cell_set_map
  unfold DV A4 at *
  go_enter Tryz.func13, Tryz.ntmps13
  go_wp2_with (first
    | (go_at_call 16; refine (c16 _).mono ?_; rintro r w1 ⟨rfl, hb1⟩; obtain ⟨hc1, hf1⟩ := bcell hb1; have hz1_0 : w.heap.size < w1.heap.size := lt_below hb1 ltg; have hl1_0 := Nat.le_of_lt hz1_0; have hA1 := bnext (w0 := w) bgo hb1; have hs1 := hA1.size; clear hb1)
    | (go_at_call 40; refine (c40 _ (hT10.next bgo)).mono ?_; rintro r w2 ⟨rfl, hb2⟩; obtain ⟨hc2, hf2⟩ := bcell hb2; have hz2_0 : w.heap.size < w2.heap.size := lt_below hb2 ltg; have hl2_0 := Nat.le_of_lt hz2_0; have hz2_1 : w1.heap.size < w2.heap.size := lt_below hb2 ltg; have hl2_1 := Nat.le_of_lt hz2_1; have hA2 := bnext (w0 := w) bgo hb2; have hs2 := hA2.size; clear hb2))
  exact bodyPost_ret (v := .tuple #[.string (B T), .int .i64 0]) (by simp only [results, Tryz.results13]; go_simp) rfl ⟨rfl, bgo⟩
variable (hc : c = 1)
include hc
set_option maxHeartbeats 2000000 in
theorem rwr_0 (h0 : k = 0) (T : List UInt8) (c20 : ∀ W, Tb10 W → Calls Tryz.prog 20 #[.bool s, .string ⟨#[48]⟩, .int .i64 0] W fun r w' => r = .returned (.string (B T)) ∧ Below W.heap.size W w') :
    Calls Tryz.prog 13 #[.int .i64 n, A4 Bp] w fun r w' => r = .returned (.tuple #[.string (B T), .int .i64 0]) ∧ Below w.heap.size w w' := by
  subst hc
  have h24 := eq24 (W4 k 0) (W4 k 1) (W4 k 2) (W4 k 3) 0 0 0 0
  rw [W4_none (by rw [h0]; decide), decide_eq_true h0] at h24
  clear h0
  have hsm := cell_set_map
  unfold DV A4 at *
  go_enter Tryz.func13, Tryz.ntmps13
  go_wp2_with (first
    | (go_at_call 16; refine (c16 _).mono ?_; rintro r w1 ⟨rfl, hb1⟩; obtain ⟨hc1, hf1⟩ := bcell hb1; have hz1_0 : w.heap.size < w1.heap.size := lt_below hb1 ltg; have hl1_0 := Nat.le_of_lt hz1_0; have hA1 := bnext (w0 := w) bgo hb1; have hs1 := hA1.size; clear hb1)
    | (go_at_call 20; refine (c20 _ (hT10.next bgo)).mono ?_; rintro r w2 ⟨rfl, hb2⟩; obtain ⟨hc2, hf2⟩ := bcell hb2; have hz2_0 : w.heap.size < w2.heap.size := lt_below hb2 ltg; have hl2_0 := Nat.le_of_lt hz2_0; have hz2_1 : w1.heap.size < w2.heap.size := lt_below hb2 ltg; have hl2_1 := Nat.le_of_lt hz2_1; have hA2 := bnext (w0 := w) bgo hb2; have hs2 := hA2.size; clear hb2))
  exact bodyPost_ret (v := .tuple #[.string (B T), .int .i64 0]) (by simp only [results, Tryz.results13]; go_simp) rfl ⟨rfl, bgo⟩
set_option maxHeartbeats 2000000 in
theorem rwr_k (hk : k < 2 ^ 256) (hk0 : k ≠ 0) (D T : List UInt8) (at_ : Int) (c11 : ∀ W, Calls Tryz.prog 11 #[.int .i64 n, A4 Bp] W fun r w' => r = .returned (.tuple #[.string (B D), .int .i64 at_, .int .i64 0]) ∧ Below W.heap.size W w')
    (c20 : ∀ W, Tb10 W → Calls Tryz.prog 20 #[.bool s, .string (B D), .int .i64 at_] W fun r w' => r = .returned (.string (B T)) ∧ Below W.heap.size W w') :
    Calls Tryz.prog 13 #[.int .i64 n, A4 Bp] w fun r w' => r = .returned (.tuple #[.string (B T), .int .i64 0]) ∧ Below w.heap.size w w' := by
  subst hc
  have h24 := eq24 (W4 k 0) (W4 k 1) (W4 k 2) (W4 k 3) 0 0 0 0
  rw [W4_none hk, decide_eq_false hk0] at h24
  clear hk0
  have hsm := cell_set_map
  unfold DV A4 at *
  go_enter Tryz.func13, Tryz.ntmps13
  go_wp2_with (first
    | (go_at_call 16; refine (c16 _).mono ?_; rintro r w1 ⟨rfl, hb1⟩; obtain ⟨hc1, hf1⟩ := bcell hb1; have hz1_0 : w.heap.size < w1.heap.size := lt_below hb1 ltg; have hl1_0 := Nat.le_of_lt hz1_0; have hA1 := bnext (w0 := w) bgo hb1; have hs1 := hA1.size; clear hb1)
    | (go_at_call 11; refine (c11 _).mono ?_; rintro r w2 ⟨rfl, hb2⟩; obtain ⟨hc2, hf2⟩ := bcell hb2; have hz2_0 : w.heap.size < w2.heap.size := lt_below hb2 ltg; have hl2_0 := Nat.le_of_lt hz2_0; have hz2_1 : w1.heap.size < w2.heap.size := lt_below hb2 ltg; have hl2_1 := Nat.le_of_lt hz2_1; have hA2 := bnext (w0 := w) bgo hb2; have hs2 := hA2.size; clear hb2)
    | (go_at_call 20; refine (c20 _ (hT10.next bgo)).mono ?_; rintro r w3 ⟨rfl, hb3⟩; obtain ⟨hc3, hf3⟩ := bcell hb3; have hz3_0 : w.heap.size < w3.heap.size := lt_below hb3 ltg; have hl3_0 := Nat.le_of_lt hz3_0; have hz3_1 : w1.heap.size < w3.heap.size := lt_below hb3 ltg; have hl3_1 := Nat.le_of_lt hz3_1; have hA3 := bnext (w0 := w) bgo hb3; have hs3 := hA3.size; clear hb3))
  exact bodyPost_ret (v := .tuple #[.string (B T), .int .i64 0]) (by simp only [results, Tryz.results13]; go_simp) rfl ⟨rfl, bgo⟩
end
set_option maxHeartbeats 2000000 in
theorem law4_w (n : Int) (V : Nat) (T : List UInt8) (e : Int) (w : World) (hT : Tab w) (hT10 : Tb10 w)
    (c9 : ∀ W, Below w.heap.size w W → Calls Tryz.prog 9 #[] W fun r w' => r = .returned (.bool true) ∧ Below W.heap.size W w')
    (c12 : ∀ W, Tab W → Tb10 W → Calls Tryz.prog 12 #[.int .i64 n, A4 V] W fun r w' => r = .returned (.tuple #[.string (B T), .int .i64 e]) ∧ Below W.heap.size W w')
    (c13 : ∀ W, Tb10 W → Calls Tryz.prog 13 #[.int .i64 n, A4 V] W fun r w' => r = .returned (.tuple #[.string (B T), .int .i64 e]) ∧ Below W.heap.size W w') :
    Calls Tryz.prog 4 #[.int .i64 n, A4 V] w fun r w' => r = .returned (.bool true) ∧ Below w.heap.size w w' := by
  have hsm := cell_set_map
  unfold A4 at *
  go_enter Tryz.func4, Tryz.ntmps4
  go_wp2_with (first
    | (go_at_call 9; refine (c9 _ bgo).mono ?_; rintro r w1 ⟨rfl, hb1⟩; obtain ⟨hc1, hf1⟩ := bcell hb1; have hz1_0 : w.heap.size < w1.heap.size := lt_below hb1 ltg; have hl1_0 := Nat.le_of_lt hz1_0; have hA1 := bnext (w0 := w) bgo hb1; have hs1 := hA1.size; clear hb1)
    | (go_at_call 12; refine (c12 _ (hT.go bgo) (hT10.next bgo)).mono ?_; rintro r w2 ⟨rfl, hb2⟩; obtain ⟨hc2, hf2⟩ := bcell hb2; have hz2_0 : w.heap.size < w2.heap.size := lt_below hb2 ltg; have hl2_0 := Nat.le_of_lt hz2_0; have hA2 := bnext (w0 := w) bgo hb2; have hs2 := hA2.size; clear hb2)
    | (go_at_call 13; refine (c13 _ (hT10.next bgo)).mono ?_; rintro r w3 ⟨rfl, hb3⟩; obtain ⟨hc3, hf3⟩ := bcell hb3; have hz3_0 : w.heap.size < w3.heap.size := lt_below hb3 ltg; have hl3_0 := Nat.le_of_lt hz3_0; have hA3 := bnext (w0 := w) bgo hb3; have hs3 := hA3.size; clear hb3))
  go_ret
  exact ⟨by simp, bgo⟩
/-- a pattern's text, the program's -/
theorem write_of {n : Int} {V : Nat} {w : World} (hT : Tab w) (hT10 : Tb10 w) (T : List UInt8) (hl : T.length ≤ 100000) (hV : V < 2 ^ 256) (hg : goodN n V)
    (c39 : ∀ W, Tab W → Tb10 W → Calls Tryz.prog 39 #[.int .i64 n, (unD n V).v] W fun r w' => r = .returned (.string (B T)) ∧ Below W.heap.size W w') :
    Calls Tryz.prog 12 #[.int .i64 n, A4 V] w fun r w' => r = .returned (.tuple #[.string (B (sgL (unD n V).s ++ T)), .int .i64 0]) ∧ Below w.heap.size w w' := by
  have c22 := fun W (hW : Tab W) => unpack_any n V W hW hV
  rw [show unE n V = 0 from if_pos hg] at c22
  cases hs : (unD n V).s
  · exact wr_p n V (unD n V).c (unD n V).s (unD n V).g (unD n V).x (unD n V).k w hT hT10 T hs c22 c39
  · exact wr_m n V (unD n V).c (unD n V).s (unD n V).g (unD n V).x (unD n V).k w hT hT10 T hl hs c22 c39
/-- the text of a pattern -/
def wrT (n : Int) (V : Nat) (E : Int) (K : Nat) : List UInt8 :=
  if (unD n V).c = 2 then [105, 110, 102] else if (unD n V).c = 3 then nanT (unD n V).g (dcL (unD n V).k)
  else if (unD n V).k = 0 then [48, 101, 48] else unT (sdT n (unD n V).x (unD n V).k E K) (E + (sdC n (unD n V).x (unD n V).k E K : Nat))
theorem unT_len {D : List UInt8} {e : Int} (hD : D.length ≤ 1000) (he : -100000 ≤ e ∧ e ≤ 100000) : (unT D e).length ≤ 3000 := by
  have := itoa_short he
  unfold unT
  rw [List.length_append, List.length_append, List.length_append, List.length_take]
  split
  · simp; omega
  · simp; omega
theorem nanT_len {g : Bool} {d : List UInt8} (h : d.length ≤ 660) : (nanT g d).length ≤ 3000 := by
  unfold nanT
  rw [List.length_append, List.length_append]
  split <;> split <;> simp <;> omega
/-- both Writes, of a pattern that is the format's -/
theorem writes_of {n : Int} {V : Nat} {E : Int} {K : Nat} (hg : goodN n V) (hV : V < 2 ^ 256) (hS : (unD n V).c = 1 → (unD n V).k ≠ 0 → Shd n (unD n V).x (unD n V).k E K) (w : World) (hT10 : Tb10 w) :
    (Tab w → Calls Tryz.prog 12 #[.int .i64 n, A4 V] w fun r w' => r = .returned (.tuple #[.string (B (sgL (unD n V).s ++ wrT n V E K)), .int .i64 0]) ∧ Below w.heap.size w w') ∧
    (Calls Tryz.prog 13 #[.int .i64 n, A4 V] w fun r w' => r = .returned (.tuple #[.string (B (sgL (unD n V).s ++ wrT n V E K)), .int .i64 0]) ∧ Below w.heap.size w w') := by
  have c16 := fun W => runpack_any n V W hV
  rw [show unE n V = 0 from if_pos hg] at c16
  have hkk := unD_k n V
  have hD := un_isD hg
  unfold wrT
  by_cases h2 : (unD n V).c = 2
  · rw [if_pos h2]
    have hk0 : (unD n V).k = 0 := by
      rcases hD with ⟨e1, _⟩ | ⟨_, _, _, e4⟩ | ⟨e1, _⟩
      · omega
      · exact e4
      · omega
    refine ⟨fun hT => write_of hT hT10 _ (by decide) hV hg fun W _ _ => ?_, ?_⟩
    · unfold Dat.v
      rw [h2]
      exact uns_i n (unD n V).s (unD n V).g (unD n V).x (unD n V).k W
    · refine rwr_c n V (unD n V).c (unD n V).s (unD n V).g (unD n V).x (unD n V).k w hT10 c16 (by rw [h2]; rfl) _ fun W hW => ?_
      have := oth_v (unD n V).c (unD n V).s (unD n V).g (unD n V).x (unD n V).k W hkk hW
      rw [show texT (unD n V).c (unD n V).s (unD n V).g (dcL (unD n V).k) 0 = sgL (unD n V).s ++ [105, 110, 102] by unfold texT bodT sgL; rw [if_pos h2]] at this
      exact this
  · rw [if_neg h2]
    by_cases h3 : (unD n V).c = 3
    · rw [if_pos h3]
      obtain ⟨_, _, f3⟩ := dcL_facts hkk
      refine ⟨fun hT => write_of hT hT10 _ (Nat.le_trans (nanT_len f3) (by decide)) hV hg fun W _ _ => ?_, ?_⟩
      · unfold Dat.v
        rw [h3]
        exact uns_n n (unD n V).s (unD n V).g (unD n V).x (unD n V).k W _ fun W => nan_v 3 (unD n V).s (unD n V).g (unD n V).x (unD n V).k W hkk
      · refine rwr_c n V (unD n V).c (unD n V).s (unD n V).g (unD n V).x (unD n V).k w hT10 c16 (by rw [h3]; rfl) _ fun W hW => ?_
        have := oth_v (unD n V).c (unD n V).s (unD n V).g (unD n V).x (unD n V).k W hkk hW
        rw [show texT (unD n V).c (unD n V).s (unD n V).g (dcL (unD n V).k) 0 = sgL (unD n V).s ++ nanT (unD n V).g (dcL (unD n V).k) by unfold texT bodT sgL; rw [if_neg h2, if_pos h3]] at this
        exact this
    · rw [if_neg h3]
      have h1 : (unD n V).c = 1 := by
        rcases hD with ⟨e1, _⟩ | ⟨e1, _⟩ | ⟨e1, _⟩
        · exact e1
        · exact absurd e1 h2
        · exact absurd e1 h3
      by_cases h0 : (unD n V).k = 0
      · rw [if_pos h0]
        refine ⟨fun hT => write_of hT hT10 _ (by decide) hV hg fun W _ _ => ?_, ?_⟩
        · unfold Dat.v
          rw [h1]
          refine uns_0 n (unD n V).s (unD n V).g (unD n V).x (unD n V).k W fun W => ?_
          have := none_v 1 (unD n V).s (unD n V).g (unD n V).x (unD n V).k W hkk
          rw [decide_eq_true h0] at this
          exact this
        · refine rwr_0 n V (unD n V).c (unD n V).s (unD n V).g (unD n V).x (unD n V).k w hT10 c16 h1 h0 _ fun W hW => ?_
          have := lay_v (unD n V).s [48] 0 W hW (by decide) (by decide)
          have e : unT [48] (0 + (([48] : List UInt8).length : Int) - 1) = [48, 101, 48] := by kernel_rfl
          rw [e] at this
          exact this
      · rw [if_neg h0]
        have hf : finP n V := ⟨hg, h1, h0⟩
        obtain ⟨hb, hkb, hx1, hx2, _⟩ := fin_facts hf
        have hS' := hS h1 h0
        obtain ⟨b1, b2, b3⟩ := hS'.bd hkb h0 ⟨hx1, hx2⟩
        have hl := sd_len hkb h0 hS'
        have hc1 : sdC n (unD n V).x (unD n V).k E K ≤ 1 := by unfold sdC shC; split <;> omega
        refine ⟨fun hT => write_of hT hT10 _ (Nat.le_trans (unT_len (by omega) (by omega)) (by decide)) hV hg fun W hW hW10 => ?_, ?_⟩
        · unfold Dat.v
          rw [h1]
          have c23 : ∀ W, Calls Tryz.prog 23 #[DV 1 (unD n V).s (unD n V).g (unD n V).x (unD n V).k] W fun r w' => r = .returned (.bool false) ∧ Below W.heap.size W w' := fun W => by
            have := none_v 1 (unD n V).s (unD n V).g (unD n V).x (unD n V).k W hkk
            rw [decide_eq_false h0] at this
            exact this
          have c24 := fun W (hW : Tab W) => digitsOf_v (n := n) 1 (unD n V).s (unD n V).g W hW hb hkb h0 ⟨hx1, hx2⟩ hS'
          by_cases hK : K = 0
          · exact uns_1 n (unD n V).s (unD n V).g (unD n V).x (unD n V).k _ _ W hW hW10 (by omega) c23 c24 (by rw [hl, hK])
          · exact uns_m n (unD n V).s (unD n V).g (unD n V).x (unD n V).k _ _ W hW hW10 (by omega) c23 c24 (by omega) (by omega)
        · refine rwr_k n V (unD n V).c (unD n V).s (unD n V).g (unD n V).x (unD n V).k w hT10 c16 h1 hkb h0 (sdT n (unD n V).x (unD n V).k E K) _ (E - K + (sdC n (unD n V).x (unD n V).k E K : Nat)) (fun W => rdigits_fin hf hV hS' W) fun W hW => ?_
          have := lay_v (unD n V).s (sdT n (unD n V).x (unD n V).k E K) (E - K + (sdC n (unD n V).x (unD n V).k E K : Nat)) W hW (by omega) (by omega)
          rw [hl, show E - (K : Int) + (sdC n (unD n V).x (unD n V).k E K : Nat) + ((K + 1 : Nat) : Int) - 1 = E + (sdC n (unD n V).x (unD n V).k E K : Nat) by omega] at this
          exact this
theorem shd_any (n : Int) (V : Nat) : ∃ E K, goodN n V → (unD n V).c = 1 → (unD n V).k ≠ 0 → Shd n (unD n V).x (unD n V).k E K := by
  by_cases h : finP n V
  · obtain ⟨hb, hkb, hx1, hx2, _⟩ := fin_facts h
    obtain ⟨E, K, hS⟩ := Shd.ex (n := n) hkb h.2.2 ⟨hx1, hx2⟩
    exact ⟨E, K, fun _ _ _ => hS⟩
  · exact ⟨0, 0, fun h1 h2 h3 => absurd ⟨h1, h2, h3⟩ h⟩
/-- ShortestWrites -/
theorem shortestWrites_any (n : Int) (V : Nat) (w : World) (hT : Tab w) (hT10 : Tb10 w) (hV : V < 2 ^ 256) :
    Calls Tryz.prog 4 #[.int .i64 n, A4 V] w fun r w' => r = .returned (.bool true) ∧ Below w.heap.size w w' := by
  have c9 := fun W (hW : Below w.heap.size w W) => awake9 W (hT.go hW) (hT10.next hW)
  by_cases hg : goodN n V
  · obtain ⟨E, K, hS⟩ := shd_any n V
    exact law4_w n V _ 0 w hT hT10 c9 (fun W hW hW10 => (writes_of hg hV (hS hg) W hW10).1 hW) (fun W hW10 => (writes_of hg hV (hS hg) W hW10).2)
  · have c22 := fun W (hW : Tab W) => unpack_any n V W hW hV
    have c16 := fun W => runpack_any n V W hV
    have e1 : unE n V = 1 := if_neg hg
    rw [e1] at c22 c16
    exact law4_w n V [] 1 w hT hT10 c9 (fun W hW _ => wr_e n V (unD n V).c (unD n V).s (unD n V).g (unD n V).x (unD n V).k W hW 1 (by decide) c22) (fun W _ => rwr_e n V (unD n V).c (unD n V).s (unD n V).g (unD n V).x (unD n V).k W 1 (by decide) c16)
end Go.Proofs.YtoobncgmcnmgjaaGreatDoor

namespace Go.Proofs.YtoobncgmcnmgjaaGreatDoor
open Go.RowKit

attribute [local irreducible] W4
section
variable (n : Int) (V : Nat) (c : Int) (s g : Bool) (x : Int) (k : Nat) (w : World) (hT : Tab w) (hT10 : Tb10 w)
variable (c9 : ∀ W, Below w.heap.size w W → Calls Tryz.prog 9 #[] W fun r w' => r = .returned (.bool true) ∧ Below W.heap.size W w')
include c9
set_option maxHeartbeats 2000000 in
theorem law7_e (E : Int) (hE : (E != 0) = true) (c16 : ∀ W, Calls Tryz.prog 16 #[.int .i64 n, A4 V] W fun r w' => r = .returned (.tuple #[DV c s g x k, .int .i64 E]) ∧ Below W.heap.size W w') :
    Calls Tryz.prog 7 #[.int .i64 n, A4 V] w fun r w' => r = .returned (.bool true) ∧ Below w.heap.size w w' := by
  have hsm := cell_set_map
  unfold DV A4 at *
  go_enter Tryz.func7, Tryz.ntmps7
  go_wp2_with (first
    | (go_at_call 9; refine (c9 _ bgo).mono ?_; rintro r w1 ⟨rfl, hb1⟩; obtain ⟨hc1, hf1⟩ := bcell hb1; have hz1_0 : w.heap.size < w1.heap.size := lt_below hb1 ltg; have hl1_0 := Nat.le_of_lt hz1_0; have hA1 := bnext (w0 := w) bgo hb1; have hs1 := hA1.size; clear hb1)
    | (go_at_call 16; refine (c16 _).mono ?_; rintro r w2 ⟨rfl, hb2⟩; obtain ⟨hc2, hf2⟩ := bcell hb2; have hz2_0 : w.heap.size < w2.heap.size := lt_below hb2 ltg; have hl2_0 := Nat.le_of_lt hz2_0; have hA2 := bnext (w0 := w) bgo hb2; have hs2 := hA2.size; clear hb2))
  go_ret
  exact ⟨rfl, bgo⟩
variable (P M : Nat) (e1 e2 : Int) (T : List UInt8) (hl : T.length ≤ 100000)
  (c16 : ∀ W, Calls Tryz.prog 16 #[.int .i64 n, A4 V] W fun r w' => r = .returned (.tuple #[DV c s g x k, .int .i64 0]) ∧ Below W.heap.size W w')
  (c21p : ∀ W, Calls Tryz.prog 21 #[.int .i64 n, DV c false g x k] W fun r w' => r = .returned (.tuple #[A4 P, .int .i64 e1]) ∧ Below W.heap.size W w')
  (c21m : ∀ W, Calls Tryz.prog 21 #[.int .i64 n, DV c true g x k] W fun r w' => r = .returned (.tuple #[A4 M, .int .i64 e2]) ∧ Below W.heap.size W w')
  (c12p : ∀ W, Tab W → Tb10 W → Calls Tryz.prog 12 #[.int .i64 n, A4 P] W fun r w' => r = .returned (.tuple #[.string (B T), .int .i64 0]) ∧ Below W.heap.size W w')
  (c12m : ∀ W, Tab W → Tb10 W → Calls Tryz.prog 12 #[.int .i64 n, A4 M] W fun r w' => r = .returned (.tuple #[.string (B ([45] ++ T)), .int .i64 0]) ∧ Below W.heap.size W w')
include hT hT10 hl c16 c21p c21m c12p c12m
set_option maxHeartbeats 4000000 in
theorem law7_w : Calls Tryz.prog 7 #[.int .i64 n, A4 V] w fun r w' => r = .returned (.bool true) ∧ Below w.heap.size w w' := by
  have hsm := cell_set_map
  have htl := B_toList
  have p0 : (⟨#[45]⟩ : ByteArray) ++ B T = B ([45] ++ T) := B_app [45] T
  have z0 : (B T).size = T.length := B_size T
  generalize [45] ++ T = T2 at *
  unfold DV A4 at *
  go_enter Tryz.func7, Tryz.ntmps7
  go_wp2_with (first
    | (go_at_call 9; refine (c9 _ bgo).mono ?_; rintro r w1 ⟨rfl, hb1⟩; obtain ⟨hc1, hf1⟩ := bcell hb1; have hz1_0 : w.heap.size < w1.heap.size := lt_below hb1 ltg; have hl1_0 := Nat.le_of_lt hz1_0; have hA1 := bnext (w0 := w) bgo hb1; have hs1 := hA1.size; clear hb1)
    | (go_at_call 16; refine (c16 _).mono ?_; rintro r w2 ⟨rfl, hb2⟩; obtain ⟨hc2, hf2⟩ := bcell hb2; have hz2_0 : w.heap.size < w2.heap.size := lt_below hb2 ltg; have hl2_0 := Nat.le_of_lt hz2_0; have hA2 := bnext (w0 := w) bgo hb2; have hs2 := hA2.size; clear hb2)
    | (have := hA5; go_at_call 12; refine (c12m _ (hT.go bgo) (hT10.next bgo)).mono ?_; rintro r w6 ⟨rfl, hb6⟩; obtain ⟨hc6, hf6⟩ := bcell hb6; have hz6_0 : w.heap.size < w6.heap.size := lt_below hb6 ltg; have hl6_0 := Nat.le_of_lt hz6_0; have hz6_1 : w2.heap.size < w6.heap.size := lt_below hb6 ltg; have hl6_1 := Nat.le_of_lt hz6_1; have hz6_2 : w3.heap.size < w6.heap.size := lt_below hb6 ltg; have hl6_2 := Nat.le_of_lt hz6_2; have hz6_3 : w4.heap.size < w6.heap.size := lt_below hb6 ltg; have hl6_3 := Nat.le_of_lt hz6_3; have hA6 := bnext (w0 := w) bgo hb6; have hs6 := hA6.size; clear hb6)
    | (have := hA4; go_at_call 12; refine (c12p _ (hT.go bgo) (hT10.next bgo)).mono ?_; rintro r w5 ⟨rfl, hb5⟩; obtain ⟨hc5, hf5⟩ := bcell hb5; have hz5_0 : w.heap.size < w5.heap.size := lt_below hb5 ltg; have hl5_0 := Nat.le_of_lt hz5_0; have hz5_1 : w2.heap.size < w5.heap.size := lt_below hb5 ltg; have hl5_1 := Nat.le_of_lt hz5_1; have hz5_2 : w3.heap.size < w5.heap.size := lt_below hb5 ltg; have hl5_2 := Nat.le_of_lt hz5_2; have hz5_3 : w4.heap.size < w5.heap.size := lt_below hb5 ltg; have hl5_3 := Nat.le_of_lt hz5_3; have hA5 := bnext (w0 := w) bgo hb5; have hs5 := hA5.size; clear hb5)
    | (have := hA3; go_at_call 21; refine (c21m _).mono ?_; rintro r w4 ⟨rfl, hb4⟩; obtain ⟨hc4, hf4⟩ := bcell hb4; have hz4_0 : w.heap.size < w4.heap.size := lt_below hb4 ltg; have hl4_0 := Nat.le_of_lt hz4_0; have hz4_1 : w2.heap.size < w4.heap.size := lt_below hb4 ltg; have hl4_1 := Nat.le_of_lt hz4_1; have hz4_2 : w3.heap.size < w4.heap.size := lt_below hb4 ltg; have hl4_2 := Nat.le_of_lt hz4_2; have hA4 := bnext (w0 := w) bgo hb4; have hs4 := hA4.size; clear hb4)
    | (go_at_call 21; refine (c21p _).mono ?_; rintro r w3 ⟨rfl, hb3⟩; obtain ⟨hc3, hf3⟩ := bcell hb3; have hz3_0 : w.heap.size < w3.heap.size := lt_below hb3 ltg; have hl3_0 := Nat.le_of_lt hz3_0; have hz3_1 : w2.heap.size < w3.heap.size := lt_below hb3 ltg; have hl3_1 := Nat.le_of_lt hz3_1; have hA3 := bnext (w0 := w) bgo hb3; have hs3 := hA3.size; clear hb3))
  go_ret
  exact ⟨by simp, bgo⟩
end
theorem wrT_len {n : Int} {V : Nat} {E : Int} {K : Nat} (hg : goodN n V) (hS : (unD n V).c = 1 → (unD n V).k ≠ 0 → Shd n (unD n V).x (unD n V).k E K) : (wrT n V E K).length ≤ 3000 := by
  unfold wrT
  have hkk := unD_k n V
  by_cases h2 : (unD n V).c = 2
  · rw [if_pos h2]; decide
  · rw [if_neg h2]
    by_cases h3 : (unD n V).c = 3
    · rw [if_pos h3]
      obtain ⟨_, _, f3⟩ := dcL_facts hkk
      exact nanT_len f3
    · rw [if_neg h3]
      by_cases h0 : (unD n V).k = 0
      · rw [if_pos h0]; decide
      · rw [if_neg h0]
        have h1 : (unD n V).c = 1 := by
          rcases un_isD hg with ⟨e1, _⟩ | ⟨e1, _⟩ | ⟨e1, _⟩
          · exact e1
          · exact absurd e1 h2
          · exact absurd e1 h3
        obtain ⟨hb, hkb, hx1, hx2, _⟩ := fin_facts ⟨hg, h1, h0⟩
        have hS' := hS h1 h0
        obtain ⟨b1, b2, b3⟩ := hS'.bd hkb h0 ⟨hx1, hx2⟩
        have hl := sd_len hkb h0 hS'
        have hc1 : sdC n (unD n V).x (unD n V).k E K ≤ 1 := by unfold sdC shC; split <;> omega
        exact unT_len (by omega) (by omega)
/-- the text, its sign aside, is of the number alone -/
theorem wrT_of {n : Int} {V : Nat} {E : Int} {K : Nat} {s : Bool} (h : goodN n V) (E1 : pkE n ⟨(unD n V).c, s, (unD n V).g, (unD n V).x, (unD n V).k⟩ = 0) :
    wrT n (pkV n ⟨(unD n V).c, s, (unD n V).g, (unD n V).x, (unD n V).k⟩) E K = wrT n V E K := by
  unfold wrT
  rw [(back_pk E1).2]
theorem pkE_sign {n : Int} {V : Nat} {s : Bool} (h : goodN n V) : pkE n ⟨(unD n V).c, s, (unD n V).g, (unD n V).x, (unD n V).k⟩ = 0 := by
  have h1 := (back_un h).1
  unfold pkE at *
  by_cases hb : binN n
  · rw [if_pos hb] at *
    by_cases hi : isD (fN n) (leastN n) (mostN n) (unD n V)
    · exact if_pos hi
    · rw [if_neg hi] at h1; exact absurd h1 (by decide)
  · exact absurd h.1 hb
/-- ShortestSign -/
theorem shortestSign_any (n : Int) (V : Nat) (w : World) (hT : Tab w) (hT10 : Tb10 w) (hV : V < 2 ^ 256) :
    Calls Tryz.prog 7 #[.int .i64 n, A4 V] w fun r w' => r = .returned (.bool true) ∧ Below w.heap.size w w' := by
  have c9 := fun W (hW : Below w.heap.size w W) => awake9 W (hT.go hW) (hT10.next hW)
  have c16 := fun W => runpack_any n V W hV
  by_cases hg : goodN n V
  · obtain ⟨E, K, hS⟩ := shd_any n V
    have hS := hS hg
    rw [show unE n V = 0 from if_pos hg] at c16
    have hkk := unD_k n V
    have key : ∀ s : Bool, ∀ W, Tab W → Tb10 W → Calls Tryz.prog 12 #[.int .i64 n, A4 (pkV n ⟨(unD n V).c, s, (unD n V).g, (unD n V).x, (unD n V).k⟩)] W fun r w' => r = .returned (.tuple #[.string (B (sgL s ++ wrT n V E K)), .int .i64 0]) ∧ Below W.heap.size W w' := fun s W h1 h2 => by
      have hE : pkE n ⟨(unD n V).c, s, (unD n V).g, (unD n V).x, (unD n V).k⟩ = 0 := pkE_sign hg
      have hB := back_pk hE
      have hd := hB.2
      have := (writes_of (n := n) (V := pkV n ⟨(unD n V).c, s, (unD n V).g, (unD n V).x, (unD n V).k⟩) (E := E) (K := K) hB.1 (pkV_256 _ _) (by rw [hd]; exact hS) W h2).1 h1
      rw [wrT_of hg hE, hd] at this
      exact this
    exact law7_w n V (unD n V).c (unD n V).s (unD n V).g (unD n V).x (unD n V).k w hT hT10 c9 _ _ _ _ (wrT n V E K) (Nat.le_trans (wrT_len hg hS) (by decide)) c16
      (fun W => rpack_any n ⟨(unD n V).c, false, (unD n V).g, (unD n V).x, (unD n V).k⟩ W hkk)
      (fun W => rpack_any n ⟨(unD n V).c, true, (unD n V).g, (unD n V).x, (unD n V).k⟩ W hkk) (key false) (key true)
  · have e1 : unE n V = 1 := if_neg hg
    rw [e1] at c16
    exact law7_e n V (unD n V).c (unD n V).s (unD n V).g (unD n V).x (unD n V).k w c9 1 (by decide) c16
end Go.Proofs.YtoobncgmcnmgjaaGreatDoor
