/-
  Texts that the proof leans on, joined: Sy9.
-/
import Derived.Test.YtckkibmehjlgaaaGreatDoorT2
import Derived.Test.YtckkibmehjlgaaaGreatDoorJ27
import Derived.Test.YtckkibmehjlgaaaGreatDoorJ1
import Derived.Test.YtckkibmehjlgaaaGreatDoorUE
import Derived.Test.YtckkibmehjlgaaaGreatDoorTE
set_option linter.unusedVariables false
set_option linter.unusedSectionVars false
set_option linter.unusedSimpArgs false
set_option maxRecDepth 20000
namespace Go.Proofs.YtckkibmehjlgaaaGreatDoor
open Go.RowKit

attribute [local irreducible] W4
section
variable (n : Int) (V : Nat) (c : Int) (s g : Bool) (x : Int) (k : Nat) (w : World) (hT : Tab w) (hT10 : Tb10 w)
variable (c9 : ∀ W, Below w.heap.size w W → Calls Tryz.prog 9 #[] W fun r w' => r = .returned (.bool true) ∧ Below W.heap.size W w')
include c9
set_option maxHeartbeats 2000000 in
theorem law7_e (E : Int) (hE : (E != 0) = true) (c16 : ∀ W, Calls Tryz.prog 16 #[.int .i64 n, A4 V] W fun r w' => r = .returned (.tuple #[DV c s g x k, .int .i64 E]) ∧ Below W.heap.size W w') :
    Calls Tryz.prog 7 #[.int .i64 n, A4 V] w fun r w' => r = .returned (.bool true) ∧ Below w.heap.size w w' := by
  have hsm := cell_set_map
  unfold DV A4 at *
  go_enter Tryz.func7, Tryz.ntmps7
  go_wp2_with (first
    | (go_at_call 9; refine (c9 _ bgo).mono ?_; rintro r w1 ⟨rfl, hb1⟩; obtain ⟨hc1, hf1⟩ := bcell hb1; have hz1_0 : w.heap.size < w1.heap.size := lt_below hb1 ltg; have hl1_0 := Nat.le_of_lt hz1_0; have hA1 := bnext (w0 := w) bgo hb1; have hs1 := hA1.size; clear hb1)
    | (go_at_call 16; refine (c16 _).mono ?_; rintro r w2 ⟨rfl, hb2⟩; obtain ⟨hc2, hf2⟩ := bcell hb2; have hz2_0 : w.heap.size < w2.heap.size := lt_below hb2 ltg; have hl2_0 := Nat.le_of_lt hz2_0; have hA2 := bnext (w0 := w) bgo hb2; have hs2 := hA2.size; clear hb2))
  go_ret
  exact ⟨rfl, bgo⟩
variable (P M : Nat) (e1 e2 : Int) (T : List UInt8) (hl : T.length ≤ 100000)
  (c16 : ∀ W, Calls Tryz.prog 16 #[.int .i64 n, A4 V] W fun r w' => r = .returned (.tuple #[DV c s g x k, .int .i64 0]) ∧ Below W.heap.size W w')
  (c21p : ∀ W, Calls Tryz.prog 21 #[.int .i64 n, DV c false g x k] W fun r w' => r = .returned (.tuple #[A4 P, .int .i64 e1]) ∧ Below W.heap.size W w')
  (c21m : ∀ W, Calls Tryz.prog 21 #[.int .i64 n, DV c true g x k] W fun r w' => r = .returned (.tuple #[A4 M, .int .i64 e2]) ∧ Below W.heap.size W w')
  (c12p : ∀ W, Tab W → Tb10 W → Calls Tryz.prog 12 #[.int .i64 n, A4 P] W fun r w' => r = .returned (.tuple #[.string (B T), .int .i64 0]) ∧ Below W.heap.size W w')
  (c12m : ∀ W, Tab W → Tb10 W → Calls Tryz.prog 12 #[.int .i64 n, A4 M] W fun r w' => r = .returned (.tuple #[.string (B ([45] ++ T)), .int .i64 0]) ∧ Below W.heap.size W w')
include hT hT10 hl c16 c21p c21m c12p c12m
set_option maxHeartbeats 4000000 in
theorem law7_w : Calls Tryz.prog 7 #[.int .i64 n, A4 V] w fun r w' => r = .returned (.bool true) ∧ Below w.heap.size w w' := by
  have hsm := cell_set_map
  have htl := B_toList
  have p0 : (⟨#[45]⟩ : ByteArray) ++ B T = B ([45] ++ T) := B_app [45] T
  have z0 : (B T).size = T.length := B_size T
  generalize [45] ++ T = T2 at *
  unfold DV A4 at *
  go_enter Tryz.func7, Tryz.ntmps7
  go_wp2_with (first
    | (go_at_call 9; refine (c9 _ bgo).mono ?_; rintro r w1 ⟨rfl, hb1⟩; obtain ⟨hc1, hf1⟩ := bcell hb1; have hz1_0 : w.heap.size < w1.heap.size := lt_below hb1 ltg; have hl1_0 := Nat.le_of_lt hz1_0; have hA1 := bnext (w0 := w) bgo hb1; have hs1 := hA1.size; clear hb1)
    | (go_at_call 16; refine (c16 _).mono ?_; rintro r w2 ⟨rfl, hb2⟩; obtain ⟨hc2, hf2⟩ := bcell hb2; have hz2_0 : w.heap.size < w2.heap.size := lt_below hb2 ltg; have hl2_0 := Nat.le_of_lt hz2_0; have hA2 := bnext (w0 := w) bgo hb2; have hs2 := hA2.size; clear hb2)
    | (have := hA5; go_at_call 12; refine (c12m _ (hT.go bgo) (hT10.next bgo)).mono ?_; rintro r w6 ⟨rfl, hb6⟩; obtain ⟨hc6, hf6⟩ := bcell hb6; have hz6_0 : w.heap.size < w6.heap.size := lt_below hb6 ltg; have hl6_0 := Nat.le_of_lt hz6_0; have hz6_1 : w2.heap.size < w6.heap.size := lt_below hb6 ltg; have hl6_1 := Nat.le_of_lt hz6_1; have hz6_2 : w3.heap.size < w6.heap.size := lt_below hb6 ltg; have hl6_2 := Nat.le_of_lt hz6_2; have hz6_3 : w4.heap.size < w6.heap.size := lt_below hb6 ltg; have hl6_3 := Nat.le_of_lt hz6_3; have hA6 := bnext (w0 := w) bgo hb6; have hs6 := hA6.size; clear hb6)
    | (have := hA4; go_at_call 12; refine (c12p _ (hT.go bgo) (hT10.next bgo)).mono ?_; rintro r w5 ⟨rfl, hb5⟩; obtain ⟨hc5, hf5⟩ := bcell hb5; have hz5_0 : w.heap.size < w5.heap.size := lt_below hb5 ltg; have hl5_0 := Nat.le_of_lt hz5_0; have hz5_1 : w2.heap.size < w5.heap.size := lt_below hb5 ltg; have hl5_1 := Nat.le_of_lt hz5_1; have hz5_2 : w3.heap.size < w5.heap.size := lt_below hb5 ltg; have hl5_2 := Nat.le_of_lt hz5_2; have hz5_3 : w4.heap.size < w5.heap.size := lt_below hb5 ltg; have hl5_3 := Nat.le_of_lt hz5_3; have hA5 := bnext (w0 := w) bgo hb5; have hs5 := hA5.size; clear hb5)
    | (have := hA3; go_at_call 21; refine (c21m _).mono ?_; rintro r w4 ⟨rfl, hb4⟩; obtain ⟨hc4, hf4⟩ := bcell hb4; have hz4_0 : w.heap.size < w4.heap.size := lt_below hb4 ltg; have hl4_0 := Nat.le_of_lt hz4_0; have hz4_1 : w2.heap.size < w4.heap.size := lt_below hb4 ltg; have hl4_1 := Nat.le_of_lt hz4_1; have hz4_2 : w3.heap.size < w4.heap.size := lt_below hb4 ltg; have hl4_2 := Nat.le_of_lt hz4_2; have hA4 := bnext (w0 := w) bgo hb4; have hs4 := hA4.size; clear hb4)
    | (go_at_call 21; refine (c21p _).mono ?_; rintro r w3 ⟨rfl, hb3⟩; obtain ⟨hc3, hf3⟩ := bcell hb3; have hz3_0 : w.heap.size < w3.heap.size := lt_below hb3 ltg; have hl3_0 := Nat.le_of_lt hz3_0; have hz3_1 : w2.heap.size < w3.heap.size := lt_below hb3 ltg; have hl3_1 := Nat.le_of_lt hz3_1; have hA3 := bnext (w0 := w) bgo hb3; have hs3 := hA3.size; clear hb3))
  go_ret
  exact ⟨by simp, bgo⟩
end
theorem wrT_len {n : Int} {V : Nat} {E : Int} {K : Nat} (hg : goodN n V) (hS : (unD n V).c = 1 → (unD n V).k ≠ 0 → Shd n (unD n V).x (unD n V).k E K) : (wrT n V E K).length ≤ 3000 := by
  unfold wrT
  have hkk := unD_k n V
  by_cases h2 : (unD n V).c = 2
  · rw [if_pos h2]; decide
  · rw [if_neg h2]
    by_cases h3 : (unD n V).c = 3
    · rw [if_pos h3]
      obtain ⟨_, _, f3⟩ := dcL_facts hkk
      exact nanT_len f3
    · rw [if_neg h3]
      by_cases h0 : (unD n V).k = 0
      · rw [if_pos h0]; decide
      · rw [if_neg h0]
        have h1 : (unD n V).c = 1 := by
          rcases un_isD hg with ⟨e1, _⟩ | ⟨e1, _⟩ | ⟨e1, _⟩
          · exact e1
          · exact absurd e1 h2
          · exact absurd e1 h3
        obtain ⟨hb, hkb, hx1, hx2, _⟩ := fin_facts ⟨hg, h1, h0⟩
        have hS' := hS h1 h0
        obtain ⟨b1, b2, b3⟩ := hS'.bd hkb h0 ⟨hx1, hx2⟩
        have hl := sd_len hkb h0 hS'
        have hc1 : sdC n (unD n V).x (unD n V).k E K ≤ 1 := by unfold sdC shC; split <;> omega
        exact unT_len (by omega) (by omega)
/-- the text, its sign aside, is of the number alone -/
theorem wrT_of {n : Int} {V : Nat} {E : Int} {K : Nat} {s : Bool} (h : goodN n V) (E1 : pkE n ⟨(unD n V).c, s, (unD n V).g, (unD n V).x, (unD n V).k⟩ = 0) :
    wrT n (pkV n ⟨(unD n V).c, s, (unD n V).g, (unD n V).x, (unD n V).k⟩) E K = wrT n V E K := by
  unfold wrT
  rw [(back_pk E1).2]
theorem pkE_sign {n : Int} {V : Nat} {s : Bool} (h : goodN n V) : pkE n ⟨(unD n V).c, s, (unD n V).g, (unD n V).x, (unD n V).k⟩ = 0 := by
  have h1 := (back_un h).1
  unfold pkE at *
  by_cases hb : binN n
  · rw [if_pos hb] at *
    by_cases hi : isD (fN n) (leastN n) (mostN n) (unD n V)
    · exact if_pos hi
    · rw [if_neg hi] at h1; exact absurd h1 (by decide)
  · exact absurd h.1 hb
/-- ShortestSign -/
theorem shortestSign_any (n : Int) (V : Nat) (w : World) (hT : Tab w) (hT10 : Tb10 w) (hV : V < 2 ^ 256) :
    Calls Tryz.prog 7 #[.int .i64 n, A4 V] w fun r w' => r = .returned (.bool true) ∧ Below w.heap.size w w' := by
  have c9 := fun W (hW : Below w.heap.size w W) => awake9 W (hT.go hW) (hT10.next hW)
  have c16 := fun W => runpack_any n V W hV
  by_cases hg : goodN n V
  · obtain ⟨E, K, hS⟩ := shd_any n V
    have hS := hS hg
    rw [show unE n V = 0 from if_pos hg] at c16
    have hkk := unD_k n V
    have key : ∀ s : Bool, ∀ W, Tab W → Tb10 W → Calls Tryz.prog 12 #[.int .i64 n, A4 (pkV n ⟨(unD n V).c, s, (unD n V).g, (unD n V).x, (unD n V).k⟩)] W fun r w' => r = .returned (.tuple #[.string (B (sgL s ++ wrT n V E K)), .int .i64 0]) ∧ Below W.heap.size W w' := fun s W h1 h2 => by
      have hE : pkE n ⟨(unD n V).c, s, (unD n V).g, (unD n V).x, (unD n V).k⟩ = 0 := pkE_sign hg
      have hB := back_pk hE
      have hd := hB.2
      have := (writes_of (n := n) (V := pkV n ⟨(unD n V).c, s, (unD n V).g, (unD n V).x, (unD n V).k⟩) (E := E) (K := K) hB.1 (pkV_256 _ _) (by rw [hd]; exact hS) W h2).1 h1
      rw [wrT_of hg hE, hd] at this
      exact this
    exact law7_w n V (unD n V).c (unD n V).s (unD n V).g (unD n V).x (unD n V).k w hT hT10 c9 _ _ _ _ (wrT n V E K) (Nat.le_trans (wrT_len hg hS) (by decide)) c16
      (fun W => rpack_any n ⟨(unD n V).c, false, (unD n V).g, (unD n V).x, (unD n V).k⟩ W hkk)
      (fun W => rpack_any n ⟨(unD n V).c, true, (unD n V).g, (unD n V).x, (unD n V).k⟩ W hkk) (key false) (key true)
  · have e1 : unE n V = 1 := if_neg hg
    rw [e1] at c16
    exact law7_e n V (unD n V).c (unD n V).s (unD n V).g (unD n V).x (unD n V).k w c9 1 (by decide) c16
end Go.Proofs.YtckkibmehjlgaaaGreatDoor
