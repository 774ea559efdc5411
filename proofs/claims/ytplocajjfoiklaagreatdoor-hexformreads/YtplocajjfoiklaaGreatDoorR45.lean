/-
  Texts that the proof leans on, joined: Ki.
-/
import Derived.Test.YtplocajjfoiklaaGreatDoorR39
import Derived.Test.YtplocajjfoiklaaGreatDoorR44
import Derived.Test.YtplocajjfoiklaaGreatDoorR1
set_option maxHeartbeats 8000000
set_option linter.unusedVariables false
set_option linter.unusedSectionVars false
set_option linter.unusedSimpArgs false
set_option maxRecDepth 20000
namespace Go.Proofs.YtplocajjfoiklaaGreatDoor
open Go.RowKit
section
theorem no_nil (w : World) : NO 300 0 (.slice none 0 0) w := Or.inl ⟨rfl, rfl⟩
attribute [local irreducible] W4 NT NV Nt NO
section
variable (n d : Int) (l : List UInt8) (w : World) (m t a : List UInt8) (sg : Bool) (q : Nat) (A na : Nat) (r1 : List UInt8)
 (hl : (l.length : Int) ≤ 4000) (hq : t.length = q) (hq2 : 2 ≤ q) (hq4 : q ≤ 4000) (hx2 : (B t).extract 0 2 = B [48, 120]) (hxa : (B t).extract 2 q = B a) (hna : na ≤ 4000)
 (c11 : ∀ W, Calls Tryz.prog 14 #[.int .i64 n] W fun r w' => r = .returned (.bool true) ∧ W = w')
 (c12 : ∀ W, Calls Tryz.prog 15 #[.int .i64 d] W fun r w' => r = .returned (.bool true) ∧ W = w')
 (c23 : ∀ W, Calls Tryz.prog 39 #[.string (B l)] W fun r w' => r = .returned (.string (B m)) ∧ Below W.heap.size W w')
 (c22 : ∀ W, Calls Tryz.prog 38 #[.string (B m)] W fun r w' => r = .returned (.tuple #[.bool sg, .string (B t)]) ∧ Below W.heap.size W w')
 (cr1 : ∀ W, Calls Tryz.prog 42 #[.string (B a)] W fun r w' => ∃ v, r = .returned (.tuple #[v, .int .i64 (na : Int), .string (B r1)]) ∧ NO 300 A v w' ∧ Below W.heap.size W w')
include hl hq hq2 hq4 hx2 hxa hna c11 c12 c23 c22 cr1
theorem hx_n0 (hr1 : r1 = []) (h0 : na = 0) :
  Calls Tryz.prog 12 #[.int .i64 n, .int .i64 d, .string (B l)] w fun r w' => r = .returned (.tuple #[Z4, .int .i64 0, .int .i64 2]) ∧ Below w.heap.size w w' := by
 have hsm := cell_set_map
 have zl : (B l).size = l.length := B_size l
 have zt : (B t).size = q := (B_size t).trans hq
 have htl := B_toList
 have hqi : ¬ (q : Int) < 2 := by omega
 have hqb : (q : Int) ≤ 4000 := by omega
 have hnab : (na : Int) ≤ 4000 := by omega
 clear hq hq2 hq4
 have zr : (B r1).size = 0 := by rw [hr1]; rfl
 clear hr1
 have h0i : ((na : Int) == 0) = true := by rw [beq_iff_eq]; omega
 clear h0
 go_enter Tryz.func12, Tryz.ntmps12
 go_wp2_with (first
  | (go_at_call 14; refine (c11 _).mono ?_; rintro r w1 ⟨rfl, rfl⟩)
  | (go_at_call 15; refine (c12 _).mono ?_; rintro r w1 ⟨rfl, rfl⟩)
  | (go_at_call 39; refine (c23 _).mono ?_; rintro r w2 ⟨rfl, hb2⟩; obtain ⟨hc2, hf2, hz2_0, hl2_0, hA2, hs2⟩ := wz w hb2 w.heap.size; clear hb2)
  | (go_at_call 38; refine (c22 _).mono ?_; rintro r w3 ⟨rfl, hb3⟩; obtain ⟨hc3, hf3, hz3_0, hl3_0, hA3, hs3⟩ := wz w hb3 w.heap.size; clear hb3)
  | (go_at_call 42; refine (cr1 _).mono ?_; rintro r w6 ⟨v6, rfl, hv6, hb6⟩; obtain ⟨hc6, hf6, hz6_0, hl6_0, hA6, hs6⟩ := wz w hb6 w.heap.size; clear hb6))
 exact bodyPost_ret (v := .tuple #[Z4, .int .i64 0, .int .i64 2]) (by simp only [results, Tryz.results12]; go_simp) rfl ⟨rfl, bgo⟩
theorem hx_n1 (hr1 : r1 = []) (h0 : na ≠ 0) :
  Calls Tryz.prog 12 #[.int .i64 n, .int .i64 d, .string (B l)] w fun r w' => r = .returned (.tuple #[Z4, .int .i64 0, .int .i64 2]) ∧ Below w.heap.size w w' := by
 have hsm := cell_set_map
 have zl : (B l).size = l.length := B_size l
 have zt : (B t).size = q := (B_size t).trans hq
 have htl := B_toList
 have hqi : ¬ (q : Int) < 2 := by omega
 have hqb : (q : Int) ≤ 4000 := by omega
 have hnab : (na : Int) ≤ 4000 := by omega
 clear hq hq2 hq4
 have zr : (B r1).size = 0 := by rw [hr1]; rfl
 clear hr1
 have h0i : ((na : Int) == 0) = false := by rw [beq_eq_false_iff_ne]; omega
 clear h0
 go_enter Tryz.func12, Tryz.ntmps12
 go_wp2_with (first
  | (go_at_call 14; refine (c11 _).mono ?_; rintro r w1 ⟨rfl, rfl⟩)
  | (go_at_call 15; refine (c12 _).mono ?_; rintro r w1 ⟨rfl, rfl⟩)
  | (go_at_call 39; refine (c23 _).mono ?_; rintro r w2 ⟨rfl, hb2⟩; obtain ⟨hc2, hf2, hz2_0, hl2_0, hA2, hs2⟩ := wz w hb2 w.heap.size; clear hb2)
  | (go_at_call 38; refine (c22 _).mono ?_; rintro r w3 ⟨rfl, hb3⟩; obtain ⟨hc3, hf3, hz3_0, hl3_0, hA3, hs3⟩ := wz w hb3 w.heap.size; clear hb3)
  | (go_at_call 42; refine (cr1 _).mono ?_; rintro r w6 ⟨v6, rfl, hv6, hb6⟩; obtain ⟨hc6, hf6, hz6_0, hl6_0, hA6, hs6⟩ := wz w hb6 w.heap.size; clear hb6))
 exact bodyPost_ret (v := .tuple #[Z4, .int .i64 0, .int .i64 2]) (by simp only [results, Tryz.results12]; go_simp) rfl ⟨rfl, bgo⟩
theorem hx_c0 (y : Int) (z : List UInt8) (q1 : Nat) (hr1 : r1.length = q1 + 1) (hq1 : q1 ≤ 4000) (hy : IDX (B r1) 0 y) (hyb : 0 ≤ y ∧ y ≤ 255) (hyz : (B r1).extract 1 (q1 + 1) = B z) (h46 : (y == 46) = false) (h0 : na = 0) :
  Calls Tryz.prog 12 #[.int .i64 n, .int .i64 d, .string (B l)] w fun r w' => r = .returned (.tuple #[Z4, .int .i64 0, .int .i64 2]) ∧ Below w.heap.size w w' := by
 have hsm := cell_set_map
 have zl : (B l).size = l.length := B_size l
 have zt : (B t).size = q := (B_size t).trans hq
 have htl := B_toList
 have hqi : ¬ (q : Int) < 2 := by omega
 have hqb : (q : Int) ≤ 4000 := by omega
 have hnab : (na : Int) ≤ 4000 := by omega
 clear hq hq2 hq4
 have zr : (B r1).size = q1 + 1 := (B_size r1).trans hr1
 have h0r : 0 < (B r1).size := by omega
 have hy0 := hy h0r
 have hq1b : (q1 : Int) ≤ 4000 := by omega
 clear hr1 hy
 have h0i : ((na : Int) == 0) = true := by rw [beq_iff_eq]; omega
 clear h0
 go_enter Tryz.func12, Tryz.ntmps12
 go_wp2_with (first
  | (go_at_call 14; refine (c11 _).mono ?_; rintro r w1 ⟨rfl, rfl⟩)
  | (go_at_call 15; refine (c12 _).mono ?_; rintro r w1 ⟨rfl, rfl⟩)
  | (go_at_call 39; refine (c23 _).mono ?_; rintro r w2 ⟨rfl, hb2⟩; obtain ⟨hc2, hf2, hz2_0, hl2_0, hA2, hs2⟩ := wz w hb2 w.heap.size; clear hb2)
  | (go_at_call 38; refine (c22 _).mono ?_; rintro r w3 ⟨rfl, hb3⟩; obtain ⟨hc3, hf3, hz3_0, hl3_0, hA3, hs3⟩ := wz w hb3 w.heap.size; clear hb3)
  | (go_at_call 42; refine (cr1 _).mono ?_; rintro r w6 ⟨v6, rfl, hv6, hb6⟩; obtain ⟨hc6, hf6, hz6_0, hl6_0, hA6, hs6⟩ := wz w hb6 w.heap.size; clear hb6))
 exact bodyPost_ret (v := .tuple #[Z4, .int .i64 0, .int .i64 2]) (by simp only [results, Tryz.results12]; go_simp) rfl ⟨rfl, bgo⟩
theorem hx_c1 (y : Int) (z : List UInt8) (q1 : Nat) (hr1 : r1.length = q1 + 1) (hq1 : q1 ≤ 4000) (hy : IDX (B r1) 0 y) (hyb : 0 ≤ y ∧ y ≤ 255) (hyz : (B r1).extract 1 (q1 + 1) = B z) (h46 : (y == 46) = false) (h0 : na ≠ 0) (hp : (y != 112) = true) :
  Calls Tryz.prog 12 #[.int .i64 n, .int .i64 d, .string (B l)] w fun r w' => r = .returned (.tuple #[Z4, .int .i64 0, .int .i64 2]) ∧ Below w.heap.size w w' := by
 have hsm := cell_set_map
 have zl : (B l).size = l.length := B_size l
 have zt : (B t).size = q := (B_size t).trans hq
 have htl := B_toList
 have hqi : ¬ (q : Int) < 2 := by omega
 have hqb : (q : Int) ≤ 4000 := by omega
 have hnab : (na : Int) ≤ 4000 := by omega
 clear hq hq2 hq4
 have zr : (B r1).size = q1 + 1 := (B_size r1).trans hr1
 have h0r : 0 < (B r1).size := by omega
 have hy0 := hy h0r
 have hq1b : (q1 : Int) ≤ 4000 := by omega
 clear hr1 hy
 have h0i : ((na : Int) == 0) = false := by rw [beq_eq_false_iff_ne]; omega
 clear h0
 go_enter Tryz.func12, Tryz.ntmps12
 go_wp2_with (first
  | (go_at_call 14; refine (c11 _).mono ?_; rintro r w1 ⟨rfl, rfl⟩)
  | (go_at_call 15; refine (c12 _).mono ?_; rintro r w1 ⟨rfl, rfl⟩)
  | (go_at_call 39; refine (c23 _).mono ?_; rintro r w2 ⟨rfl, hb2⟩; obtain ⟨hc2, hf2, hz2_0, hl2_0, hA2, hs2⟩ := wz w hb2 w.heap.size; clear hb2)
  | (go_at_call 38; refine (c22 _).mono ?_; rintro r w3 ⟨rfl, hb3⟩; obtain ⟨hc3, hf3, hz3_0, hl3_0, hA3, hs3⟩ := wz w hb3 w.heap.size; clear hb3)
  | (go_at_call 42; refine (cr1 _).mono ?_; rintro r w6 ⟨v6, rfl, hv6, hb6⟩; obtain ⟨hc6, hf6, hz6_0, hl6_0, hA6, hs6⟩ := wz w hb6 w.heap.size; clear hb6))
 exact bodyPost_ret (v := .tuple #[Z4, .int .i64 0, .int .i64 2]) (by simp only [results, Tryz.results12]; go_simp) rfl ⟨rfl, bgo⟩
theorem hx_c2 (y : Int) (z : List UInt8) (q1 : Nat) (hr1 : r1.length = q1 + 1) (hq1 : q1 ≤ 4000) (hy : IDX (B r1) 0 y) (hyb : 0 ≤ y ∧ y ≤ 255) (hyz : (B r1).extract 1 (q1 + 1) = B z) (h46 : (y == 46) = false) (h0 : na ≠ 0) (hp : y = 112) (e : Int) (c27 : ∀ W, Calls Tryz.prog 43 #[.string (B z)] W fun r w' => r = .returned (.tuple #[.int .i64 e, .bool false]) ∧ Below W.heap.size W w') :
  Calls Tryz.prog 12 #[.int .i64 n, .int .i64 d, .string (B l)] w fun r w' => r = .returned (.tuple #[Z4, .int .i64 0, .int .i64 2]) ∧ Below w.heap.size w w' := by
 have hsm := cell_set_map
 have zl : (B l).size = l.length := B_size l
 have zt : (B t).size = q := (B_size t).trans hq
 have htl := B_toList
 have hqi : ¬ (q : Int) < 2 := by omega
 have hqb : (q : Int) ≤ 4000 := by omega
 have hnab : (na : Int) ≤ 4000 := by omega
 clear hq hq2 hq4
 have zr : (B r1).size = q1 + 1 := (B_size r1).trans hr1
 have h0r : 0 < (B r1).size := by omega
 have hy0 := hy h0r
 have hq1b : (q1 : Int) ≤ 4000 := by omega
 clear hr1 hy
 have h0i : ((na : Int) == 0) = false := by rw [beq_eq_false_iff_ne]; omega
 clear h0
 have hp' : (y != 112) = false := by rw [hp]; rfl
 clear hp
 go_enter Tryz.func12, Tryz.ntmps12
 go_wp2_with (first
  | (go_at_call 14; refine (c11 _).mono ?_; rintro r w1 ⟨rfl, rfl⟩)
  | (go_at_call 15; refine (c12 _).mono ?_; rintro r w1 ⟨rfl, rfl⟩)
  | (go_at_call 39; refine (c23 _).mono ?_; rintro r w2 ⟨rfl, hb2⟩; obtain ⟨hc2, hf2, hz2_0, hl2_0, hA2, hs2⟩ := wz w hb2 w.heap.size; clear hb2)
  | (go_at_call 38; refine (c22 _).mono ?_; rintro r w3 ⟨rfl, hb3⟩; obtain ⟨hc3, hf3, hz3_0, hl3_0, hA3, hs3⟩ := wz w hb3 w.heap.size; clear hb3)
  | (go_at_call 42; refine (cr1 _).mono ?_; rintro r w6 ⟨v6, rfl, hv6, hb6⟩; obtain ⟨hc6, hf6, hz6_0, hl6_0, hA6, hs6⟩ := wz w hb6 w.heap.size; clear hb6)
  | (go_at_call 43; refine (c27 _).mono ?_; rintro r w8 ⟨rfl, hb8⟩; skip; obtain ⟨hc8, hf8, hz8_0, hl8_0, hA8, hs8⟩ := wz w hb8 w.heap.size; clear hb8))
 exact bodyPost_ret (v := .tuple #[Z4, .int .i64 0, .int .i64 2]) (by simp only [results, Tryz.results12]; go_simp) rfl ⟨rfl, bgo⟩
theorem hx_c3 (y : Int) (z : List UInt8) (q1 : Nat) (hr1 : r1.length = q1 + 1) (hq1 : q1 ≤ 4000) (hy : IDX (B r1) 0 y) (hyb : 0 ≤ y ∧ y ≤ 255) (hyz : (B r1).extract 1 (q1 + 1) = B z) (h46 : (y == 46) = false) (h0 : na ≠ 0) (hp : y = 112) (e : Int) (heb : -3000000000 ≤ e ∧ e ≤ 3000000000) (c27 : ∀ W, Calls Tryz.prog 43 #[.string (B z)] W fun r w' => r = .returned (.tuple #[.int .i64 e, .bool true]) ∧ Below W.heap.size W w') (Lf Nm V : Nat) (F : Int) (c18 : ∀ W v, NO 300 A v W → Calls Tryz.prog 28 #[v, .int .i64 (0)] W fun r w' => ∃ v, r = .returned v ∧ NT 2000 Lf v w' ∧ Below W.heap.size W w') (c28 : ∀ W u v, NT 2000 Lf u W → NO 300 0 v W → Calls Tryz.prog 44 #[u, v] W fun r w' => ∃ v, r = .returned v ∧ NT 2001 Nm v w' ∧ Below W.heap.size W w') (c29 : ∀ W u v, NT 2001 Nm u W → NT 2001 1 v W → Calls Tryz.prog 45 #[.int .i64 n, .int .i64 d, .bool sg, u, v, .int .i64 (min (max e (-1000000000)) 1000000000)] W fun r w' => r = .returned (.tuple #[A4 V, .int .i64 F]) ∧ Below W.heap.size W w') :
  Calls Tryz.prog 12 #[.int .i64 n, .int .i64 d, .string (B l)] w fun r w' => r = .returned (.tuple #[A4 V, .int .i64 F, .int .i64 0]) ∧ Below w.heap.size w w' := by
 have hsm := cell_set_map
 have zl : (B l).size = l.length := B_size l
 have zt : (B t).size = q := (B_size t).trans hq
 have htl := B_toList
 have hqi : ¬ (q : Int) < 2 := by omega
 have hqb : (q : Int) ≤ 4000 := by omega
 have hnab : (na : Int) ≤ 4000 := by omega
 clear hq hq2 hq4
 have zr : (B r1).size = q1 + 1 := (B_size r1).trans hr1
 have h0r : 0 < (B r1).size := by omega
 have hy0 := hy h0r
 have hq1b : (q1 : Int) ≤ 4000 := by omega
 clear hr1 hy
 have h0i : ((na : Int) == 0) = false := by rw [beq_eq_false_iff_ne]; omega
 clear h0
 have hp' : (y != 112) = false := by rw [hp]; rfl
 clear hp
 unfold A4 at *
 go_enter Tryz.func12, Tryz.ntmps12
 go_wp2_with (first
  | (go_at_call 14; refine (c11 _).mono ?_; rintro r w1 ⟨rfl, rfl⟩)
  | (go_at_call 15; refine (c12 _).mono ?_; rintro r w1 ⟨rfl, rfl⟩)
  | (go_at_call 39; refine (c23 _).mono ?_; rintro r w2 ⟨rfl, hb2⟩; obtain ⟨hc2, hf2, hz2_0, hl2_0, hA2, hs2⟩ := wz w hb2 w.heap.size; clear hb2)
  | (go_at_call 38; refine (c22 _).mono ?_; rintro r w3 ⟨rfl, hb3⟩; obtain ⟨hc3, hf3, hz3_0, hl3_0, hA3, hs3⟩ := wz w hb3 w.heap.size; clear hb3)
  | (go_at_call 42; refine (cr1 _).mono ?_; rintro r w6 ⟨v6, rfl, hv6, hb6⟩; obtain ⟨hc6, hf6, hz6_0, hl6_0, hA6, hs6⟩ := wz w hb6 w.heap.size; clear hb6)
  | (go_at_call 43; refine (c27 _).mono ?_; rintro r w8 ⟨rfl, hb8⟩; have hv8 := hv6.next hb8; have hp8 : NO 300 0 (.slice none 0 0) w8 := no_nil w8; obtain ⟨hc8, hf8, hz8_0, hl8_0, hA8, hs8⟩ := wz w hb8 w.heap.size; clear hb8)
  | (go_at_call 28; refine (c18 _ _ hv8).mono ?_; rintro r w9 ⟨v9, rfl, hv9, hb9⟩; have hp9 := hp8.next hb9; obtain ⟨hc9, hf9, hz9_0, hl9_0, hA9, hs9⟩ := wz w hb9 w.heap.size; clear hb9)
  | (go_at_call 44; refine (c28 _ _ _ hv9 hp9).mono ?_; rintro r w10 ⟨v10, rfl, hv10, hb10⟩; obtain ⟨hc10, hf10, hz10_0, hl10_0, hA10, hs10⟩ := wz w hb10 w.heap.size; clear hb10)
  | (go_at_call 45; refine (c29 _ _ _ (hv10.next (below1 _ _)) ((nt_un1 (by simp) rfl (by decide) (by decide)).more (by decide))).mono ?_; rintro r w11 ⟨rfl, hb11⟩; obtain ⟨hc11, hf11, hz11_0, hl11_0, hA11, hs11⟩ := wz w hb11 w.heap.size; clear hb11))
 exact bodyPost_ret (v := .tuple #[.agg #[.int .u64 (W4 V 0), .int .u64 (W4 V 1), .int .u64 (W4 V 2), .int .u64 (W4 V 3)], .int .i64 F, .int .i64 0]) (by simp only [results, Tryz.results12]; go_simp) rfl ⟨rfl, bgo⟩
theorem hx_p0 (r : List UInt8) (q1 : Nat) (hr1 : r1.length = q1 + 1) (hq1 : q1 ≤ 4000) (hy : IDX (B r1) 0 46) (hyz : (B r1).extract 1 (q1 + 1) = B r) (P nc : Nat) (hnc : nc ≤ 4000) (r2 : List UInt8) (cr2 : ∀ W, Calls Tryz.prog 42 #[.string (B r)] W fun r w' => ∃ v, r = .returned (.tuple #[v, .int .i64 (nc : Int), .string (B r2)]) ∧ NO 300 P v w' ∧ Below W.heap.size W w') (h0 : na + nc = 0) :
  Calls Tryz.prog 12 #[.int .i64 n, .int .i64 d, .string (B l)] w fun r w' => r = .returned (.tuple #[Z4, .int .i64 0, .int .i64 2]) ∧ Below w.heap.size w w' := by
 have hsm := cell_set_map
 have zl : (B l).size = l.length := B_size l
 have zt : (B t).size = q := (B_size t).trans hq
 have htl := B_toList
 have hqi : ¬ (q : Int) < 2 := by omega
 have hqb : (q : Int) ≤ 4000 := by omega
 have hnab : (na : Int) ≤ 4000 := by omega
 clear hq hq2 hq4
 have zr : (B r1).size = q1 + 1 := (B_size r1).trans hr1
 have h0r : 0 < (B r1).size := by omega
 have hy0 := hy h0r
 have hq1b : (q1 : Int) ≤ 4000 := by omega
 have hncb : (nc : Int) ≤ 4000 := by omega
 clear hr1 hy
 have h0i : ((na : Int) + (nc : Int) == 0) = true := by rw [beq_iff_eq]; omega
 clear h0
 go_enter Tryz.func12, Tryz.ntmps12
 go_wp2_with (first
  | (go_at_call 14; refine (c11 _).mono ?_; rintro r w1 ⟨rfl, rfl⟩)
  | (go_at_call 15; refine (c12 _).mono ?_; rintro r w1 ⟨rfl, rfl⟩)
  | (go_at_call 39; refine (c23 _).mono ?_; rintro r w2 ⟨rfl, hb2⟩; obtain ⟨hc2, hf2, hz2_0, hl2_0, hA2, hs2⟩ := wz w hb2 w.heap.size; clear hb2)
  | (go_at_call 38; refine (c22 _).mono ?_; rintro r w3 ⟨rfl, hb3⟩; obtain ⟨hc3, hf3, hz3_0, hl3_0, hA3, hs3⟩ := wz w hb3 w.heap.size; clear hb3)
  | (have hh := hv6; go_at_call 42; refine (cr2 _).mono ?_; rintro r w7 ⟨v7, rfl, hv7, hb7⟩; have hv67 := hv6.next hb7; obtain ⟨hc7, hf7, hz7_0, hl7_0, hA7, hs7⟩ := wz w hb7 w.heap.size; clear hb7)
  | (go_at_call 42; refine (cr1 _).mono ?_; rintro r w6 ⟨v6, rfl, hv6, hb6⟩; obtain ⟨hc6, hf6, hz6_0, hl6_0, hA6, hs6⟩ := wz w hb6 w.heap.size; clear hb6))
 exact bodyPost_ret (v := .tuple #[Z4, .int .i64 0, .int .i64 2]) (by simp only [results, Tryz.results12]; go_simp) rfl ⟨rfl, bgo⟩
theorem hx_p1 (r : List UInt8) (q1 : Nat) (hr1 : r1.length = q1 + 1) (hq1 : q1 ≤ 4000) (hy : IDX (B r1) 0 46) (hyz : (B r1).extract 1 (q1 + 1) = B r) (P nc : Nat) (hnc : nc ≤ 4000) (r2 : List UInt8) (cr2 : ∀ W, Calls Tryz.prog 42 #[.string (B r)] W fun r w' => ∃ v, r = .returned (.tuple #[v, .int .i64 (nc : Int), .string (B r2)]) ∧ NO 300 P v w' ∧ Below W.heap.size W w') (h0 : na + nc ≠ 0) (hr2 : r2 = []) :
  Calls Tryz.prog 12 #[.int .i64 n, .int .i64 d, .string (B l)] w fun r w' => r = .returned (.tuple #[Z4, .int .i64 0, .int .i64 2]) ∧ Below w.heap.size w w' := by
 have hsm := cell_set_map
 have zl : (B l).size = l.length := B_size l
 have zt : (B t).size = q := (B_size t).trans hq
 have htl := B_toList
 have hqi : ¬ (q : Int) < 2 := by omega
 have hqb : (q : Int) ≤ 4000 := by omega
 have hnab : (na : Int) ≤ 4000 := by omega
 clear hq hq2 hq4
 have zr : (B r1).size = q1 + 1 := (B_size r1).trans hr1
 have h0r : 0 < (B r1).size := by omega
 have hy0 := hy h0r
 have hq1b : (q1 : Int) ≤ 4000 := by omega
 have hncb : (nc : Int) ≤ 4000 := by omega
 clear hr1 hy
 have h0i : ((na : Int) + (nc : Int) == 0) = false := by rw [beq_eq_false_iff_ne]; omega
 clear h0
 have zr2 : (B r2).size = 0 := by rw [hr2]; rfl
 clear hr2
 go_enter Tryz.func12, Tryz.ntmps12
 go_wp2_with (first
  | (go_at_call 14; refine (c11 _).mono ?_; rintro r w1 ⟨rfl, rfl⟩)
  | (go_at_call 15; refine (c12 _).mono ?_; rintro r w1 ⟨rfl, rfl⟩)
  | (go_at_call 39; refine (c23 _).mono ?_; rintro r w2 ⟨rfl, hb2⟩; obtain ⟨hc2, hf2, hz2_0, hl2_0, hA2, hs2⟩ := wz w hb2 w.heap.size; clear hb2)
  | (go_at_call 38; refine (c22 _).mono ?_; rintro r w3 ⟨rfl, hb3⟩; obtain ⟨hc3, hf3, hz3_0, hl3_0, hA3, hs3⟩ := wz w hb3 w.heap.size; clear hb3)
  | (have hh := hv6; go_at_call 42; refine (cr2 _).mono ?_; rintro r w7 ⟨v7, rfl, hv7, hb7⟩; have hv67 := hv6.next hb7; obtain ⟨hc7, hf7, hz7_0, hl7_0, hA7, hs7⟩ := wz w hb7 w.heap.size; clear hb7)
  | (go_at_call 42; refine (cr1 _).mono ?_; rintro r w6 ⟨v6, rfl, hv6, hb6⟩; obtain ⟨hc6, hf6, hz6_0, hl6_0, hA6, hs6⟩ := wz w hb6 w.heap.size; clear hb6))
 exact bodyPost_ret (v := .tuple #[Z4, .int .i64 0, .int .i64 2]) (by simp only [results, Tryz.results12]; go_simp) rfl ⟨rfl, bgo⟩
theorem hx_p2 (r : List UInt8) (q1 : Nat) (hr1 : r1.length = q1 + 1) (hq1 : q1 ≤ 4000) (hy : IDX (B r1) 0 46) (hyz : (B r1).extract 1 (q1 + 1) = B r) (P nc : Nat) (hnc : nc ≤ 4000) (r2 : List UInt8) (cr2 : ∀ W, Calls Tryz.prog 42 #[.string (B r)] W fun r w' => ∃ v, r = .returned (.tuple #[v, .int .i64 (nc : Int), .string (B r2)]) ∧ NO 300 P v w' ∧ Below W.heap.size W w') (h0 : na + nc ≠ 0) (y : Int) (z : List UInt8) (q2 : Nat) (hr2 : r2.length = q2 + 1) (hq2' : q2 ≤ 4000) (hy2 : IDX (B r2) 0 y) (hyb : 0 ≤ y ∧ y ≤ 255) (hyz2 : (B r2).extract 1 (q2 + 1) = B z) (hp : (y != 112) = true) :
  Calls Tryz.prog 12 #[.int .i64 n, .int .i64 d, .string (B l)] w fun r w' => r = .returned (.tuple #[Z4, .int .i64 0, .int .i64 2]) ∧ Below w.heap.size w w' := by
 have hsm := cell_set_map
 have zl : (B l).size = l.length := B_size l
 have zt : (B t).size = q := (B_size t).trans hq
 have htl := B_toList
 have hqi : ¬ (q : Int) < 2 := by omega
 have hqb : (q : Int) ≤ 4000 := by omega
 have hnab : (na : Int) ≤ 4000 := by omega
 clear hq hq2 hq4
 have zr : (B r1).size = q1 + 1 := (B_size r1).trans hr1
 have h0r : 0 < (B r1).size := by omega
 have hy0 := hy h0r
 have hq1b : (q1 : Int) ≤ 4000 := by omega
 have hncb : (nc : Int) ≤ 4000 := by omega
 clear hr1 hy
 have h0i : ((na : Int) + (nc : Int) == 0) = false := by rw [beq_eq_false_iff_ne]; omega
 clear h0
 have zr2 : (B r2).size = q2 + 1 := (B_size r2).trans hr2
 have h0r2 : 0 < (B r2).size := by omega
 have hy02 := hy2 h0r2
 have hq2b : (q2 : Int) ≤ 4000 := by omega
 clear hr2 hy2
 go_enter Tryz.func12, Tryz.ntmps12
 go_wp2_with (first
  | (go_at_call 14; refine (c11 _).mono ?_; rintro r w1 ⟨rfl, rfl⟩)
  | (go_at_call 15; refine (c12 _).mono ?_; rintro r w1 ⟨rfl, rfl⟩)
  | (go_at_call 39; refine (c23 _).mono ?_; rintro r w2 ⟨rfl, hb2⟩; obtain ⟨hc2, hf2, hz2_0, hl2_0, hA2, hs2⟩ := wz w hb2 w.heap.size; clear hb2)
  | (go_at_call 38; refine (c22 _).mono ?_; rintro r w3 ⟨rfl, hb3⟩; obtain ⟨hc3, hf3, hz3_0, hl3_0, hA3, hs3⟩ := wz w hb3 w.heap.size; clear hb3)
  | (have hh := hv6; go_at_call 42; refine (cr2 _).mono ?_; rintro r w7 ⟨v7, rfl, hv7, hb7⟩; have hv67 := hv6.next hb7; obtain ⟨hc7, hf7, hz7_0, hl7_0, hA7, hs7⟩ := wz w hb7 w.heap.size; clear hb7)
  | (go_at_call 42; refine (cr1 _).mono ?_; rintro r w6 ⟨v6, rfl, hv6, hb6⟩; obtain ⟨hc6, hf6, hz6_0, hl6_0, hA6, hs6⟩ := wz w hb6 w.heap.size; clear hb6))
 exact bodyPost_ret (v := .tuple #[Z4, .int .i64 0, .int .i64 2]) (by simp only [results, Tryz.results12]; go_simp) rfl ⟨rfl, bgo⟩
theorem hx_p3 (r : List UInt8) (q1 : Nat) (hr1 : r1.length = q1 + 1) (hq1 : q1 ≤ 4000) (hy : IDX (B r1) 0 46) (hyz : (B r1).extract 1 (q1 + 1) = B r) (P nc : Nat) (hnc : nc ≤ 4000) (r2 : List UInt8) (cr2 : ∀ W, Calls Tryz.prog 42 #[.string (B r)] W fun r w' => ∃ v, r = .returned (.tuple #[v, .int .i64 (nc : Int), .string (B r2)]) ∧ NO 300 P v w' ∧ Below W.heap.size W w') (h0 : na + nc ≠ 0) (y : Int) (z : List UInt8) (q2 : Nat) (hr2 : r2.length = q2 + 1) (hq2' : q2 ≤ 4000) (hy2 : IDX (B r2) 0 y) (hyb : 0 ≤ y ∧ y ≤ 255) (hyz2 : (B r2).extract 1 (q2 + 1) = B z) (hp : y = 112) (e : Int) (c27 : ∀ W, Calls Tryz.prog 43 #[.string (B z)] W fun r w' => r = .returned (.tuple #[.int .i64 e, .bool false]) ∧ Below W.heap.size W w') :
  Calls Tryz.prog 12 #[.int .i64 n, .int .i64 d, .string (B l)] w fun r w' => r = .returned (.tuple #[Z4, .int .i64 0, .int .i64 2]) ∧ Below w.heap.size w w' := by
 have hsm := cell_set_map
 have zl : (B l).size = l.length := B_size l
 have zt : (B t).size = q := (B_size t).trans hq
 have htl := B_toList
 have hqi : ¬ (q : Int) < 2 := by omega
 have hqb : (q : Int) ≤ 4000 := by omega
 have hnab : (na : Int) ≤ 4000 := by omega
 clear hq hq2 hq4
 have zr : (B r1).size = q1 + 1 := (B_size r1).trans hr1
 have h0r : 0 < (B r1).size := by omega
 have hy0 := hy h0r
 have hq1b : (q1 : Int) ≤ 4000 := by omega
 have hncb : (nc : Int) ≤ 4000 := by omega
 clear hr1 hy
 have h0i : ((na : Int) + (nc : Int) == 0) = false := by rw [beq_eq_false_iff_ne]; omega
 clear h0
 have zr2 : (B r2).size = q2 + 1 := (B_size r2).trans hr2
 have h0r2 : 0 < (B r2).size := by omega
 have hy02 := hy2 h0r2
 have hq2b : (q2 : Int) ≤ 4000 := by omega
 clear hr2 hy2
 have hp' : (y != 112) = false := by rw [hp]; rfl
 clear hp
 go_enter Tryz.func12, Tryz.ntmps12
 go_wp2_with (first
  | (go_at_call 14; refine (c11 _).mono ?_; rintro r w1 ⟨rfl, rfl⟩)
  | (go_at_call 15; refine (c12 _).mono ?_; rintro r w1 ⟨rfl, rfl⟩)
  | (go_at_call 39; refine (c23 _).mono ?_; rintro r w2 ⟨rfl, hb2⟩; obtain ⟨hc2, hf2, hz2_0, hl2_0, hA2, hs2⟩ := wz w hb2 w.heap.size; clear hb2)
  | (go_at_call 38; refine (c22 _).mono ?_; rintro r w3 ⟨rfl, hb3⟩; obtain ⟨hc3, hf3, hz3_0, hl3_0, hA3, hs3⟩ := wz w hb3 w.heap.size; clear hb3)
  | (have hh := hv6; go_at_call 42; refine (cr2 _).mono ?_; rintro r w7 ⟨v7, rfl, hv7, hb7⟩; have hv67 := hv6.next hb7; obtain ⟨hc7, hf7, hz7_0, hl7_0, hA7, hs7⟩ := wz w hb7 w.heap.size; clear hb7)
  | (go_at_call 42; refine (cr1 _).mono ?_; rintro r w6 ⟨v6, rfl, hv6, hb6⟩; obtain ⟨hc6, hf6, hz6_0, hl6_0, hA6, hs6⟩ := wz w hb6 w.heap.size; clear hb6)
  | (go_at_call 43; refine (c27 _).mono ?_; rintro r w8 ⟨rfl, hb8⟩; skip; obtain ⟨hc8, hf8, hz8_0, hl8_0, hA8, hs8⟩ := wz w hb8 w.heap.size; clear hb8))
 exact bodyPost_ret (v := .tuple #[Z4, .int .i64 0, .int .i64 2]) (by simp only [results, Tryz.results12]; go_simp) rfl ⟨rfl, bgo⟩
theorem hx_p4 (r : List UInt8) (q1 : Nat) (hr1 : r1.length = q1 + 1) (hq1 : q1 ≤ 4000) (hy : IDX (B r1) 0 46) (hyz : (B r1).extract 1 (q1 + 1) = B r) (P nc : Nat) (hnc : nc ≤ 4000) (r2 : List UInt8) (cr2 : ∀ W, Calls Tryz.prog 42 #[.string (B r)] W fun r w' => ∃ v, r = .returned (.tuple #[v, .int .i64 (nc : Int), .string (B r2)]) ∧ NO 300 P v w' ∧ Below W.heap.size W w') (h0 : na + nc ≠ 0) (y : Int) (z : List UInt8) (q2 : Nat) (hr2 : r2.length = q2 + 1) (hq2' : q2 ≤ 4000) (hy2 : IDX (B r2) 0 y) (hyb : 0 ≤ y ∧ y ≤ 255) (hyz2 : (B r2).extract 1 (q2 + 1) = B z) (hp : y = 112) (e : Int) (heb : -3000000000 ≤ e ∧ e ≤ 3000000000) (c27 : ∀ W, Calls Tryz.prog 43 #[.string (B z)] W fun r w' => r = .returned (.tuple #[.int .i64 e, .bool true]) ∧ Below W.heap.size W w') (Lf Nm V : Nat) (F : Int) (c18 : ∀ W v, NO 300 A v W → Calls Tryz.prog 28 #[v, .int .i64 (4 * (nc : Int))] W fun r w' => ∃ v, r = .returned v ∧ NT 2000 Lf v w' ∧ Below W.heap.size W w') (c28 : ∀ W u v, NT 2000 Lf u W → NO 300 P v W → Calls Tryz.prog 44 #[u, v] W fun r w' => ∃ v, r = .returned v ∧ NT 2001 Nm v w' ∧ Below W.heap.size W w') (c29 : ∀ W u v, NT 2001 Nm u W → NT 2001 1 v W → Calls Tryz.prog 45 #[.int .i64 n, .int .i64 d, .bool sg, u, v, .int .i64 (min (max e (-1000000000)) 1000000000 - 4 * (nc : Int))] W fun r w' => r = .returned (.tuple #[A4 V, .int .i64 F]) ∧ Below W.heap.size W w') :
  Calls Tryz.prog 12 #[.int .i64 n, .int .i64 d, .string (B l)] w fun r w' => r = .returned (.tuple #[A4 V, .int .i64 F, .int .i64 0]) ∧ Below w.heap.size w w' := by
 have hsm := cell_set_map
 have zl : (B l).size = l.length := B_size l
 have zt : (B t).size = q := (B_size t).trans hq
 have htl := B_toList
 have hqi : ¬ (q : Int) < 2 := by omega
 have hqb : (q : Int) ≤ 4000 := by omega
 have hnab : (na : Int) ≤ 4000 := by omega
 clear hq hq2 hq4
 have zr : (B r1).size = q1 + 1 := (B_size r1).trans hr1
 have h0r : 0 < (B r1).size := by omega
 have hy0 := hy h0r
 have hq1b : (q1 : Int) ≤ 4000 := by omega
 have hncb : (nc : Int) ≤ 4000 := by omega
 clear hr1 hy
 have h0i : ((na : Int) + (nc : Int) == 0) = false := by rw [beq_eq_false_iff_ne]; omega
 clear h0
 have zr2 : (B r2).size = q2 + 1 := (B_size r2).trans hr2
 have h0r2 : 0 < (B r2).size := by omega
 have hy02 := hy2 h0r2
 have hq2b : (q2 : Int) ≤ 4000 := by omega
 clear hr2 hy2
 have hp' : (y != 112) = false := by rw [hp]; rfl
 clear hp
 unfold A4 at *
 go_enter Tryz.func12, Tryz.ntmps12
 go_wp2_with (first
  | (go_at_call 14; refine (c11 _).mono ?_; rintro r w1 ⟨rfl, rfl⟩)
  | (go_at_call 15; refine (c12 _).mono ?_; rintro r w1 ⟨rfl, rfl⟩)
  | (go_at_call 39; refine (c23 _).mono ?_; rintro r w2 ⟨rfl, hb2⟩; obtain ⟨hc2, hf2, hz2_0, hl2_0, hA2, hs2⟩ := wz w hb2 w.heap.size; clear hb2)
  | (go_at_call 38; refine (c22 _).mono ?_; rintro r w3 ⟨rfl, hb3⟩; obtain ⟨hc3, hf3, hz3_0, hl3_0, hA3, hs3⟩ := wz w hb3 w.heap.size; clear hb3)
  | (have hh := hv6; go_at_call 42; refine (cr2 _).mono ?_; rintro r w7 ⟨v7, rfl, hv7, hb7⟩; have hv67 := hv6.next hb7; obtain ⟨hc7, hf7, hz7_0, hl7_0, hA7, hs7⟩ := wz w hb7 w.heap.size; clear hb7)
  | (go_at_call 42; refine (cr1 _).mono ?_; rintro r w6 ⟨v6, rfl, hv6, hb6⟩; obtain ⟨hc6, hf6, hz6_0, hl6_0, hA6, hs6⟩ := wz w hb6 w.heap.size; clear hb6)
  | (go_at_call 43; refine (c27 _).mono ?_; rintro r w8 ⟨rfl, hb8⟩; have hv8 := hv67.next hb8; have hp8 := hv7.next hb8; obtain ⟨hc8, hf8, hz8_0, hl8_0, hA8, hs8⟩ := wz w hb8 w.heap.size; clear hb8)
  | (go_at_call 28; refine (c18 _ _ hv8).mono ?_; rintro r w9 ⟨v9, rfl, hv9, hb9⟩; have hp9 := hp8.next hb9; obtain ⟨hc9, hf9, hz9_0, hl9_0, hA9, hs9⟩ := wz w hb9 w.heap.size; clear hb9)
  | (go_at_call 44; refine (c28 _ _ _ hv9 hp9).mono ?_; rintro r w10 ⟨v10, rfl, hv10, hb10⟩; obtain ⟨hc10, hf10, hz10_0, hl10_0, hA10, hs10⟩ := wz w hb10 w.heap.size; clear hb10)
  | (go_at_call 45; refine (c29 _ _ _ (hv10.next (below1 _ _)) ((nt_un1 (by simp) rfl (by decide) (by decide)).more (by decide))).mono ?_; rintro r w11 ⟨rfl, hb11⟩; obtain ⟨hc11, hf11, hz11_0, hl11_0, hA11, hs11⟩ := wz w hb11 w.heap.size; clear hb11))
 exact bodyPost_ret (v := .tuple #[.agg #[.int .u64 (W4 V 0), .int .u64 (W4 V 1), .int .u64 (W4 V 2), .int .u64 (W4 V 3)], .int .i64 F, .int .i64 0]) (by simp only [results, Tryz.results12]; go_simp) rfl ⟨rfl, bgo⟩
end
end
end Go.Proofs.YtplocajjfoiklaaGreatDoor
