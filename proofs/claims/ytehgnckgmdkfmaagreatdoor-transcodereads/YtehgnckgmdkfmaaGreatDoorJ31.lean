/-
  Texts that the proof leans on.
-/
import Derived.Test.YtehgnckgmdkfmaaGreatDoorJ30
import Derived.Test.YtehgnckgmdkfmaaGreatDoorJ23
import Derived.Test.YtehgnckgmdkfmaaGreatDoorJ20
import Derived.Test.YtehgnckgmdkfmaaGreatDoorJ17
import Derived.Test.YtehgnckgmdkfmaaGreatDoorJ3
set_option linter.unusedVariables false
set_option linter.unusedSectionVars false
set_option linter.unusedSimpArgs false
set_option maxRecDepth 20000
namespace Go.Proofs.YtehgnckgmdkfmaaGreatDoor
open Go.RowKit
section
attribute [local irreducible] W4
section
variable (n d : Int) (nm : ByteArray) (wd P ex l m pa b : Int) (dn : Bool) (w : World) (hT : Tab w)
include hT
set_option maxHeartbeats 1000000 in
theorem dck_e (i0 E : Int) (hE : (E != 0) = true)
    (c52 : ∀ W, Tab W → Calls Tryz.prog 34 #[.int .i64 n] W fun r w' => r = .returned (.tuple #[.agg #[.int .i64 i0, .string nm, .int .i64 b, .int .i64 wd, .int .i64 P, .int .i64 ex, .int .i64 l, .int .i64 m, .int .i64 pa, .bool dn], .int .i64 E]) ∧ Below W.heap.size W w') :
    Calls Tryz.prog 18 #[.int .i64 n, .int .i64 d] w fun r w' => r = .returned (.tuple #[IZ, .int .i64 1]) ∧ Below w.heap.size w w' := by
  have hsm := cell_set_map
  go_enter Tryz.func18, Tryz.ntmps18
  go_wp2_with (first
    | (go_at_call 34; refine (c52 _ (hT.go bgo)).mono ?_; rintro r w1 ⟨rfl, hb1⟩; obtain ⟨hc1, hf1⟩ := bcell hb1; have hz1_0 : w.heap.size < w1.heap.size := lt_below hb1 ltg; have hl1_0 := Nat.le_of_lt hz1_0; have hA1 := bnext (w0 := w) bgo hb1; have hs1 := hA1.size; clear hb1))
  exact bodyPost_ret (v := .tuple #[IZ, .int .i64 1]) (by simp only [results, Tryz.results18]; go_simp) rfl ⟨rfl, bgo⟩
set_option maxHeartbeats 1000000 in
theorem dck_b (i0 : Int) (hE : (b != 10) = true)
    (c52 : ∀ W, Tab W → Calls Tryz.prog 34 #[.int .i64 n] W fun r w' => r = .returned (.tuple #[.agg #[.int .i64 i0, .string nm, .int .i64 b, .int .i64 wd, .int .i64 P, .int .i64 ex, .int .i64 l, .int .i64 m, .int .i64 pa, .bool dn], .int .i64 0]) ∧ Below W.heap.size W w') :
    Calls Tryz.prog 18 #[.int .i64 n, .int .i64 d] w fun r w' => r = .returned (.tuple #[IZ, .int .i64 1]) ∧ Below w.heap.size w w' := by
  have hsm := cell_set_map
  go_enter Tryz.func18, Tryz.ntmps18
  go_wp2_with (first
    | (go_at_call 34; refine (c52 _ (hT.go bgo)).mono ?_; rintro r w1 ⟨rfl, hb1⟩; obtain ⟨hc1, hf1⟩ := bcell hb1; have hz1_0 : w.heap.size < w1.heap.size := lt_below hb1 ltg; have hl1_0 := Nat.le_of_lt hz1_0; have hA1 := bnext (w0 := w) bgo hb1; have hs1 := hA1.size; clear hb1))
  exact bodyPost_ret (v := .tuple #[IZ, .int .i64 1]) (by simp only [results, Tryz.results18]; go_simp) rfl ⟨rfl, bgo⟩
variable (c52 : ∀ W, Tab W → Calls Tryz.prog 34 #[.int .i64 n] W fun r w' => r = .returned (.tuple #[IDec n nm wd P ex l m pa dn, .int .i64 0]) ∧ Below W.heap.size W w')
include c52
set_option maxHeartbeats 1000000 in
theorem dck_d (hd : decide (knB d) = false) :
    Calls Tryz.prog 18 #[.int .i64 n, .int .i64 d] w fun r w' => r = .returned (.tuple #[IZ, .int .i64 1]) ∧ Below w.heap.size w w' := by
  have hsm := cell_set_map
  have c53 := known_any d
  rw [hd] at c53
  go_enter Tryz.func18, Tryz.ntmps18
  go_wp2_with (first
    | (go_at_call 34; refine (c52 _ (hT.go bgo)).mono ?_; rintro r w1 ⟨rfl, hb1⟩; obtain ⟨hc1, hf1⟩ := bcell hb1; have hz1_0 : w.heap.size < w1.heap.size := lt_below hb1 ltg; have hl1_0 := Nat.le_of_lt hz1_0; have hA1 := bnext (w0 := w) bgo hb1; have hs1 := hA1.size; clear hb1)
    | (go_at_call 35; refine (c53 _).mono ?_; rintro r w2 ⟨rfl, rfl⟩))
  exact bodyPost_ret (v := .tuple #[IZ, .int .i64 1]) (by simp only [results, Tryz.results18]; go_simp) rfl ⟨rfl, bgo⟩
set_option maxHeartbeats 1000000 in
theorem dck_k (hd : decide (knB d) = true) :
    Calls Tryz.prog 18 #[.int .i64 n, .int .i64 d] w fun r w' => r = .returned (.tuple #[IDec n nm wd P ex l m pa dn, .int .i64 0]) ∧ Below w.heap.size w w' := by
  have hsm := cell_set_map
  have c53 := known_any d
  rw [hd] at c53
  go_enter Tryz.func18, Tryz.ntmps18
  go_wp2_with (first
    | (go_at_call 34; refine (c52 _ (hT.go bgo)).mono ?_; rintro r w1 ⟨rfl, hb1⟩; obtain ⟨hc1, hf1⟩ := bcell hb1; have hz1_0 : w.heap.size < w1.heap.size := lt_below hb1 ltg; have hl1_0 := Nat.le_of_lt hz1_0; have hA1 := bnext (w0 := w) bgo hb1; have hs1 := hA1.size; clear hb1)
    | (go_at_call 35; refine (c53 _).mono ?_; rintro r w2 ⟨rfl, rfl⟩))
  exact bodyPost_ret (v := .tuple #[IDec n nm wd P ex l m pa dn, .int .i64 0]) (by simp only [results, Tryz.results18]; go_simp) rfl ⟨rfl, bgo⟩
end
theorem dck_bad {n d : Int} {w : World} (hT : Tab w) (h : ¬ (decN n ∧ knB d)) : Calls Tryz.prog 18 #[.int .i64 n, .int .i64 d] w fun r w' => r = .returned (.tuple #[IZ, .int .i64 1]) ∧ Below w.heap.size w w' := by
  by_cases h1 : decN n
  · exact dck_d n d _ _ _ _ _ _ _ _ w hT (fun W hT' => dof_dec h1 W hT') (decide_eq_false fun h2 => h ⟨h1, h2⟩)
  · by_cases hok : okN n
    · refine dck_b n d (nameN n) (widthN n) (precN n) (expN n) (leastN n) (mostN n) (payN n) (baseN n) (denseN n) w hT (numN n) (not_decE hok h1) (fun W hT' => ?_)
      have c := ofv_any n W hT'
      rw [show infoE n = 0 from if_pos hok] at c
      exact c
    · refine dck_e n d (nameN n) (widthN n) (precN n) (expN n) (leastN n) (mostN n) (payN n) (baseN n) (denseN n) w hT (numN n) 1 (by decide) (fun W hT' => ?_)
      have c := ofv_any n W hT'
      rw [show infoE n = 1 from if_neg hok] at c
      exact c
theorem dck_good {n d : Int} {w : World} (hT : Tab w) (h1 : decN n) (h2 : knB d) : Calls Tryz.prog 18 #[.int .i64 n, .int .i64 d] w fun r w' => r = .returned (.tuple #[IDec n (nameN n) (widthN n) (3 * ((fD n).j : Int) + 1) (expN n) (fD n).l (fD n).m (3 * ((fD n).j : Int)) (denseN n), .int .i64 0]) ∧ Below w.heap.size w w' := by
  obtain ⟨hok, q1, q2, q3, q4, q5, q6, q7, q8⟩ := dec_fields h1
  have c := dck_k n d _ _ _ _ _ _ _ _ w hT (fun W hT' => dof_dec h1 W hT') (decide_eq_true h2)
  rw [q7] at c
  exact c
set_option maxHeartbeats 1000000 in
theorem natural16 (l : List UInt8) (w : World) (hd : l.all dg = true) (hl : l.length ≤ 4000) : Calls Tryz.prog 71 #[.string (B l)] w fun r w' => ∃ v, r = .returned v ∧ Nz 251 (dV l) v w' ∧ Below w.heap.size w w' := by
  have h48 : (48 :: l).all dg = true := by rw [List.all_cons, hd]; rfl
  have c100 := nread_ok (B (48 :: l)) w (by unfold isDigB; rw [dig_B h48]; simp [B_size]) (by rw [B_size, List.length_cons]; omega)
  rw [num_zero] at c100
  obtain ⟨hlt, he⟩ := dV_lt hd
  rw [← he] at c100
  have hbl : bl (dV l) ≤ 64 * 251 := bl_10 hlt (by omega)
  have eB : (⟨#[48]⟩ : ByteArray) ++ B l = B (48 :: l) := B_app [48] l
  have hsz : (B l).size ≤ 4000 := by rw [B_size]; exact hl
  have hs2 : ((B (48 :: l)).size : Int) ≤ 9223372036854775807 := by rw [B_size, List.length_cons]; omega
  generalize dV l = A at *
  rw [← eB] at c100 hs2
  clear hd h48 hlt he eB
  go_enter Tryz.func71, Tryz.ntmps71
  go_wp2_with (go_at_call 97; refine c100.mono ?_; rintro e w1 ⟨o, k, cap, z, rfl, hk, hN, hv, hs, hB⟩)
  go_ret
  exact ⟨_, rfl, nz_of hN hv hs hbl, hB⟩
attribute [local irreducible] Nz Nt
section
variable (c : Int) (s g : Bool) (x : Int) (k : Nat) (w : World) (T : List UInt8)
set_option maxHeartbeats 2000000 in
theorem dwd_0 (h0 : k = 0) (c31 : ∀ W, Below w.heap.size w W → Calls Tryz.prog 27 #[.agg #[.int .i64 c, .bool s, .bool g, .string ⟨#[]⟩, .int .i64 0]] W fun r w' => r = .returned (.tuple #[.string (B T), .int .i64 0]) ∧ Below W.heap.size W w') :
    Calls Tryz.prog 15 #[DV c s g x k] w fun r w' => r = .returned (.string (B T)) ∧ Below w.heap.size w w' := by
  subst h0
  have e1 := eq24 0 0 0 0 0 0 0 0
  rw [decide_eq_true ⟨rfl, rfl, rfl, rfl⟩] at e1
  have hsm := cell_set_map
  unfold DV
  simp only [W4_zero]
  go_enter Tryz.func15, Tryz.ntmps15
  go_wp2_with (first
    | (go_at_call 27; refine (c31 _ bgo).mono ?_; rintro r w1 ⟨rfl, hb1⟩; obtain ⟨hc1, hf1⟩ := bcell hb1; have hz1_0 : w.heap.size < w1.heap.size := lt_below hb1 ltg; have hl1_0 := Nat.le_of_lt hz1_0; have hA1 := bnext (w0 := w) bgo hb1; have hs1 := hA1.size; clear hb1))
  exact bodyPost_ret (v := .string (B T)) (by simp only [results, Tryz.results15]; go_simp) rfl ⟨rfl, bgo⟩
set_option maxHeartbeats 4000000 in
theorem dwd_k (D : List UInt8) (hk : k < 2 ^ 256) (h0 : k ≠ 0)
    (c20 : ∀ W v, Nt 4 k v W → Calls Tryz.prog 16 #[v] W fun r w' => r = .returned (.tuple #[.string (B D), .int .i64 0]) ∧ Below W.heap.size W w')
    (c31 : ∀ W, Below w.heap.size w W → Calls Tryz.prog 27 #[.agg #[.int .i64 c, .bool s, .bool g, .string (B D), .int .i64 0]] W fun r w' => r = .returned (.tuple #[.string (B T), .int .i64 0]) ∧ Below W.heap.size W w') :
    Calls Tryz.prog 15 #[DV c s g x k] w fun r w' => r = .returned (.string (B T)) ∧ Below w.heap.size w w' := by
  have e1 := eq24 (W4 k 0) (W4 k 1) (W4 k 2) (W4 k 3) 0 0 0 0
  rw [W4_none hk, decide_eq_false h0] at e1
  clear h0
  have hsm := cell_set_map
  unfold DV
  go_enter Tryz.func15, Tryz.ntmps15
  go_wp2_with (first
    | (go_at_call 16; refine (c20 _ _ (nt_at hk (by first | (simp; done) | (simp; omega)) (by go_simp) (by go_simp) (by go_simp) (by go_simp))).mono ?_; rintro r w1 ⟨rfl, hb1⟩; obtain ⟨hc1, hf1⟩ := bcell hb1; have hz1_0 : w.heap.size < w1.heap.size := lt_below hb1 ltg; have hl1_0 := Nat.le_of_lt hz1_0; have hz1_1 : w.heap.size + 1 < w1.heap.size := lt_below hb1 ltg; have hl1_1 := Nat.le_of_lt hz1_1; have hA1 := bnext (w0 := w) bgo hb1; have hs1 := hA1.size; clear hb1)
    | (go_at_call 27; refine (c31 _ bgo).mono ?_; rintro r w2 ⟨rfl, hb2⟩; obtain ⟨hc2, hf2⟩ := bcell hb2; have hz2_0 : w.heap.size < w2.heap.size := lt_below hb2 ltg; have hl2_0 := Nat.le_of_lt hz2_0; have hz2_1 : w.heap.size + 1 < w2.heap.size := lt_below hb2 ltg; have hl2_1 := Nat.le_of_lt hz2_1; have hA2 := bnext (w0 := w) bgo hb2; have hs2 := hA2.size; clear hb2))
  exact bodyPost_ret (v := .string (B T)) (by simp only [results, Tryz.results15]; go_simp) rfl ⟨rfl, bgo⟩
end
end
section
attribute [local irreducible] W4 Nz Nt
section
variable (n d : Int) (c : Int) (s g : Bool) (l : List UInt8) (x : Int) (T : List UInt8) (nm : ByteArray) (wd P ex lo m pa : Int) (dn : Bool) (w : World) (hT : Tab w)
include hT
set_option maxHeartbeats 2000000 in
theorem dmk_e (E : Int) (hE : (E != 0) = true) (c28 : ∀ W, Tab W → Calls Tryz.prog 18 #[.int .i64 n, .int .i64 d] W fun r w' => r = .returned (.tuple #[IZ, .int .i64 E]) ∧ Below W.heap.size W w') :
    Calls Tryz.prog 20 #[.int .i64 n, .int .i64 d, PV c s g l x] w fun r w' => r = .returned (.tuple #[Z4, .int .i64 0, .int .i64 E]) ∧ Below w.heap.size w w' := by
  have hsm := cell_set_map
  unfold PV at *
  go_enter Tryz.func20, Tryz.ntmps20
  go_wp2_with (go_at_call 18; refine (c28 _ (hT.go bgo)).mono ?_; rintro r w1 ⟨rfl, hb1⟩; obtain ⟨hc1, hf1⟩ := bcell hb1; have hz1_0 : w.heap.size < w1.heap.size := lt_below hb1 ltg; have hl1_0 := Nat.le_of_lt hz1_0; have hz1_1 : w.heap.size + 1 < w1.heap.size := lt_below hb1 ltg; have hl1_1 := Nat.le_of_lt hz1_1; have hA1 := bnext (w0 := w) bgo hb1; have hs1 := hA1.size; clear hb1)
  exact bodyPost_ret (v := .tuple #[Z4, .int .i64 0, .int .i64 E]) (by simp only [results, Tryz.results20]; go_simp) rfl ⟨rfl, bgo⟩
set_option maxHeartbeats 2000000 in
theorem drd_e (bs : ByteArray) (E : Int) (hE : (E != 0) = true) (c28 : ∀ W, Tab W → Calls Tryz.prog 18 #[.int .i64 n, .int .i64 d] W fun r w' => r = .returned (.tuple #[IZ, .int .i64 E]) ∧ Below W.heap.size W w') :
    Calls Tryz.prog 10 #[.int .i64 n, .int .i64 d, .string bs] w fun r w' => r = .returned (.tuple #[Z4, .int .i64 0, .int .i64 E]) ∧ Below w.heap.size w w' := by
  have hsm := cell_set_map
  go_enter Tryz.func10, Tryz.ntmps10
  go_wp2_with (go_at_call 18; refine (c28 _ (hT.go bgo)).mono ?_; rintro r w1 ⟨rfl, hb1⟩; obtain ⟨hc1, hf1⟩ := bcell hb1; have hz1_0 : w.heap.size < w1.heap.size := lt_below hb1 ltg; have hl1_0 := Nat.le_of_lt hz1_0; have hA1 := bnext (w0 := w) bgo hb1; have hs1 := hA1.size; clear hb1)
  exact bodyPost_ret (v := .tuple #[Z4, .int .i64 0, .int .i64 E]) (by simp only [results, Tryz.results10]; go_simp) rfl ⟨rfl, bgo⟩
variable (c28 : ∀ W, Tab W → Calls Tryz.prog 18 #[.int .i64 n, .int .i64 d] W fun r w' => r = .returned (.tuple #[IDec n nm wd P ex lo m pa dn, .int .i64 0]) ∧ Below W.heap.size W w')
include c28
set_option maxHeartbeats 2000000 in
theorem dmk_j (E : Int) (hE : (E != 0) = true) (c31 : ∀ W, Below w.heap.size w W → Calls Tryz.prog 27 #[PV c s g l x] W fun r w' => r = .returned (.tuple #[.string (B T), .int .i64 E]) ∧ Below W.heap.size W w') :
    Calls Tryz.prog 20 #[.int .i64 n, .int .i64 d, PV c s g l x] w fun r w' => r = .returned (.tuple #[Z4, .int .i64 0, .int .i64 2]) ∧ Below w.heap.size w w' := by
  have hsm := cell_set_map
  unfold PV at *
  go_enter Tryz.func20, Tryz.ntmps20
  go_wp2_with (first
    | (go_at_call 18; refine (c28 _ (hT.go bgo)).mono ?_; rintro r w1 ⟨rfl, hb1⟩; obtain ⟨hc1, hf1⟩ := bcell hb1; have hz1_0 : w.heap.size < w1.heap.size := lt_below hb1 ltg; have hl1_0 := Nat.le_of_lt hz1_0; have hz1_1 : w.heap.size + 1 < w1.heap.size := lt_below hb1 ltg; have hl1_1 := Nat.le_of_lt hz1_1; have hA1 := bnext (w0 := w) bgo hb1; have hs1 := hA1.size; clear hb1)
    | (go_at_call 27; refine (c31 _ bgo).mono ?_; rintro r w2 ⟨rfl, hb2⟩; obtain ⟨hc2, hf2⟩ := bcell hb2; have hz2_0 : w.heap.size < w2.heap.size := lt_below hb2 ltg; have hl2_0 := Nat.le_of_lt hz2_0; have hz2_1 : w.heap.size + 1 < w2.heap.size := lt_below hb2 ltg; have hl2_1 := Nat.le_of_lt hz2_1; have hz2_2 : w1.heap.size < w2.heap.size := lt_below hb2 ltg; have hl2_2 := Nat.le_of_lt hz2_2; have hA2 := bnext (w0 := w) bgo hb2; have hs2 := hA2.size; clear hb2))
  exact bodyPost_ret (v := .tuple #[Z4, .int .i64 0, .int .i64 2]) (by simp only [results, Tryz.results20]; go_simp) rfl ⟨rfl, bgo⟩
set_option maxHeartbeats 4000000 in
theorem dmk_k (R : Nat) (F E : Int) (vc vx : Int) (vs vg : Bool) (V0 V1 V2 V3 : Int) (c31 : ∀ W, Below w.heap.size w W → Calls Tryz.prog 27 #[PV c s g l x] W fun r w' => r = .returned (.tuple #[.string (B T), .int .i64 0]) ∧ Below W.heap.size W w')
    (c32 : ∀ W, Tab W → Calls Tryz.prog 39 #[IDec n nm wd P ex lo m pa dn, .int .i64 d, PV c s g l x] W fun r w' => r = .returned (.tuple #[.agg #[.int .i64 vc, .bool vs, .bool vg, .int .i64 vx, .int .u64 V0, .int .u64 V1, .int .u64 V2, .int .u64 V3], .int .i64 F]) ∧ Below W.heap.size W w')
    (c34 : ∀ W, Tab W → Calls Tryz.prog 14 #[.int .i64 n, .agg #[.int .i64 vc, .bool vs, .bool vg, .int .i64 vx, .int .u64 V0, .int .u64 V1, .int .u64 V2, .int .u64 V3]] W fun r w' => r = .returned (.tuple #[A4 R, .int .i64 E]) ∧ Below W.heap.size W w') :
    Calls Tryz.prog 20 #[.int .i64 n, .int .i64 d, PV c s g l x] w fun r w' => r = .returned (.tuple #[A4 R, .int .i64 F, .int .i64 E]) ∧ Below w.heap.size w w' := by
  have hsm := cell_set_map
  unfold PV A4 at *
  go_enter Tryz.func20, Tryz.ntmps20
  go_wp2_with (first
    | (go_at_call 18; refine (c28 _ (hT.go bgo)).mono ?_; rintro r w1 ⟨rfl, hb1⟩; obtain ⟨hc1, hf1⟩ := bcell hb1; have hz1_0 : w.heap.size < w1.heap.size := lt_below hb1 ltg; have hl1_0 := Nat.le_of_lt hz1_0; have hz1_1 : w.heap.size + 1 < w1.heap.size := lt_below hb1 ltg; have hl1_1 := Nat.le_of_lt hz1_1; have hA1 := bnext (w0 := w) bgo hb1; have hs1 := hA1.size; clear hb1)
    | (go_at_call 27; refine (c31 _ bgo).mono ?_; rintro r w2 ⟨rfl, hb2⟩; obtain ⟨hc2, hf2⟩ := bcell hb2; have hz2_0 : w.heap.size < w2.heap.size := lt_below hb2 ltg; have hl2_0 := Nat.le_of_lt hz2_0; have hz2_1 : w.heap.size + 1 < w2.heap.size := lt_below hb2 ltg; have hl2_1 := Nat.le_of_lt hz2_1; have hz2_2 : w1.heap.size < w2.heap.size := lt_below hb2 ltg; have hl2_2 := Nat.le_of_lt hz2_2; have hA2 := bnext (w0 := w) bgo hb2; have hs2 := hA2.size; clear hb2)
    | (go_at_call 39; refine (c32 _ (hT.go bgo)).mono ?_; rintro r w3 ⟨rfl, hb3⟩; obtain ⟨hc3, hf3⟩ := bcell hb3; have hz3_0 : w.heap.size < w3.heap.size := lt_below hb3 ltg; have hl3_0 := Nat.le_of_lt hz3_0; have hz3_1 : w.heap.size + 1 < w3.heap.size := lt_below hb3 ltg; have hl3_1 := Nat.le_of_lt hz3_1; have hz3_2 : w1.heap.size < w3.heap.size := lt_below hb3 ltg; have hl3_2 := Nat.le_of_lt hz3_2; have hA3 := bnext (w0 := w) bgo hb3; have hs3 := hA3.size; clear hb3)
    | (go_at_call 14; refine (c34 _ (hT.go bgo)).mono ?_; rintro r w4 ⟨rfl, hb4⟩; obtain ⟨hc4, hf4⟩ := bcell hb4; have hz4_0 : w.heap.size < w4.heap.size := lt_below hb4 ltg; have hl4_0 := Nat.le_of_lt hz4_0; have hz4_1 : w.heap.size + 1 < w4.heap.size := lt_below hb4 ltg; have hl4_1 := Nat.le_of_lt hz4_1; have hz4_2 : w1.heap.size < w4.heap.size := lt_below hb4 ltg; have hl4_2 := Nat.le_of_lt hz4_2; have hz4_3 : w3.heap.size < w4.heap.size := lt_below hb4 ltg; have hl4_3 := Nat.le_of_lt hz4_3; have hA4 := bnext (w0 := w) bgo hb4; have hs4 := hA4.size; clear hb4))
  exact bodyPost_ret (v := .tuple #[A4 R, .int .i64 F, .int .i64 E]) (by unfold A4; simp only [results, Tryz.results20]; go_simp) rfl ⟨rfl, bgo⟩
variable (bs : ByteArray) (pc px : Int) (ps pg : Bool) (pd : ByteArray)
set_option maxHeartbeats 2000000 in
theorem drd_c (E : Int) (hE : (E != 0) = true) (c30 : ∀ W, Calls Tryz.prog 19 #[.string bs] W fun r w' => r = .returned (.tuple #[.agg #[.int .i64 pc, .bool ps, .bool pg, .string pd, .int .i64 px], .int .i64 E]) ∧ Below W.heap.size W w') :
    Calls Tryz.prog 10 #[.int .i64 n, .int .i64 d, .string bs] w fun r w' => r = .returned (.tuple #[Z4, .int .i64 0, .int .i64 E]) ∧ Below w.heap.size w w' := by
  have hsm := cell_set_map
  go_enter Tryz.func10, Tryz.ntmps10
  go_wp2_with (first
    | (go_at_call 18; refine (c28 _ (hT.go bgo)).mono ?_; rintro r w1 ⟨rfl, hb1⟩; obtain ⟨hc1, hf1⟩ := bcell hb1; have hz1_0 : w.heap.size < w1.heap.size := lt_below hb1 ltg; have hl1_0 := Nat.le_of_lt hz1_0; have hA1 := bnext (w0 := w) bgo hb1; have hs1 := hA1.size; clear hb1)
    | (go_at_call 19; refine (c30 _).mono ?_; rintro r w2 ⟨rfl, hb2⟩; obtain ⟨hc2, hf2⟩ := bcell hb2; have hz2_0 : w.heap.size < w2.heap.size := lt_below hb2 ltg; have hl2_0 := Nat.le_of_lt hz2_0; have hz2_1 : w1.heap.size < w2.heap.size := lt_below hb2 ltg; have hl2_1 := Nat.le_of_lt hz2_1; have hA2 := bnext (w0 := w) bgo hb2; have hs2 := hA2.size; clear hb2))
  exact bodyPost_ret (v := .tuple #[Z4, .int .i64 0, .int .i64 E]) (by simp only [results, Tryz.results10]; go_simp) rfl ⟨rfl, bgo⟩
set_option maxHeartbeats 2000000 in
theorem drd_k (R : Nat) (F E : Int) (c30 : ∀ W, Calls Tryz.prog 19 #[.string bs] W fun r w' => r = .returned (.tuple #[.agg #[.int .i64 pc, .bool ps, .bool pg, .string pd, .int .i64 px], .int .i64 0]) ∧ Below W.heap.size W w')
    (c14 : ∀ W, Below w.heap.size w W → Calls Tryz.prog 20 #[.int .i64 n, .int .i64 d, .agg #[.int .i64 pc, .bool ps, .bool pg, .string pd, .int .i64 px]] W fun r w' => r = .returned (.tuple #[A4 R, .int .i64 F, .int .i64 E]) ∧ Below W.heap.size W w') :
    Calls Tryz.prog 10 #[.int .i64 n, .int .i64 d, .string bs] w fun r w' => r = .returned (.tuple #[A4 R, .int .i64 F, .int .i64 E]) ∧ Below w.heap.size w w' := by
  have hsm := cell_set_map
  unfold A4 at *
  go_enter Tryz.func10, Tryz.ntmps10
  go_wp2_with (first
    | (go_at_call 18; refine (c28 _ (hT.go bgo)).mono ?_; rintro r w1 ⟨rfl, hb1⟩; obtain ⟨hc1, hf1⟩ := bcell hb1; have hz1_0 : w.heap.size < w1.heap.size := lt_below hb1 ltg; have hl1_0 := Nat.le_of_lt hz1_0; have hA1 := bnext (w0 := w) bgo hb1; have hs1 := hA1.size; clear hb1)
    | (go_at_call 19; refine (c30 _).mono ?_; rintro r w2 ⟨rfl, hb2⟩; obtain ⟨hc2, hf2⟩ := bcell hb2; have hz2_0 : w.heap.size < w2.heap.size := lt_below hb2 ltg; have hl2_0 := Nat.le_of_lt hz2_0; have hz2_1 : w1.heap.size < w2.heap.size := lt_below hb2 ltg; have hl2_1 := Nat.le_of_lt hz2_1; have hA2 := bnext (w0 := w) bgo hb2; have hs2 := hA2.size; clear hb2)
    | (go_at_call 20; refine (c14 _ bgo).mono ?_; rintro r w3 ⟨rfl, hb3⟩; obtain ⟨hc3, hf3⟩ := bcell hb3; have hz3_0 : w.heap.size < w3.heap.size := lt_below hb3 ltg; have hl3_0 := Nat.le_of_lt hz3_0; have hz3_1 : w1.heap.size < w3.heap.size := lt_below hb3 ltg; have hl3_1 := Nat.le_of_lt hz3_1; have hz3_2 : w2.heap.size < w3.heap.size := lt_below hb3 ltg; have hl3_2 := Nat.le_of_lt hz3_2; have hA3 := bnext (w0 := w) bgo hb3; have hs3 := hA3.size; clear hb3))
  exact bodyPost_ret (v := .tuple #[A4 R, .int .i64 F, .int .i64 E]) (by unfold A4; simp only [results, Tryz.results10]; go_simp) rfl ⟨rfl, bgo⟩
end
section
variable (n : Int) (Bp : Nat) (c : Int) (s g ok : Bool) (x : Int) (k : Nat) (w : World) (hT : Tab w)
include hT
set_option maxHeartbeats 2000000 in
theorem dwx_e (E : Int) (hE : (E != 0) = true) (c21 : ∀ W, Tab W → Calls Tryz.prog 13 #[.int .i64 n, A4 Bp] W fun r w' => r = .returned (.tuple #[DV c s g x k, .bool ok, .int .i64 E]) ∧ Below W.heap.size W w') :
    Calls Tryz.prog 9 #[.int .i64 n, A4 Bp] w fun r w' => r = .returned (.tuple #[.string (B []), .int .i64 E]) ∧ Below w.heap.size w w' := by
  have hsm := cell_set_map
  unfold DV A4 at *
  go_enter Tryz.func9, Tryz.ntmps9
  go_wp2_with (go_at_call 13; refine (c21 _ (hT.go bgo)).mono ?_; rintro r w1 ⟨rfl, hb1⟩; obtain ⟨hc1, hf1⟩ := bcell hb1; have hz1_0 : w.heap.size < w1.heap.size := lt_below hb1 ltg; have hl1_0 := Nat.le_of_lt hz1_0; have hA1 := bnext (w0 := w) bgo hb1; have hs1 := hA1.size; clear hb1)
  exact bodyPost_ret (v := .tuple #[.string (B []), .int .i64 E]) (by simp only [results, Tryz.results9]; go_simp; rfl) rfl ⟨rfl, bgo⟩
variable (hT10 : Tb10 w) (c21 : ∀ W, Tab W → Calls Tryz.prog 13 #[.int .i64 n, A4 Bp] W fun r w' => r = .returned (.tuple #[DV c s g x k, .bool ok, .int .i64 0]) ∧ Below W.heap.size W w')
include hT10 c21
set_option maxHeartbeats 2000000 in
theorem dwx_o (hc : (c != 1) = true) (T : List UInt8) (c28 : ∀ W, Tb10 W → Calls Tryz.prog 15 #[DV c s g x k] W fun r w' => r = .returned (.string (B T)) ∧ Below W.heap.size W w') :
    Calls Tryz.prog 9 #[.int .i64 n, A4 Bp] w fun r w' => r = .returned (.tuple #[.string (B T), .int .i64 0]) ∧ Below w.heap.size w w' := by
  have hsm := cell_set_map
  unfold DV A4 at *
  go_enter Tryz.func9, Tryz.ntmps9
  go_wp2_with (first
    | (go_at_call 13; refine (c21 _ (hT.go bgo)).mono ?_; rintro r w1 ⟨rfl, hb1⟩; obtain ⟨hc1, hf1⟩ := bcell hb1; have hz1_0 : w.heap.size < w1.heap.size := lt_below hb1 ltg; have hl1_0 := Nat.le_of_lt hz1_0; have hA1 := bnext (w0 := w) bgo hb1; have hs1 := hA1.size; clear hb1)
    | (go_at_call 15; refine (c28 _ (hT10.next bgo)).mono ?_; rintro r w2 ⟨rfl, hb2⟩; obtain ⟨hc2, hf2⟩ := bcell hb2; have hz2_0 : w.heap.size < w2.heap.size := lt_below hb2 ltg; have hl2_0 := Nat.le_of_lt hz2_0; have hz2_1 : w1.heap.size < w2.heap.size := lt_below hb2 ltg; have hl2_1 := Nat.le_of_lt hz2_1; have hA2 := bnext (w0 := w) bgo hb2; have hs2 := hA2.size; clear hb2))
  exact bodyPost_ret (v := .tuple #[.string (B T), .int .i64 0]) (by simp only [results, Tryz.results9]; go_simp) rfl ⟨rfl, bgo⟩
variable (hc : c = 1) (hk : k < 2 ^ 256) (hx : -10000 ≤ x ∧ x ≤ 10000) (D : List UInt8) (hD : D.length ≤ 660) (T : List UInt8) (hTl : T.length ≤ 4000)
  (c20 : ∀ W v, Nt 4 k v W → Calls Tryz.prog 16 #[v] W fun r w' => r = .returned (.tuple #[.string (B D), .int .i64 0]) ∧ Below W.heap.size W w')
  (c29 : ∀ W, Tb10 W → Calls Tryz.prog 17 #[.string (B D), .int .i64 (x + ((B D).size : Int) - 1)] W fun r w' => r = .returned (.string (B T)) ∧ Below W.heap.size W w')
include hc hk hx hD hTl c20 c29
set_option maxHeartbeats 4000000 in
theorem dwx_f (hs : s = false) :
    Calls Tryz.prog 9 #[.int .i64 n, A4 Bp] w fun r w' => r = .returned (.tuple #[.string (B T), .int .i64 0]) ∧ Below w.heap.size w w' := by
  subst hc hs
  have hsz : ((B D).size : Int) ≤ 660 := by rw [B_size]; omega
  clear hD
  have hsm := cell_set_map
  unfold DV A4 at *
  go_enter Tryz.func9, Tryz.ntmps9
  go_wp2_with (first
    | (go_at_call 13; refine (c21 _ (hT.go bgo)).mono ?_; rintro r w1 ⟨rfl, hb1⟩; obtain ⟨hc1, hf1⟩ := bcell hb1; have hz1_0 : w.heap.size < w1.heap.size := lt_below hb1 ltg; have hl1_0 := Nat.le_of_lt hz1_0; have hA1 := bnext (w0 := w) bgo hb1; have hs1 := hA1.size; clear hb1)
    | (go_at_call 16; refine (c20 _ _ (nt_at hk (by first | (simp; done) | (simp; omega)) (by go_simp) (by go_simp) (by go_simp) (by go_simp))).mono ?_; rintro r w2 ⟨rfl, hb2⟩; obtain ⟨hc2, hf2⟩ := bcell hb2; have hz2_0 : w.heap.size < w2.heap.size := lt_below hb2 ltg; have hl2_0 := Nat.le_of_lt hz2_0; have hz2_1 : w1.heap.size < w2.heap.size := lt_below hb2 ltg; have hl2_1 := Nat.le_of_lt hz2_1; have hA2 := bnext (w0 := w) bgo hb2; have hs2 := hA2.size; clear hb2)
    | (go_at_call 17; refine (c29 _ (hT10.next bgo)).mono ?_; rintro r w3 ⟨rfl, hb3⟩; obtain ⟨hc3, hf3⟩ := bcell hb3; have hz3_0 : w.heap.size < w3.heap.size := lt_below hb3 ltg; have hl3_0 := Nat.le_of_lt hz3_0; have hz3_1 : w1.heap.size < w3.heap.size := lt_below hb3 ltg; have hl3_1 := Nat.le_of_lt hz3_1; have hA3 := bnext (w0 := w) bgo hb3; have hs3 := hA3.size; clear hb3))
  exact bodyPost_ret (v := .tuple #[.string (B T), .int .i64 0]) (by simp only [results, Tryz.results9]; go_simp) rfl ⟨rfl, bgo⟩
set_option maxHeartbeats 4000000 in
theorem dwx_t (hs : s = true) :
    Calls Tryz.prog 9 #[.int .i64 n, A4 Bp] w fun r w' => r = .returned (.tuple #[.string (B (45 :: T)), .int .i64 0]) ∧ Below w.heap.size w w' := by
  subst hc hs
  have hsz : ((B D).size : Int) ≤ 660 := by rw [B_size]; omega
  have hst : ((B T).size : Int) ≤ 4000 := by rw [B_size]; omega
  have eB : (⟨#[45]⟩ : ByteArray) ++ B T = B (45 :: T) := B_app [45] T
  rw [← eB]
  clear hD hTl eB
  have hsm := cell_set_map
  unfold DV A4 at *
  go_enter Tryz.func9, Tryz.ntmps9
  go_wp2_with (first
    | (go_at_call 13; refine (c21 _ (hT.go bgo)).mono ?_; rintro r w1 ⟨rfl, hb1⟩; obtain ⟨hc1, hf1⟩ := bcell hb1; have hz1_0 : w.heap.size < w1.heap.size := lt_below hb1 ltg; have hl1_0 := Nat.le_of_lt hz1_0; have hA1 := bnext (w0 := w) bgo hb1; have hs1 := hA1.size; clear hb1)
    | (go_at_call 16; refine (c20 _ _ (nt_at hk (by first | (simp; done) | (simp; omega)) (by go_simp) (by go_simp) (by go_simp) (by go_simp))).mono ?_; rintro r w2 ⟨rfl, hb2⟩; obtain ⟨hc2, hf2⟩ := bcell hb2; have hz2_0 : w.heap.size < w2.heap.size := lt_below hb2 ltg; have hl2_0 := Nat.le_of_lt hz2_0; have hz2_1 : w1.heap.size < w2.heap.size := lt_below hb2 ltg; have hl2_1 := Nat.le_of_lt hz2_1; have hA2 := bnext (w0 := w) bgo hb2; have hs2 := hA2.size; clear hb2)
    | (go_at_call 17; refine (c29 _ (hT10.next bgo)).mono ?_; rintro r w3 ⟨rfl, hb3⟩; obtain ⟨hc3, hf3⟩ := bcell hb3; have hz3_0 : w.heap.size < w3.heap.size := lt_below hb3 ltg; have hl3_0 := Nat.le_of_lt hz3_0; have hz3_1 : w1.heap.size < w3.heap.size := lt_below hb3 ltg; have hl3_1 := Nat.le_of_lt hz3_1; have hA3 := bnext (w0 := w) bgo hb3; have hs3 := hA3.size; clear hb3))
  exact bodyPost_ret (v := .tuple #[.string ((⟨#[45]⟩ : ByteArray) ++ B T), .int .i64 0]) (by simp only [results, Tryz.results9]; go_simp) rfl ⟨rfl, bgo⟩
end
end
section
attribute [local irreducible] W4 Nz Nt
section
variable (n : Int) (nm : ByteArray) (wd P ex lo m pa : Int) (dn : Bool) (d : Int) (c : Int) (s g : Bool) (l : List UInt8) (x : Int) (w : World)
set_option maxHeartbeats 4000000 in
theorem dtm_1 (hT : Tab w) (hc : c = 1) (A vk : Nat) (vc vx F E : Int) (vs vg : Bool)
    (c66 : ∀ W, Calls Tryz.prog 71 #[.string (B l)] W fun r w' => ∃ v, r = .returned v ∧ Nt 2001 A v w' ∧ Below W.heap.size W w')
    (c67 : ∀ W v, Tab W → Nt 2001 A v W → Calls Tryz.prog 70 #[.int .i64 n, .int .i64 d, .bool s, v, .int .i64 x] W fun r w' => r = .returned (.tuple #[DV vc vs vg vx vk, .int .i64 F, .int .i64 E]) ∧ Below W.heap.size W w') :
    Calls Tryz.prog 39 #[IDec n nm wd P ex lo m pa dn, .int .i64 d, PV c s g l x] w fun r w' => r = .returned (.tuple #[DV vc vs vg vx vk, .int .i64 F]) ∧ Below w.heap.size w w' := by
  subst hc
  have hsm := cell_set_map
  unfold PV
  go_enter Tryz.func39, Tryz.ntmps39
  go_upto_region 2 with fail
  refine regDt2 (g3 := w.heap.size) (g5 := w.heap.size + 1) rfl (hT.go bgo) rfl rfl rfl (by simp; omega) (by simp) (by go_simp) (by go_simp) (by go_simp) (by go_simp) c66 c67 ?_
  intro a2 w2 gd h8 h9 h10 hg hD hsz hdf hF2 hb2
  have ha := act_of slotsADt2 19 rfl hsz hdf hF2
  rw [ha]
  simp only [slotsADt2, List.foldl_cons, List.foldl_nil, Act.put, List.setIfInBounds_toArray, List.set_cons_succ, List.set_cons_zero, h8, h9, h10]
  clear ha h8 h9 h10 hsz hdf hF2 c66 c67
  simp only [World.size_alloc] at hg
  obtain ⟨hgl, _, hcs, hfr⟩ := hD
  have p0 : w2.cell? ⟨gd, 0, none⟩ = some (.int .i64 vc) := hcs 0 (by decide)
  have p1 : w2.cell? ⟨gd, 1, none⟩ = some (.bool vs) := hcs 1 (by decide)
  have p2 : w2.cell? ⟨gd, 2, none⟩ = some (.bool vg) := hcs 2 (by decide)
  have p3 : w2.cell? ⟨gd, 3, none⟩ = some (.int .i64 vx) := hcs 3 (by decide)
  have p4 : w2.cell? ⟨gd, 4, none⟩ = some (.int .u64 (W4 vk 0)) := hcs 4 (by decide)
  have p5 : w2.cell? ⟨gd, 5, none⟩ = some (.int .u64 (W4 vk 1)) := hcs 5 (by decide)
  have p6 : w2.cell? ⟨gd, 6, none⟩ = some (.int .u64 (W4 vk 2)) := hcs 6 (by decide)
  have p7 : w2.cell? ⟨gd, 7, none⟩ = some (.int .u64 (W4 vk 3)) := hcs 7 (by decide)
  clear hcs
  obtain ⟨hc2, hf2⟩ := bcell hb2; have hz2_0 : w.heap.size < w2.heap.size := lt_below hb2 ltg; have hl2_0 := Nat.le_of_lt hz2_0; have hz2_1 : w.heap.size + 1 < w2.heap.size := lt_below hb2 ltg; have hl2_1 := Nat.le_of_lt hz2_1; have hz2_2 : w.heap.size + 1 + 1 < w2.heap.size := lt_below hb2 ltg; have hl2_2 := Nat.le_of_lt hz2_2; have hA2 := bnext (w0 := w) bgo hb2; have hs2 := hA2.size; clear hb2
  have hne : ¬ gd = w.heap.size + 1 + 1 := by omega
  go_wp2
  exact bodyPost_ret (v := .tuple #[.agg #[.int .i64 vc, .bool vs, .bool vg, .int .i64 vx, .int .u64 (W4 vk 0), .int .u64 (W4 vk 1), .int .u64 (W4 vk 2), .int .u64 (W4 vk 3)], .int .i64 F]) (by simp only [results, Tryz.results39]; go_simp) rfl ⟨rfl, bgo⟩
variable (hc : (c == 1) = false)
include hc
set_option maxHeartbeats 2000000 in
theorem dtm_l (hl : ¬ ((B l).size : Int) ≤ pa) :
    Calls Tryz.prog 39 #[IDec n nm wd P ex lo m pa dn, .int .i64 d, PV c s g l x] w fun r w' => r = .returned (.tuple #[.agg #[.int .i64 c, .bool s, .bool g, .int .i64 0, .int .u64 0, .int .u64 0, .int .u64 0, .int .u64 0], .int .i64 0]) ∧ Below w.heap.size w w' := by
  have hsm := cell_set_map
  unfold PV at *
  go_enter Tryz.func39, Tryz.ntmps39
  go_wp2_with fail
  exact bodyPost_ret (v := .tuple #[.agg #[.int .i64 c, .bool s, .bool g, .int .i64 0, .int .u64 0, .int .u64 0, .int .u64 0, .int .u64 0], .int .i64 0]) (by simp only [results, Tryz.results39]; go_simp) rfl ⟨rfl, bgo⟩
variable (hl : ((B l).size : Int) ≤ pa) (A : Nat) (z : Nat → Int)
include hl
set_option maxHeartbeats 4000000 in
theorem dtm_c0 (c66 : ∀ W, Calls Tryz.prog 71 #[.string (B l)] W fun r w' => (∃ a cap, r = .returned (.slice a 0 cap)) ∧ Below W.heap.size W w') :
    Calls Tryz.prog 39 #[IDec n nm wd P ex lo m pa dn, .int .i64 d, PV c s g l x] w fun r w' => r = .returned (.tuple #[.agg #[.int .i64 c, .bool s, .bool g, .int .i64 0, .int .u64 0, .int .u64 0, .int .u64 0, .int .u64 0], .int .i64 0]) ∧ Below w.heap.size w w' := by
  have hsm := cell_set_map
  have hcp := copy0
  unfold PV at *
  go_enter Tryz.func39, Tryz.ntmps39
  go_upto_region 6 with fail
  go_region_with (first
    | (go_at_call 71; refine (c66 _).mono ?_; rintro r w1 ⟨⟨a, cap, rfl⟩, hb1⟩; obtain ⟨hc1, hf1⟩ := bcell hb1; have hz1_0 : w.heap.size < w1.heap.size := lt_below hb1 ltg; have hl1_0 := Nat.le_of_lt hz1_0; have hz1_1 : w.heap.size + 1 < w1.heap.size := lt_below hb1 ltg; have hl1_1 := Nat.le_of_lt hz1_1; have hz1_2 : w.heap.size + 1 + 1 < w1.heap.size := lt_below hb1 ltg; have hl1_2 := Nat.le_of_lt hz1_2; have hz1_3 : w.heap.size + 1 + 1 + 1 < w1.heap.size := lt_below hb1 ltg; have hl1_3 := Nat.le_of_lt hz1_3; have hA1 := bnext (w0 := w) bgo hb1; have hs1 := hA1.size; clear hb1))
  all_goals (
    go_wp2_with fail
    exact bodyPost_ret (v := .tuple #[.agg #[.int .i64 c, .bool s, .bool g, .int .i64 0, .int .u64 0, .int .u64 0, .int .u64 0, .int .u64 0], .int .i64 0]) (by simp only [results, Tryz.results39]; go_simp) rfl ⟨rfl, bgo⟩)
set_option maxHeartbeats 4000000 in
theorem dtm_c1 (c66 : ∀ W, Calls Tryz.prog 71 #[.string (B l)] W fun r w' => (∃ b off cap, r = .returned (.slice (some ⟨b, off, none⟩) 1 cap) ∧ b < w'.heap.size ∧ w'.cell? ⟨b, off + 0, none⟩ = some (.int .u64 (z 0))) ∧ Below W.heap.size W w') :
    Calls Tryz.prog 39 #[IDec n nm wd P ex lo m pa dn, .int .i64 d, PV c s g l x] w fun r w' => r = .returned (.tuple #[.agg #[.int .i64 c, .bool s, .bool g, .int .i64 0, .int .u64 (z 0), .int .u64 0, .int .u64 0, .int .u64 0], .int .i64 0]) ∧ Below w.heap.size w w' := by
  have hsm := cell_set_map
  have hcp := copy1
  unfold PV at *
  go_enter Tryz.func39, Tryz.ntmps39
  go_upto_region 6 with fail
  go_region_with (first
    | (go_at_call 71; refine (c66 _).mono ?_; rintro r w1 ⟨⟨b, off, cap, rfl, hbb, u0⟩, hb1⟩; try simp only [Nat.add_zero] at u0; obtain ⟨hc1, hf1⟩ := bcell hb1; have hz1_0 : w.heap.size < w1.heap.size := lt_below hb1 ltg; have hl1_0 := Nat.le_of_lt hz1_0; have hz1_1 : w.heap.size + 1 < w1.heap.size := lt_below hb1 ltg; have hl1_1 := Nat.le_of_lt hz1_1; have hz1_2 : w.heap.size + 1 + 1 < w1.heap.size := lt_below hb1 ltg; have hl1_2 := Nat.le_of_lt hz1_2; have hz1_3 : w.heap.size + 1 + 1 + 1 < w1.heap.size := lt_below hb1 ltg; have hl1_3 := Nat.le_of_lt hz1_3; have hA1 := bnext (w0 := w) bgo hb1; have hs1 := hA1.size; clear hb1))
  all_goals (
    go_wp2_with fail
    exact bodyPost_ret (v := .tuple #[.agg #[.int .i64 c, .bool s, .bool g, .int .i64 0, .int .u64 (z 0), .int .u64 0, .int .u64 0, .int .u64 0], .int .i64 0]) (by simp only [results, Tryz.results39]; go_simp) rfl ⟨rfl, bgo⟩)
set_option maxHeartbeats 4000000 in
theorem dtm_c2 (c66 : ∀ W, Calls Tryz.prog 71 #[.string (B l)] W fun r w' => (∃ b off cap, r = .returned (.slice (some ⟨b, off, none⟩) 2 cap) ∧ b < w'.heap.size ∧ w'.cell? ⟨b, off + 0, none⟩ = some (.int .u64 (z 0)) ∧ w'.cell? ⟨b, off + 1, none⟩ = some (.int .u64 (z 1))) ∧ Below W.heap.size W w') :
    Calls Tryz.prog 39 #[IDec n nm wd P ex lo m pa dn, .int .i64 d, PV c s g l x] w fun r w' => r = .returned (.tuple #[.agg #[.int .i64 c, .bool s, .bool g, .int .i64 0, .int .u64 (z 0), .int .u64 (z 1), .int .u64 0, .int .u64 0], .int .i64 0]) ∧ Below w.heap.size w w' := by
  have hsm := cell_set_map
  have hcp := copy2
  unfold PV at *
  go_enter Tryz.func39, Tryz.ntmps39
  go_upto_region 6 with fail
  go_region_with (first
    | (go_at_call 71; refine (c66 _).mono ?_; rintro r w1 ⟨⟨b, off, cap, rfl, hbb, u0, u1⟩, hb1⟩; try simp only [Nat.add_zero] at u0; obtain ⟨hc1, hf1⟩ := bcell hb1; have hz1_0 : w.heap.size < w1.heap.size := lt_below hb1 ltg; have hl1_0 := Nat.le_of_lt hz1_0; have hz1_1 : w.heap.size + 1 < w1.heap.size := lt_below hb1 ltg; have hl1_1 := Nat.le_of_lt hz1_1; have hz1_2 : w.heap.size + 1 + 1 < w1.heap.size := lt_below hb1 ltg; have hl1_2 := Nat.le_of_lt hz1_2; have hz1_3 : w.heap.size + 1 + 1 + 1 < w1.heap.size := lt_below hb1 ltg; have hl1_3 := Nat.le_of_lt hz1_3; have hA1 := bnext (w0 := w) bgo hb1; have hs1 := hA1.size; clear hb1))
  all_goals (
    go_wp2_with fail
    exact bodyPost_ret (v := .tuple #[.agg #[.int .i64 c, .bool s, .bool g, .int .i64 0, .int .u64 (z 0), .int .u64 (z 1), .int .u64 0, .int .u64 0], .int .i64 0]) (by simp only [results, Tryz.results39]; go_simp) rfl ⟨rfl, bgo⟩)
set_option maxHeartbeats 4000000 in
theorem dtm_c3 (c66 : ∀ W, Calls Tryz.prog 71 #[.string (B l)] W fun r w' => (∃ b off cap, r = .returned (.slice (some ⟨b, off, none⟩) 3 cap) ∧ b < w'.heap.size ∧ w'.cell? ⟨b, off + 0, none⟩ = some (.int .u64 (z 0)) ∧ w'.cell? ⟨b, off + 1, none⟩ = some (.int .u64 (z 1)) ∧ w'.cell? ⟨b, off + 2, none⟩ = some (.int .u64 (z 2))) ∧ Below W.heap.size W w') :
    Calls Tryz.prog 39 #[IDec n nm wd P ex lo m pa dn, .int .i64 d, PV c s g l x] w fun r w' => r = .returned (.tuple #[.agg #[.int .i64 c, .bool s, .bool g, .int .i64 0, .int .u64 (z 0), .int .u64 (z 1), .int .u64 (z 2), .int .u64 0], .int .i64 0]) ∧ Below w.heap.size w w' := by
  have hsm := cell_set_map
  have hcp := copy3
  unfold PV at *
  go_enter Tryz.func39, Tryz.ntmps39
  go_upto_region 6 with fail
  go_region_with (first
    | (go_at_call 71; refine (c66 _).mono ?_; rintro r w1 ⟨⟨b, off, cap, rfl, hbb, u0, u1, u2⟩, hb1⟩; try simp only [Nat.add_zero] at u0; obtain ⟨hc1, hf1⟩ := bcell hb1; have hz1_0 : w.heap.size < w1.heap.size := lt_below hb1 ltg; have hl1_0 := Nat.le_of_lt hz1_0; have hz1_1 : w.heap.size + 1 < w1.heap.size := lt_below hb1 ltg; have hl1_1 := Nat.le_of_lt hz1_1; have hz1_2 : w.heap.size + 1 + 1 < w1.heap.size := lt_below hb1 ltg; have hl1_2 := Nat.le_of_lt hz1_2; have hz1_3 : w.heap.size + 1 + 1 + 1 < w1.heap.size := lt_below hb1 ltg; have hl1_3 := Nat.le_of_lt hz1_3; have hA1 := bnext (w0 := w) bgo hb1; have hs1 := hA1.size; clear hb1))
  all_goals (
    go_wp2_with fail
    exact bodyPost_ret (v := .tuple #[.agg #[.int .i64 c, .bool s, .bool g, .int .i64 0, .int .u64 (z 0), .int .u64 (z 1), .int .u64 (z 2), .int .u64 0], .int .i64 0]) (by simp only [results, Tryz.results39]; go_simp) rfl ⟨rfl, bgo⟩)
set_option maxHeartbeats 4000000 in
theorem dtm_c4 (c66 : ∀ W, Calls Tryz.prog 71 #[.string (B l)] W fun r w' => (∃ b off cap, r = .returned (.slice (some ⟨b, off, none⟩) 4 cap) ∧ b < w'.heap.size ∧ w'.cell? ⟨b, off + 0, none⟩ = some (.int .u64 (z 0)) ∧ w'.cell? ⟨b, off + 1, none⟩ = some (.int .u64 (z 1)) ∧ w'.cell? ⟨b, off + 2, none⟩ = some (.int .u64 (z 2)) ∧ w'.cell? ⟨b, off + 3, none⟩ = some (.int .u64 (z 3))) ∧ Below W.heap.size W w') :
    Calls Tryz.prog 39 #[IDec n nm wd P ex lo m pa dn, .int .i64 d, PV c s g l x] w fun r w' => r = .returned (.tuple #[.agg #[.int .i64 c, .bool s, .bool g, .int .i64 0, .int .u64 (z 0), .int .u64 (z 1), .int .u64 (z 2), .int .u64 (z 3)], .int .i64 0]) ∧ Below w.heap.size w w' := by
  have hsm := cell_set_map
  have hcp := copy4
  unfold PV at *
  go_enter Tryz.func39, Tryz.ntmps39
  go_upto_region 6 with fail
  go_region_with (first
    | (go_at_call 71; refine (c66 _).mono ?_; rintro r w1 ⟨⟨b, off, cap, rfl, hbb, u0, u1, u2, u3⟩, hb1⟩; try simp only [Nat.add_zero] at u0; obtain ⟨hc1, hf1⟩ := bcell hb1; have hz1_0 : w.heap.size < w1.heap.size := lt_below hb1 ltg; have hl1_0 := Nat.le_of_lt hz1_0; have hz1_1 : w.heap.size + 1 < w1.heap.size := lt_below hb1 ltg; have hl1_1 := Nat.le_of_lt hz1_1; have hz1_2 : w.heap.size + 1 + 1 < w1.heap.size := lt_below hb1 ltg; have hl1_2 := Nat.le_of_lt hz1_2; have hz1_3 : w.heap.size + 1 + 1 + 1 < w1.heap.size := lt_below hb1 ltg; have hl1_3 := Nat.le_of_lt hz1_3; have hA1 := bnext (w0 := w) bgo hb1; have hs1 := hA1.size; clear hb1))
  all_goals (
    go_wp2_with fail
    exact bodyPost_ret (v := .tuple #[.agg #[.int .i64 c, .bool s, .bool g, .int .i64 0, .int .u64 (z 0), .int .u64 (z 1), .int .u64 (z 2), .int .u64 (z 3)], .int .i64 0]) (by simp only [results, Tryz.results39]; go_simp) rfl ⟨rfl, bgo⟩)
end
end
end Go.Proofs.YtehgnckgmdkfmaaGreatDoor
