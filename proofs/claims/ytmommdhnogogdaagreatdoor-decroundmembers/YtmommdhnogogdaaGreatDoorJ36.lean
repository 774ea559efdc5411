/-
  Texts that the proof leans on, joined: Ee.
-/
import Derived.Test.YtmommdhnogogdaaGreatDoorJ35
import Derived.Test.YtmommdhnogogdaaGreatDoorJ14
import Derived.Test.YtmommdhnogogdaaGreatDoorJ15
import Derived.Test.YtmommdhnogogdaaGreatDoorJ1
set_option linter.unusedVariables false
set_option linter.unusedSectionVars false
set_option linter.unusedSimpArgs false
set_option maxRecDepth 20000
namespace Go.Proofs.YtmommdhnogogdaaGreatDoor
open Go.RowKit
attribute [local irreducible] W4
section
variable (s : Bool) (x : Int) (z : Nat → Int) (w : World)
set_option maxHeartbeats 1000000 in
theorem dfin_n :
    Calls Tryz.prog 25 #[.bool s, .slice none 0 0, .int .i64 x] w fun r w' => r = .returned (.agg #[.int .i64 1, .bool s, .bool false, .int .i64 x, .int .u64 0, .int .u64 0, .int .u64 0, .int .u64 0]) ∧ Below w.heap.size w w' := by
  have hsm := cell_set_map
  have hcp := copy0
  go_enter Tryz.func25, Tryz.ntmps25
  go_wp2
  exact bodyPost_ret (v := .agg #[.int .i64 1, .bool s, .bool false, .int .i64 x, .int .u64 0, .int .u64 0, .int .u64 0, .int .u64 0]) (by simp only [results, Tryz.results25]; go_simp) rfl ⟨rfl, bgo⟩
set_option maxHeartbeats 1000000 in
theorem dfin_0 (b off cap : Nat) (hb : b < w.heap.size) :
    Calls Tryz.prog 25 #[.bool s, .slice (some ⟨b, off, none⟩) 0 cap, .int .i64 x] w fun r w' => r = .returned (.agg #[.int .i64 1, .bool s, .bool false, .int .i64 x, .int .u64 0, .int .u64 0, .int .u64 0, .int .u64 0]) ∧ Below w.heap.size w w' := by
  have hsm := cell_set_map
  have hcp := copy0
  go_enter Tryz.func25, Tryz.ntmps25
  go_wp2
  exact bodyPost_ret (v := .agg #[.int .i64 1, .bool s, .bool false, .int .i64 x, .int .u64 0, .int .u64 0, .int .u64 0, .int .u64 0]) (by simp only [results, Tryz.results25]; go_simp) rfl ⟨rfl, bgo⟩
set_option maxHeartbeats 1000000 in
theorem dfin_1 (b off cap : Nat) (hb : b < w.heap.size) (h0 : w.cell? ⟨b, off + 0, none⟩ = some (.int .u64 (z 0))) :
    Calls Tryz.prog 25 #[.bool s, .slice (some ⟨b, off, none⟩) 1 cap, .int .i64 x] w fun r w' => r = .returned (.agg #[.int .i64 1, .bool s, .bool false, .int .i64 x, .int .u64 (z 0), .int .u64 0, .int .u64 0, .int .u64 0]) ∧ Below w.heap.size w w' := by
  have hsm := cell_set_map
  simp only [Nat.add_zero] at h0
  have hcp := copy1
  have e0 : b ≤ w.heap.size := by omega
  have e1 : b < w.heap.size + 1 := by omega
  have e2 : b < w.heap.size + 1 + 1 := by omega
  have e3 : b < w.heap.size + 2 := by omega
  have e4 : b ≤ w.heap.size + 1 := by omega
  have n0 : ¬ b = w.heap.size := by omega
  have n1 : ¬ b = w.heap.size + 1 := by omega
  have n2 : ¬ b = w.heap.size + 1 + 1 := by omega
  go_enter Tryz.func25, Tryz.ntmps25
  go_wp2
  exact bodyPost_ret (v := .agg #[.int .i64 1, .bool s, .bool false, .int .i64 x, .int .u64 (z 0), .int .u64 0, .int .u64 0, .int .u64 0]) (by simp only [results, Tryz.results25]; go_simp) rfl ⟨rfl, bgo⟩
set_option maxHeartbeats 1000000 in
theorem dfin_2 (b off cap : Nat) (hb : b < w.heap.size) (h0 : w.cell? ⟨b, off + 0, none⟩ = some (.int .u64 (z 0))) (h1 : w.cell? ⟨b, off + 1, none⟩ = some (.int .u64 (z 1))) :
    Calls Tryz.prog 25 #[.bool s, .slice (some ⟨b, off, none⟩) 2 cap, .int .i64 x] w fun r w' => r = .returned (.agg #[.int .i64 1, .bool s, .bool false, .int .i64 x, .int .u64 (z 0), .int .u64 (z 1), .int .u64 0, .int .u64 0]) ∧ Below w.heap.size w w' := by
  have hsm := cell_set_map
  simp only [Nat.add_zero] at h0
  have hcp := copy2
  have e0 : b ≤ w.heap.size := by omega
  have e1 : b < w.heap.size + 1 := by omega
  have e2 : b < w.heap.size + 1 + 1 := by omega
  have e3 : b < w.heap.size + 2 := by omega
  have e4 : b ≤ w.heap.size + 1 := by omega
  have n0 : ¬ b = w.heap.size := by omega
  have n1 : ¬ b = w.heap.size + 1 := by omega
  have n2 : ¬ b = w.heap.size + 1 + 1 := by omega
  go_enter Tryz.func25, Tryz.ntmps25
  go_wp2
  exact bodyPost_ret (v := .agg #[.int .i64 1, .bool s, .bool false, .int .i64 x, .int .u64 (z 0), .int .u64 (z 1), .int .u64 0, .int .u64 0]) (by simp only [results, Tryz.results25]; go_simp) rfl ⟨rfl, bgo⟩
set_option maxHeartbeats 1000000 in
theorem dfin_3 (b off cap : Nat) (hb : b < w.heap.size) (h0 : w.cell? ⟨b, off + 0, none⟩ = some (.int .u64 (z 0))) (h1 : w.cell? ⟨b, off + 1, none⟩ = some (.int .u64 (z 1))) (h2 : w.cell? ⟨b, off + 2, none⟩ = some (.int .u64 (z 2))) :
    Calls Tryz.prog 25 #[.bool s, .slice (some ⟨b, off, none⟩) 3 cap, .int .i64 x] w fun r w' => r = .returned (.agg #[.int .i64 1, .bool s, .bool false, .int .i64 x, .int .u64 (z 0), .int .u64 (z 1), .int .u64 (z 2), .int .u64 0]) ∧ Below w.heap.size w w' := by
  have hsm := cell_set_map
  simp only [Nat.add_zero] at h0
  have hcp := copy3
  have e0 : b ≤ w.heap.size := by omega
  have e1 : b < w.heap.size + 1 := by omega
  have e2 : b < w.heap.size + 1 + 1 := by omega
  have e3 : b < w.heap.size + 2 := by omega
  have e4 : b ≤ w.heap.size + 1 := by omega
  have n0 : ¬ b = w.heap.size := by omega
  have n1 : ¬ b = w.heap.size + 1 := by omega
  have n2 : ¬ b = w.heap.size + 1 + 1 := by omega
  go_enter Tryz.func25, Tryz.ntmps25
  go_wp2
  exact bodyPost_ret (v := .agg #[.int .i64 1, .bool s, .bool false, .int .i64 x, .int .u64 (z 0), .int .u64 (z 1), .int .u64 (z 2), .int .u64 0]) (by simp only [results, Tryz.results25]; go_simp) rfl ⟨rfl, bgo⟩
set_option maxHeartbeats 1000000 in
theorem dfin_4 (b off cap : Nat) (hb : b < w.heap.size) (h0 : w.cell? ⟨b, off + 0, none⟩ = some (.int .u64 (z 0))) (h1 : w.cell? ⟨b, off + 1, none⟩ = some (.int .u64 (z 1))) (h2 : w.cell? ⟨b, off + 2, none⟩ = some (.int .u64 (z 2))) (h3 : w.cell? ⟨b, off + 3, none⟩ = some (.int .u64 (z 3))) :
    Calls Tryz.prog 25 #[.bool s, .slice (some ⟨b, off, none⟩) 4 cap, .int .i64 x] w fun r w' => r = .returned (.agg #[.int .i64 1, .bool s, .bool false, .int .i64 x, .int .u64 (z 0), .int .u64 (z 1), .int .u64 (z 2), .int .u64 (z 3)]) ∧ Below w.heap.size w w' := by
  have hsm := cell_set_map
  simp only [Nat.add_zero] at h0
  have hcp := copy4
  have e0 : b ≤ w.heap.size := by omega
  have e1 : b < w.heap.size + 1 := by omega
  have e2 : b < w.heap.size + 1 + 1 := by omega
  have e3 : b < w.heap.size + 2 := by omega
  have e4 : b ≤ w.heap.size + 1 := by omega
  have n0 : ¬ b = w.heap.size := by omega
  have n1 : ¬ b = w.heap.size + 1 := by omega
  have n2 : ¬ b = w.heap.size + 1 + 1 := by omega
  go_enter Tryz.func25, Tryz.ntmps25
  go_wp2
  exact bodyPost_ret (v := .agg #[.int .i64 1, .bool s, .bool false, .int .i64 x, .int .u64 (z 0), .int .u64 (z 1), .int .u64 (z 2), .int .u64 (z 3)]) (by simp only [results, Tryz.results25]; go_simp) rfl ⟨rfl, bgo⟩
end
/-- a finite number of a format -/
theorem dfin_v (s : Bool) (x : Int) {K C : Nat} {v : Value} {w : World} (h : Nz K C v w) (hC : C < 2 ^ 256) :
    Calls Tryz.prog 25 #[.bool s, v, .int .i64 x] w fun r w' => r = .returned (DV 1 s false x C) ∧ Below w.heap.size w w' := by
  obtain ⟨a, k, cap, z, rfl, hk, hN, hv, hs⟩ := h
  have hk4 : k ≤ 4 := by
    have := (size_bl (m := 4) hN.2.2.1 hv).2 (bl_le.2 hC)
    omega
  have hv4 : val z 4 = (C : Int) := by rw [val_more hN.2.2.2.1 4 hk4, hv]
  have hz : ∀ i, i < 4 → z i = W4 C i := val_inj hN.2.2.1 (W4_words C) 4 (by rw [hv4, W4_val4 hC])
  have ed : DV 1 s false x C = .agg #[.int .i64 1, .bool s, .bool false, .int .i64 x, .int .u64 (z 0), .int .u64 (z 1), .int .u64 (z 2), .int .u64 (z 3)] := by
    unfold DV
    rw [hz 0 (by decide), hz 1 (by decide), hz 2 (by decide), hz 3 (by decide)]
  rw [ed]
  have z0 := hN.2.2.2.1
  obtain ⟨n1, n2, n3, n4, n5⟩ := hN
  rcases n5 with ⟨rfl, rfl⟩ | ⟨b, off, rfl, hb, hc⟩
  · obtain rfl : k = 0 := by omega
    rw [z0 0 (by omega), z0 1 (by omega), z0 2 (by omega), z0 3 (by omega)]
    exact dfin_n s x w
  · have : k = 0 ∨ k = 1 ∨ k = 2 ∨ k = 3 ∨ k = 4 := by omega
    rcases this with rfl | rfl | rfl | rfl | rfl
    · rw [z0 0 (by omega), z0 1 (by omega), z0 2 (by omega), z0 3 (by omega)]
      exact dfin_0 s x w b off cap hb
    · rw [z0 1 (by omega), z0 2 (by omega), z0 3 (by omega)]
      exact dfin_1 s x z w b off cap hb (hc 0 (by decide))
    · rw [z0 2 (by omega), z0 3 (by omega)]
      exact dfin_2 s x z w b off cap hb (hc 0 (by decide)) (hc 1 (by decide))
    · rw [z0 3 (by omega)]
      exact dfin_3 s x z w b off cap hb (hc 0 (by decide)) (hc 1 (by decide)) (hc 2 (by decide))
    · exact dfin_4 s x z w b off cap hb (hc 0 (by decide)) (hc 1 (by decide)) (hc 2 (by decide)) (hc 3 (by decide))
theorem nsub_vd {K K' V V' : Nat} {v v' : Value} {w : World} (hK : K < 100000000) (hK' : K' < 100000000) (h : Nt K V v w) (h' : Nt K' V' v' w) (hle : V' ≤ V) :
    Calls Tryz.prog 73 #[v, v'] w fun e w' => ∃ r, e = .returned (.tuple #[r, .int .i64 0]) ∧ Nz K (V - V') r w' ∧ Below w.heap.size w w' := by
  obtain ⟨a, k, cap, z, rfl, hk, hN, hv⟩ := h
  obtain ⟨a', k', cap', z', rfl, hk', hN', hv'⟩ := h'
  have s1 := sizeL_le z k
  refine (nsubF a a' k cap k' cap' z z' w (by omega) (by omega) hN hN' (by rw [hv, hv']; omega)).mono fun e w' ⟨g, k2, cap2, z2, h1, h2, h3, h4, h5, h6, _⟩ => ⟨_, h1, ⟨_, k2, cap2, z2, rfl, by omega, h3, ?_, h5⟩, h6⟩
  rw [h4, hv, hv']; omega
attribute [local irreducible] Nz Nt NT
section
variable (n : Int) (nm : ByteArray) (wd P ex l m pa : Int) (dn : Bool) (d : Int) (s : Bool) (w : World)
set_option maxHeartbeats 1000000 in
theorem dover_i (h : inB d s = true) :
    Calls Tryz.prog 32 #[IDec n nm wd P ex l m pa dn, .int .i64 d, .bool s] w fun r w' => r = .returned (.agg #[.int .i64 2, .bool s, .bool false, .int .i64 0, .int .u64 0, .int .u64 0, .int .u64 0, .int .u64 0]) ∧ Below w.heap.size w w' := by
  have hsm := cell_set_map
  have c64 := infinite_any d s
  rw [h] at c64
  go_enter Tryz.func32, Tryz.ntmps32
  go_wp2_with (go_at_call 72; refine (c64 _).mono ?_; rintro r w0 ⟨rfl, rfl⟩)
  exact bodyPost_ret (v := .agg #[.int .i64 2, .bool s, .bool false, .int .i64 0, .int .u64 0, .int .u64 0, .int .u64 0, .int .u64 0]) (by simp only [results, Tryz.results32]; go_simp) rfl ⟨rfl, bgo⟩
set_option maxHeartbeats 2000000 in
theorem dover_l (h : inB d s = false) (T G : Nat) (vc vx V0 V1 V2 V3 : Int) (vs vg : Bool)
    (c25 : ∀ W, Calls Tryz.prog 31 #[.int .i64 P] W fun r w' => ∃ v, r = .returned v ∧ NT 2001 T v w' ∧ Below W.heap.size W w')
    (c49 : ∀ W v u, Nt 2001 T v W → Nt 1 1 u W → Calls Tryz.prog 73 #[v, u] W fun e w' => ∃ r, e = .returned (.tuple #[r, .int .i64 0]) ∧ Nz 2001 G r w' ∧ Below W.heap.size W w')
    (c19 : ∀ W v, Nz 2001 G v W → Calls Tryz.prog 25 #[.bool s, v, .int .i64 m] W fun r w' => r = .returned (.agg #[.int .i64 vc, .bool vs, .bool vg, .int .i64 vx, .int .u64 V0, .int .u64 V1, .int .u64 V2, .int .u64 V3]) ∧ Below W.heap.size W w') :
    Calls Tryz.prog 32 #[IDec n nm wd P ex l m pa dn, .int .i64 d, .bool s] w fun r w' => r = .returned (.agg #[.int .i64 vc, .bool vs, .bool vg, .int .i64 vx, .int .u64 V0, .int .u64 V1, .int .u64 V2, .int .u64 V3]) ∧ Below w.heap.size w w' := by
  have hsm := cell_set_map
  have c64 := infinite_any d s
  rw [h] at c64
  go_enter Tryz.func32, Tryz.ntmps32
  go_wp2_with (first
    | (go_at_call 72; refine (c64 _).mono ?_; rintro r w0 ⟨rfl, rfl⟩)
    | (go_at_call 31; refine (c25 _).mono ?_; rintro r w2 ⟨v2, rfl, hv2, hb2⟩; have hk2 := hb2; obtain ⟨hc2, hf2⟩ := bcell hb2; have hz2_0 : w.heap.size < w2.heap.size := lt_below hb2 ltg; have hl2_0 := Nat.le_of_lt hz2_0; have hz2_1 : w.heap.size + 1 < w2.heap.size := lt_below hb2 ltg; have hl2_1 := Nat.le_of_lt hz2_1; have hA2 := bnext (w0 := w) bgo hb2; have hs2 := hA2.size; clear hb2)
    | (go_at_call 73; refine (c49 _ _ _ (hv2.nt.next (below1 _ _)) (nt_w1 (by simp) rfl (by decide))).mono ?_; rintro r w3 ⟨v3, rfl, hv3, hb3⟩; obtain ⟨hc3, hf3⟩ := bcell hb3; have hz3_0 : w.heap.size < w3.heap.size := lt_below hb3 ltg; have hl3_0 := Nat.le_of_lt hz3_0; have hz3_1 : w.heap.size + 1 < w3.heap.size := lt_below hb3 ltg; have hl3_1 := Nat.le_of_lt hz3_1; have hA3 := bnext (w0 := w) bgo hb3; have hs3 := hA3.size; clear hb3)
    | (go_at_call 25; refine (c19 _ _ hv3).mono ?_; rintro r w4 ⟨rfl, hb4⟩; obtain ⟨hc4, hf4⟩ := bcell hb4; have hz4_0 : w.heap.size < w4.heap.size := lt_below hb4 ltg; have hl4_0 := Nat.le_of_lt hz4_0; have hz4_1 : w.heap.size + 1 < w4.heap.size := lt_below hb4 ltg; have hl4_1 := Nat.le_of_lt hz4_1; have hA4 := bnext (w0 := w) bgo hb4; have hs4 := hA4.size; clear hb4))
  exact bodyPost_ret (v := .agg #[.int .i64 vc, .bool vs, .bool vg, .int .i64 vx, .int .u64 V0, .int .u64 V1, .int .u64 V2, .int .u64 V3]) (by simp only [results, Tryz.results32]; go_simp) rfl ⟨rfl, bgo⟩
end
section
variable (n d : Int) (nm : ByteArray) (wd P ex l m pa b : Int) (dn : Bool) (N D : Nat) (vn vd : Value) (w : World) (hT : Tab w)
  (c66 : ∀ W, Below w.heap.size w W → Calls Tryz.prog 24 #[vn] W fun e w' => e = .returned (.int .i64 (bl N : Int)) ∧ W = w')
  (c66d : ∀ W, Below w.heap.size w W → Calls Tryz.prog 24 #[vd] W fun e w' => e = .returned (.int .i64 (bl D : Int)) ∧ W = w')
include hT c66 c66d
set_option maxHeartbeats 1000000 in
theorem dcheck_e (i0 E : Int) (hE : (E != 0) = true)
    (c52 : ∀ W, Tab W → Calls Tryz.prog 60 #[.int .i64 n] W fun r w' => r = .returned (.tuple #[.agg #[.int .i64 i0, .string nm, .int .i64 b, .int .i64 wd, .int .i64 P, .int .i64 ex, .int .i64 l, .int .i64 m, .int .i64 pa, .bool dn], .int .i64 E]) ∧ Below W.heap.size W w') :
    Calls Tryz.prog 23 #[.int .i64 n, .int .i64 d, vn, vd] w fun r w' => r = .returned (.tuple #[IZ, .int .i64 1]) ∧ Below w.heap.size w w' := by
  have hsm := cell_set_map
  go_enter Tryz.func23, Tryz.ntmps23
  go_wp2_with (first
    | (go_at_call 60; refine (c52 _ (hT.go bgo)).mono ?_; rintro r w1 ⟨rfl, hb1⟩; obtain ⟨hc1, hf1⟩ := bcell hb1; have hz1_0 : w.heap.size < w1.heap.size := lt_below hb1 ltg; have hl1_0 := Nat.le_of_lt hz1_0; have hA1 := bnext (w0 := w) bgo hb1; have hs1 := hA1.size; clear hb1))
  exact bodyPost_ret (v := .tuple #[IZ, .int .i64 1]) (by simp only [results, Tryz.results23]; go_simp) rfl ⟨rfl, bgo⟩
set_option maxHeartbeats 1000000 in
theorem dcheck_b (i0 : Int) (hE : (b != 10) = true)
    (c52 : ∀ W, Tab W → Calls Tryz.prog 60 #[.int .i64 n] W fun r w' => r = .returned (.tuple #[.agg #[.int .i64 i0, .string nm, .int .i64 b, .int .i64 wd, .int .i64 P, .int .i64 ex, .int .i64 l, .int .i64 m, .int .i64 pa, .bool dn], .int .i64 0]) ∧ Below W.heap.size W w') :
    Calls Tryz.prog 23 #[.int .i64 n, .int .i64 d, vn, vd] w fun r w' => r = .returned (.tuple #[IZ, .int .i64 1]) ∧ Below w.heap.size w w' := by
  have hsm := cell_set_map
  go_enter Tryz.func23, Tryz.ntmps23
  go_wp2_with (first
    | (go_at_call 60; refine (c52 _ (hT.go bgo)).mono ?_; rintro r w1 ⟨rfl, hb1⟩; obtain ⟨hc1, hf1⟩ := bcell hb1; have hz1_0 : w.heap.size < w1.heap.size := lt_below hb1 ltg; have hl1_0 := Nat.le_of_lt hz1_0; have hA1 := bnext (w0 := w) bgo hb1; have hs1 := hA1.size; clear hb1))
  exact bodyPost_ret (v := .tuple #[IZ, .int .i64 1]) (by simp only [results, Tryz.results23]; go_simp) rfl ⟨rfl, bgo⟩
set_option maxHeartbeats 1000000 in
theorem dcheck_d (hd : decide (knB d) = false)
    (c52 : ∀ W, Tab W → Calls Tryz.prog 60 #[.int .i64 n] W fun r w' => r = .returned (.tuple #[IDec n nm wd P ex l m pa dn, .int .i64 0]) ∧ Below W.heap.size W w') :
    Calls Tryz.prog 23 #[.int .i64 n, .int .i64 d, vn, vd] w fun r w' => r = .returned (.tuple #[IZ, .int .i64 1]) ∧ Below w.heap.size w w' := by
  have hsm := cell_set_map
  have c53 := known_any d
  rw [hd] at c53
  go_enter Tryz.func23, Tryz.ntmps23
  go_wp2_with (first
    | (go_at_call 60; refine (c52 _ (hT.go bgo)).mono ?_; rintro r w1 ⟨rfl, hb1⟩; obtain ⟨hc1, hf1⟩ := bcell hb1; have hz1_0 : w.heap.size < w1.heap.size := lt_below hb1 ltg; have hl1_0 := Nat.le_of_lt hz1_0; have hA1 := bnext (w0 := w) bgo hb1; have hs1 := hA1.size; clear hb1)
    | (go_at_call 61; refine (c53 _).mono ?_; rintro r w2 ⟨rfl, rfl⟩))
  exact bodyPost_ret (v := .tuple #[IZ, .int .i64 1]) (by simp only [results, Tryz.results23]; go_simp) rfl ⟨rfl, bgo⟩
set_option maxHeartbeats 1000000 in
theorem dcheck_z (hd : decide (knB d) = true) (hD : (((bl D : Nat) : Int) == 0) = true)
    (c52 : ∀ W, Tab W → Calls Tryz.prog 60 #[.int .i64 n] W fun r w' => r = .returned (.tuple #[IDec n nm wd P ex l m pa dn, .int .i64 0]) ∧ Below W.heap.size W w') :
    Calls Tryz.prog 23 #[.int .i64 n, .int .i64 d, vn, vd] w fun r w' => r = .returned (.tuple #[IZ, .int .i64 1]) ∧ Below w.heap.size w w' := by
  have hsm := cell_set_map
  have c53 := known_any d
  rw [hd] at c53
  go_enter Tryz.func23, Tryz.ntmps23
  go_wp2_with (first
    | (go_at_call 60; refine (c52 _ (hT.go bgo)).mono ?_; rintro r w1 ⟨rfl, hb1⟩; obtain ⟨hc1, hf1⟩ := bcell hb1; have hz1_0 : w.heap.size < w1.heap.size := lt_below hb1 ltg; have hl1_0 := Nat.le_of_lt hz1_0; have hA1 := bnext (w0 := w) bgo hb1; have hs1 := hA1.size; clear hb1)
    | (go_at_call 61; refine (c53 _).mono ?_; rintro r w2 ⟨rfl, rfl⟩)
    | (go_at_call_of 24 vd; refine (c66d _ bgo).mono ?_; rintro r w4 ⟨rfl, rfl⟩))
  exact bodyPost_ret (v := .tuple #[IZ, .int .i64 1]) (by simp only [results, Tryz.results23]; go_simp) rfl ⟨rfl, bgo⟩
set_option maxHeartbeats 1000000 in
theorem dcheck_n (hd : decide (knB d) = true) (hD : (((bl D : Nat) : Int) == 0) = false) (hN : (25600 : Int) < (bl N : Int))
    (c52 : ∀ W, Tab W → Calls Tryz.prog 60 #[.int .i64 n] W fun r w' => r = .returned (.tuple #[IDec n nm wd P ex l m pa dn, .int .i64 0]) ∧ Below W.heap.size W w') :
    Calls Tryz.prog 23 #[.int .i64 n, .int .i64 d, vn, vd] w fun r w' => r = .returned (.tuple #[IZ, .int .i64 4]) ∧ Below w.heap.size w w' := by
  have hsm := cell_set_map
  have c53 := known_any d
  rw [hd] at c53
  go_enter Tryz.func23, Tryz.ntmps23
  go_wp2_with (first
    | (go_at_call 60; refine (c52 _ (hT.go bgo)).mono ?_; rintro r w1 ⟨rfl, hb1⟩; obtain ⟨hc1, hf1⟩ := bcell hb1; have hz1_0 : w.heap.size < w1.heap.size := lt_below hb1 ltg; have hl1_0 := Nat.le_of_lt hz1_0; have hA1 := bnext (w0 := w) bgo hb1; have hs1 := hA1.size; clear hb1)
    | (go_at_call 61; refine (c53 _).mono ?_; rintro r w2 ⟨rfl, rfl⟩)
    | (go_at_call_of 24 vn; refine (c66 _ bgo).mono ?_; rintro r w3 ⟨rfl, rfl⟩)
    | (go_at_call_of 24 vd; refine (c66d _ bgo).mono ?_; rintro r w4 ⟨rfl, rfl⟩))
  exact bodyPost_ret (v := .tuple #[IZ, .int .i64 4]) (by simp only [results, Tryz.results23]; go_simp) rfl ⟨rfl, bgo⟩
set_option maxHeartbeats 1000000 in
theorem dcheck_l (hd : decide (knB d) = true) (hD : (((bl D : Nat) : Int) == 0) = false) (hN : ¬ (25600 : Int) < (bl N : Int)) (hDl : (25600 : Int) < (bl D : Int))
    (c52 : ∀ W, Tab W → Calls Tryz.prog 60 #[.int .i64 n] W fun r w' => r = .returned (.tuple #[IDec n nm wd P ex l m pa dn, .int .i64 0]) ∧ Below W.heap.size W w') :
    Calls Tryz.prog 23 #[.int .i64 n, .int .i64 d, vn, vd] w fun r w' => r = .returned (.tuple #[IZ, .int .i64 4]) ∧ Below w.heap.size w w' := by
  have hsm := cell_set_map
  have c53 := known_any d
  rw [hd] at c53
  go_enter Tryz.func23, Tryz.ntmps23
  go_wp2_with (first
    | (go_at_call 60; refine (c52 _ (hT.go bgo)).mono ?_; rintro r w1 ⟨rfl, hb1⟩; obtain ⟨hc1, hf1⟩ := bcell hb1; have hz1_0 : w.heap.size < w1.heap.size := lt_below hb1 ltg; have hl1_0 := Nat.le_of_lt hz1_0; have hA1 := bnext (w0 := w) bgo hb1; have hs1 := hA1.size; clear hb1)
    | (go_at_call 61; refine (c53 _).mono ?_; rintro r w2 ⟨rfl, rfl⟩)
    | (go_at_call_of 24 vn; refine (c66 _ bgo).mono ?_; rintro r w3 ⟨rfl, rfl⟩)
    | (go_at_call_of 24 vd; refine (c66d _ bgo).mono ?_; rintro r w4 ⟨rfl, rfl⟩))
  exact bodyPost_ret (v := .tuple #[IZ, .int .i64 4]) (by simp only [results, Tryz.results23]; go_simp) rfl ⟨rfl, bgo⟩
set_option maxHeartbeats 1000000 in
theorem dcheck_k (hd : decide (knB d) = true) (hD : (((bl D : Nat) : Int) == 0) = false) (hN : ¬ (25600 : Int) < (bl N : Int)) (hDl : ¬ (25600 : Int) < (bl D : Int))
    (c52 : ∀ W, Tab W → Calls Tryz.prog 60 #[.int .i64 n] W fun r w' => r = .returned (.tuple #[IDec n nm wd P ex l m pa dn, .int .i64 0]) ∧ Below W.heap.size W w') :
    Calls Tryz.prog 23 #[.int .i64 n, .int .i64 d, vn, vd] w fun r w' => r = .returned (.tuple #[IDec n nm wd P ex l m pa dn, .int .i64 0]) ∧ Below w.heap.size w w' := by
  have hsm := cell_set_map
  have c53 := known_any d
  rw [hd] at c53
  go_enter Tryz.func23, Tryz.ntmps23
  go_wp2_with (first
    | (go_at_call 60; refine (c52 _ (hT.go bgo)).mono ?_; rintro r w1 ⟨rfl, hb1⟩; obtain ⟨hc1, hf1⟩ := bcell hb1; have hz1_0 : w.heap.size < w1.heap.size := lt_below hb1 ltg; have hl1_0 := Nat.le_of_lt hz1_0; have hA1 := bnext (w0 := w) bgo hb1; have hs1 := hA1.size; clear hb1)
    | (go_at_call 61; refine (c53 _).mono ?_; rintro r w2 ⟨rfl, rfl⟩)
    | (go_at_call_of 24 vn; refine (c66 _ bgo).mono ?_; rintro r w3 ⟨rfl, rfl⟩)
    | (go_at_call_of 24 vd; refine (c66d _ bgo).mono ?_; rintro r w4 ⟨rfl, rfl⟩))
  exact bodyPost_ret (v := .tuple #[IDec n nm wd P ex l m pa dn, .int .i64 0]) (by simp only [results, Tryz.results23]; go_simp) rfl ⟨rfl, bgo⟩
end
/-- of a cohort the member nearest to an exponent -/
theorem mbr_stop {mo want : Int} {k c : Nat} {q : Int} (h : ¬ (q < want ∧ q < mo ∧ c % 10 = 0)) : mbr mo want k c q = (c, q) := by
  cases k with
  | zero => rfl
  | succ k => show (if _ then _ else _) = _; rw [if_neg h]
set_option maxHeartbeats 2000000 in
theorem dmember_w (mo want : Int) (c0 : Nat) (q0 : Int) (v : Value) (w : World) (hq0 : -100000 ≤ q0 ∧ q0 ≤ 100000) (hmo : -100000 ≤ mo ∧ mo ≤ 100000) (t : Int) (ht : t = min want mo) (R : Nat × Int) (hR : R = mbr mo want (mo - q0).toNat c0 q0) (hv : Nz 2003 c0 v w) (hc0 : c0 < 2 ^ 256)
    (c42 : ∀ W u t c, c < 2 ^ 256 → Nz 2003 c u W → Nt 1 10 t W → Calls Tryz.prog 66 #[u, t] W fun e w' => ∃ q r, e = .returned (.tuple #[q, r, .int .i64 0]) ∧ Nz 2003 (c / 10) q w' ∧ Nt 2001 (c % 10) r w' ∧ Below W.heap.size W w')
    (c18 : ∀ W u c, Nt 2001 c u W → Calls Tryz.prog 24 #[u] W fun e w' => e = .returned (.int .i64 (bl c : Int)) ∧ W = w') :
    Calls Tryz.prog 33 #[v, .int .i64 q0, .int .i64 t] w fun r w' => ∃ u, r = .returned (.tuple #[u, .int .i64 R.2]) ∧ Nz 2003 R.1 u w' ∧ Below w.heap.size w w' := by
  have HT : Hid (t = min want mo) := ht
  have htb : t ≤ 100000 := by omega
  clear ht
  go_enter Tryz.func33, Tryz.ntmps33
  go_wp2
  go_loopw [0, 1, 8, 9, 10, 11, 12, 13, 14, 15, 16, 17, 18, 19, 20, 21, 22, 23, 24, 25, 26] (fun u q _ _ _ _ _ _ _ _ _ _ _ _ _ _ _ _ _ _ _ wr => ∃ (c : Nat) (qi : Int), Hid (c < 2 ^ 256) ∧ q = .int .i64 qi ∧ q0 ≤ qi ∧ qi ≤ 100000 ∧ Nz 2003 c u wr ∧ R = mbr mo want (mo - qi).toNat c qi ∧ Below w.heap.size w wr) (fun _ q _ _ _ _ _ _ _ _ _ _ _ _ _ _ _ _ _ _ _ _ => (100001 - intOf q).toNat)
  case atStart => exact ⟨c0, q0, hc0, rfl, Int.le_refl _, hq0.2, hv, hR, Below.refl _ _⟩
  case round =>
    clear hv hR hc0
    obtain ⟨c, qi, Hc, rfl, hqa, hqb, hu, hRR, hB⟩ := hrel
    have hqa' : -100000 ≤ qi := by omega
    have HR : Hid (R = mbr mo want (mo - qi).toNat c qi) := hRR
    clear hRR
    by_cases hlt : qi < t
    · have hqm : qi < mo ∧ qi < want := by have := HT.out; omega
      by_cases hc : c % 10 = 0
      · have hb0 : ((bl (c % 10) : Nat) : Int) = 0 := by rw [hc]; rfl
        go_wp2_with (first
          | (go_at_call 66; refine (c42 _ _ _ c Hc.out (hu.next (below1 _ _)) (nt_w1 (by simp) rfl (by decide))).mono ?_; rintro e w5 ⟨v5, r5, rfl, hv5, hr5, hb5⟩; have hB5 := bnx (bnx hB (below1 _ _)) hb5)
          | (go_at_call 24; refine (c18 _ _ _ hr5).mono ?_; rintro e w6 ⟨rfl, rfl⟩; rw [hb0]))
        go_roundw
        case rel =>
          refine ⟨c / 10, qi + 1, Nat.lt_of_le_of_lt (Nat.div_le_self _ _) Hc.out, by go_num, by omega, by omega, hv5, ?_, hB5⟩
          rw [HR.out]
          obtain ⟨k, hk⟩ : ∃ k, (mo - qi).toNat = k + 1 := ⟨(mo - qi).toNat - 1, by omega⟩
          rw [hk, show (mo - (qi + 1)).toNat = k by omega]
          show (if _ then _ else _) = _
          rw [if_pos ⟨hqm.2, hqm.1, hc⟩]
        case measure => simp [intOf]; omega
      · have hb0 : (0 : Int) < ((bl (c % 10) : Nat) : Int) := by have := mt bl_zero.1 hc; omega
        have hE : Hid (R = (c, qi)) := HR.out.trans (mbr_stop fun h => hc h.2.2)
        clear HR HT
        go_wp2_with (first
          | (go_at_call 66; refine (c42 _ _ _ c Hc.out (hu.next (below1 _ _)) (nt_w1 (by simp) rfl (by decide))).mono ?_; rintro e w5 ⟨v5, r5, rfl, hv5, hr5, hb5⟩; have hBB := bnx (below1 _ _) hb5; have hB5 := bnx hB hBB)
          | (go_at_call 24; refine (c18 _ _ _ hr5).mono ?_; rintro e w6 ⟨rfl, rfl⟩))
        go_wp2
        refine bodyPost_ret (v := .tuple #[u0, .int .i64 qi]) (by simp only [results, Tryz.results33]; go_simp) rfl ⟨u0, by rw [hE.out], ?_, hB5⟩
        rw [hE.out]
        exact hu.next hBB
    · have hE : Hid (R = (c, qi)) := HR.out.trans (mbr_stop fun h => by have := HT.out; omega)
      clear HR HT
      go_wp2
      refine bodyPost_ret (v := .tuple #[u0, .int .i64 qi]) (by simp only [results, Tryz.results33]; go_simp) rfl ⟨u0, by rw [hE.out], ?_, hB⟩
      rw [hE.out]
      exact hu
theorem nz_wide {K K' V : Nat} {v : Value} {w : World} (h : Nz K V v w) (hK : K ≤ K') : Nz K' V v w := by
  unfold Nz at *
  obtain ⟨a, k, cap, z, h1, h2, h3⟩ := h
  exact ⟨a, k, cap, z, h1, by omega, h3⟩
theorem dmember_v (mo want : Int) {c0 : Nat} {q0 : Int} {v : Value} {w : World} (hq0 : -100000 ≤ q0 ∧ q0 ≤ 100000) (hmo : -100000 ≤ mo ∧ mo ≤ 100000) (hv : Nz 2003 c0 v w) (hc0 : c0 < 2 ^ 256) :
    Calls Tryz.prog 33 #[v, .int .i64 q0, .int .i64 (min want mo)] w fun r w' => ∃ u, r = .returned (.tuple #[u, .int .i64 (mbr mo want (mo - q0).toNat c0 q0).2]) ∧ Nz 2003 (mbr mo want (mo - q0).toNat c0 q0).1 u w' ∧ Below w.heap.size w w' := by
  refine dmember_w mo want c0 q0 v w hq0 hmo _ rfl _ rfl hv hc0 ?_ (fun W u c h => nlen_v (by decide) h)
  intro W u t c hc hu ht
  have b1 : bl c ≤ 256 := bl_le.2 hc
  have b2 : bl 10 ≤ 4 := bl_le.2 (by decide)
  refine (ndiv_v (by decide) (by decide) hu.nt ht (by omega) (by omega) (by decide)).mono ?_
  rintro r w' ⟨q, r', e1, e2, e3, e4⟩
  exact ⟨q, r', e1, nz_wide e2 (by decide), e3.nt, e4⟩
end Go.Proofs.YtmommdhnogogdaaGreatDoor
