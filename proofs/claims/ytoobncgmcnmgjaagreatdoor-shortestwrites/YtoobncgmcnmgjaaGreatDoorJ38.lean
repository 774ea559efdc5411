/-
  Texts that the proof leans on, joined: Sq9.
-/
import Derived.Test.YtoobncgmcnmgjaaGreatDoorJ37
import Derived.Test.YtoobncgmcnmgjaaGreatDoorJ1
set_option linter.unusedVariables false
set_option linter.unusedSectionVars false
set_option linter.unusedSimpArgs false
set_option maxRecDepth 20000
namespace Go.Proofs.YtoobncgmcnmgjaaGreatDoor
open Go.RowKit

def stLen : Value → Nat | .string b => b.size | _ => 0
theorem dec_is {V : Nat} {TT : List UInt8} {u : Value} {W : World} (hg : gdD TT) (hv : dV TT = V) (h : NV 8 V u W) : Calls Tryz.prog 17 #[u] W fun r w' => r = .returned (.string (B TT)) ∧ Below W.heap.size W w' := by
  obtain ⟨g, k, cap, z, rfl, hk, hN, hz⟩ := h
  obtain ⟨D, d1, d2, d3, d4⟩ := rdec8 (by omega) hN
  have : D = TT := gd_uniq d1 hg (by rw [hv]; omega)
  subst this
  exact d4 W (Below.refl _ _)
theorem sv_ways {R Z j : Nat} : Hid ((sgn ((rsN R Z j % Z * 2 : Nat) : Int) (Z : Int) = -1 ∧ sdK R Z j = false) ∨ (sgn ((rsN R Z j % Z * 2 : Nat) : Int) (Z : Int) = 0 ∧ sdK R Z j = decide (dgK R Z j % 2 = 1)) ∨ (sgn ((rsN R Z j % Z * 2 : Nat) : Int) (Z : Int) = 1 ∧ sdK R Z j = true)) := by
  show _ ∨ _
  unfold sdK
  rcases sgn_ways ((rsN R Z j % Z * 2 : Nat) : Int) (Z : Int) with ⟨a, e⟩ | ⟨a, e⟩ | ⟨a, e⟩
  · exact Or.inl ⟨e, by rw [decide_eq_false (by omega), decide_eq_false (by omega)]; rfl⟩
  · exact Or.inr (Or.inl ⟨e, by rw [decide_eq_false (by omega), decide_eq_true (by omega)]; simp⟩)
  · exact Or.inr (Or.inr ⟨e, by rw [decide_eq_true (by omega)]; rfl⟩)
/-- the text ahead of its noughts' being cut off -/
theorem tt_ex {ev : Bool} {R D U Z : Nat} (hZ : 0 < Z) (hR : R < 10 * Z) (hZR : Z ≤ R) (j : Nat) (hst : stK ev R D U Z j = true) (hm : ∀ k, k < j → stK ev R D U Z k = false) :
    ∃ TT : List UInt8, Hid (upK ev R D U Z j = false → TT = dsN R Z (j + 1)) ∧ Hid (upK ev R D U Z j = true → gdD TT ∧ dV TT = dV (dsN R Z (j + 1)) + 1) ∧
      Hid ((TT = [49, 48] ∧ j = 0 ∧ shT ev R D U Z 0 = [49] ∧ shC ev R D U Z 0 = 1) ∨ (∃ la : Nat, TT = shT ev R D U Z j ∧ (B TT).size = j + 1 ∧ (∀ h, (((B TT)[j]'h).toNat : Int) = 48 + (la : Int)) ∧ 1 ≤ la ∧ shC ev R D U Z j = 0)) := by
  have hd9 := dgK_le hZ hR j
  by_cases h10 : laK ev R D U Z j = 10
  · have hup : upK ev R D U Z j = true := by
      cases h : upK ev R D U Z j
      · unfold laK at h10; rw [h] at h10; simp at h10; omega
      · rfl
    have hj : j = 0 := by
      rcases Nat.eq_zero_or_pos j with h | h
      · exact h
      · have := la_lt hZ h hR hm; omega
    subst hj
    have h9 : dgK R Z 0 = 9 := by unfold laK at h10; rw [hup] at h10; simp at h10; omega
    refine ⟨[49, 48], fun h => ?_, fun _ => ⟨ten_list.1, ?_⟩, Or.inl ⟨rfl, rfl, if_pos h10, if_pos h10⟩⟩
    · rw [hup] at h; cases h
    · rw [ten_list.2, ds_one hZ hR, h9]
  · have hsh : shT ev R D U Z j = dsN R Z j ++ [UInt8.ofNat (48 + laK ev R D U Z j)] := if_neg h10
    have hle := laK_le (c := ev) (d := D) (u := U) hZ hR j
    have hpos := la_pos hZ hZR hst hm
    refine ⟨shT ev R D U Z j, fun h => ?_, fun h => ?_, Or.inr ⟨laK ev R D U Z j, rfl, ?_, fun hh => ?_, hpos, if_neg h10⟩⟩
    · rw [hsh]
      have : laK ev R D U Z j = dgK R Z j := by unfold laK; rw [h]; rfl
      rw [this]; rfl
    · have hl : laK ev R D U Z j = dgK R Z j + 1 := by unfold laK; rw [h]; rfl
      rw [hsh, hl]
      exact ds_inc hZ hR hZR j (by omega)
    · rw [B_size, hsh, List.length_append, dsN_len]; rfl
    · rw [B_get]
      have e : (shT ev R D U Z j)[j]'(by rw [hsh, List.length_append, dsN_len]; simp) = UInt8.ofNat (48 + laK ev R D U Z j) := by
        simp only [hsh]
        rw [List.getElem_append_right (by rw [dsN_len]; exact Nat.le_refl _)]
        simp [dsN_len]
      rw [e, ofNat_dg (by omega)]; omega
attribute [local irreducible] W4 Nz Nt NT NV
set_option maxHeartbeats 8000000 in
theorem rdig_w (n : Int) (Bp : Nat) (s g : Bool) (x : Int) (k : Nat) (w : World) (E : Int) (lw K : Nat) (i0 i2 i3 i4 i5 i6 i7 i8 i9 : Int) (nm : ByteArray) (dn : Bool) (ev : Bool) (R D U Z : Nat)
    (hk : k < 2 ^ 256) (hk0 : k ≠ 0) (hE : -6000 ≤ E ∧ E ≤ 6000) (hK100 : K ≤ 80) (hev : ev = decide (k % 2 = 0)) (hlw : lw ≤ 2 ∧ lw ≠ 0)
    (hZ : 0 < Z) (hR : R < 10 * Z) (hZR : Z ≤ R) (hd : D ≤ 10 * Z) (hu : U ≤ 10 * Z) (hbZ : bl Z ≤ 50000)
    (hst : stK ev R D U Z K = true) (hmn : ∀ j, j < K → stK ev R D U Z j = false)
    (c16 : ∀ W, Calls Tryz.prog 16 #[.int .i64 n, A4 Bp] W fun r w' => r = .returned (.tuple #[DV 1 s g x k, .int .i64 0]) ∧ Below W.heap.size W w')
    (c25 : ∀ W, Calls Tryz.prog 25 #[.int .i64 n] W fun r w' => r = .returned (.tuple #[.agg #[.int .i64 i0, .string nm, .int .i64 i2, .int .i64 i3, .int .i64 i4, .int .i64 i5, .int .i64 i6, .int .i64 i7, .int .i64 i8, .bool dn], .int .i64 i9]) ∧ Below W.heap.size W w')
    (c26 : ∀ W, Calls Tryz.prog 26 #[A4 k] W fun r w' => ∃ v, r = .returned v ∧ NT 4 k v w' ∧ Below W.heap.size W w')
    (c27 : ∀ W v, NT 4 k v W → Calls Tryz.prog 27 #[v, .int .i64 x, .agg #[.int .i64 i0, .string nm, .int .i64 i2, .int .i64 i3, .int .i64 i4, .int .i64 i5, .int .i64 i6, .int .i64 i7, .int .i64 i8, .bool dn]] W fun r w' => r = .returned (.int .u64 ((lw : Nat) : Int)) ∧ Below W.heap.size W w')
    (N1 D1 N2 D2 O : Nat)
    (c28 : ∀ W, Calls Tryz.prog 28 #[DV 1 s g x k, .int .u64 2] W fun r w' => ∃ a b, r = .returned (.tuple #[a, b]) ∧ NT 900 N1 a w' ∧ NT 900 D1 b w' ∧ Below W.heap.size W w')
    (c29 : ∀ W a b, NT 900 N1 a W → NT 900 D1 b W → Calls Tryz.prog 29 #[a, b] W fun r w' => r = .returned (.int .i64 E) ∧ Below W.heap.size W w')
    (c30 : ∀ W, Calls Tryz.prog 30 #[.slice (some ⟨W.heap.size, 0, none⟩) 1 1, .slice (some ⟨W.heap.size + 1, 0, none⟩) 1 1, .int .u64 2, .int .i64 x] ((W.alloc (.cells #[.int .u64 1] 22)).alloc (.cells #[.int .u64 4] 22)) fun r w' => ∃ a b, r = .returned (.tuple #[a, b]) ∧ NT 900 N2 a w' ∧ NT 900 D2 b w' ∧ Below W.heap.size W w')
    (c31 : ∀ W a b, NT 900 N2 a W → NT 900 D2 b W → Calls Tryz.prog 31 #[a, b, .int .i64 E] W fun r w' => ∃ a b, r = .returned (.tuple #[a, b]) ∧ NT 900 O a w' ∧ NT 900 Z b w' ∧ Below W.heap.size W w')
    (c33a : ∀ W a, NT 4 k a W → Calls Tryz.prog 33 #[a, .int .i64 2] W fun r w' => ∃ u, r = .returned u ∧ NT 900 (k * 4) u w' ∧ Below W.heap.size W w')
    (c32a : ∀ W a b, NT 900 (k * 4) a W → NT 900 O b W → Calls Tryz.prog 32 #[a, b] W fun r w' => ∃ u, r = .returned u ∧ NT 900 R u w' ∧ Below W.heap.size W w')
    (c32b : ∀ W a, NT 900 O a W → Calls Tryz.prog 32 #[a, .slice (some ⟨W.heap.size, 0, none⟩) 1 1] (W.alloc (.cells #[.int .u64 ((lw : Nat) : Int)] 22)) fun r w' => ∃ u, r = .returned u ∧ NT 900 D u w' ∧ Below W.heap.size W w')
    (c33b : ∀ W a, NT 900 O a W → Calls Tryz.prog 33 #[a, .int .i64 1] W fun r w' => ∃ u, r = .returned u ∧ NT 900 U u w' ∧ Below W.heap.size W w') :
    Calls Tryz.prog 11 #[.int .i64 n, A4 Bp] w fun r w' => r = .returned (.tuple #[.string (B (shT ev R D U Z K)), .int .i64 (E - K + (shC ev R D U Z K : Nat)), .int .i64 0]) ∧ Below w.heap.size w w' := by
  have hsm := cell_set_map
  have HST : Hid (stK ev R D U Z K = true) := hst
  have HMN : Hid (∀ j, j < K → stK ev R D U Z j = false) := hmn
  clear hst hmn
  have h24 := eq24 (W4 k 0) (W4 k 1) (W4 k 2) (W4 k 3) 0 0 0 0
  rw [W4_none hk, decide_eq_false hk0] at h24
  unfold DV A4 at *
  go_enter Tryz.func11, Tryz.ntmps11
  go_upto_region 15 with (first
    | (go_at_call 16; refine (c16 _).mono ?_; rintro r w1 ⟨rfl, hb1⟩; obtain ⟨hc1, hf1⟩ := bcell hb1; have hz1_0 : w.heap.size < w1.heap.size := lt_below hb1 ltg; have hl1_0 := Nat.le_of_lt hz1_0; have hA1 := bnext (w0 := w) bgo hb1; have hs1 := hA1.size; clear hb1)
    | (go_at_call 25; refine (c25 _).mono ?_; rintro r w2 ⟨rfl, hb2⟩; obtain ⟨hc2, hf2⟩ := bcell hb2; have hz2_0 : w.heap.size < w2.heap.size := lt_below hb2 ltg; have hl2_0 := Nat.le_of_lt hz2_0; have hz2_1 : w1.heap.size < w2.heap.size := lt_below hb2 ltg; have hl2_1 := Nat.le_of_lt hz2_1; have hA2 := bnext (w0 := w) bgo hb2; have hs2 := hA2.size; clear hb2)
    | (go_at_call 26; refine (c26 _).mono ?_; rintro r w3 ⟨v3, rfl, hv3, hb3⟩; obtain ⟨hc3, hf3⟩ := bcell hb3; have hz3_0 : w.heap.size < w3.heap.size := lt_below hb3 ltg; have hl3_0 := Nat.le_of_lt hz3_0; have hz3_1 : w1.heap.size < w3.heap.size := lt_below hb3 ltg; have hl3_1 := Nat.le_of_lt hz3_1; have hz3_2 : w2.heap.size < w3.heap.size := lt_below hb3 ltg; have hl3_2 := Nat.le_of_lt hz3_2; have hA3 := bnext (w0 := w) bgo hb3; have hs3 := hA3.size; clear hb3)
    | (go_at_call 27; refine (c27 _ _ hv3).mono ?_; rintro r w4 ⟨rfl, hb4⟩; replace hv3 := hv3.next hb4; obtain ⟨hc4, hf4⟩ := bcell hb4; have hz4_0 : w.heap.size < w4.heap.size := lt_below hb4 ltg; have hl4_0 := Nat.le_of_lt hz4_0; have hz4_1 : w1.heap.size < w4.heap.size := lt_below hb4 ltg; have hl4_1 := Nat.le_of_lt hz4_1; have hz4_2 : w2.heap.size < w4.heap.size := lt_below hb4 ltg; have hl4_2 := Nat.le_of_lt hz4_2; have hA4 := bnext (w0 := w) bgo hb4; have hs4 := hA4.size; clear hb4)
    | (go_at_call 28; refine (c28 _).mono ?_; rintro r w5 ⟨a5, b5, rfl, ha5, hb5', hb5⟩; replace hv3 := hv3.next hb5; obtain ⟨hc5, hf5⟩ := bcell hb5; have hz5_0 : w.heap.size < w5.heap.size := lt_below hb5 ltg; have hl5_0 := Nat.le_of_lt hz5_0; have hz5_1 : w1.heap.size < w5.heap.size := lt_below hb5 ltg; have hl5_1 := Nat.le_of_lt hz5_1; have hz5_2 : w2.heap.size < w5.heap.size := lt_below hb5 ltg; have hl5_2 := Nat.le_of_lt hz5_2; have hA5 := bnext (w0 := w) bgo hb5; have hs5 := hA5.size; clear hb5)
    | (go_at_call 29; refine (c29 _ _ _ ha5 hb5').mono ?_; rintro r w6 ⟨rfl, hb6⟩; replace hv3 := hv3.next hb6; obtain ⟨hc6, hf6⟩ := bcell hb6; have hz6_0 : w.heap.size < w6.heap.size := lt_below hb6 ltg; have hl6_0 := Nat.le_of_lt hz6_0; have hz6_1 : w1.heap.size < w6.heap.size := lt_below hb6 ltg; have hl6_1 := Nat.le_of_lt hz6_1; have hz6_2 : w2.heap.size < w6.heap.size := lt_below hb6 ltg; have hl6_2 := Nat.le_of_lt hz6_2; have hA6 := bnext (w0 := w) bgo hb6; have hs6 := hA6.size; clear hb6)
    | (go_at_call 30; refine (c30 w6).mono ?_; rintro r w7 ⟨a7, b7, rfl, ha7, hb7', hb7⟩; replace hv3 := hv3.next hb7; obtain ⟨hc7, hf7⟩ := bcell hb7; have hz7_0 : w.heap.size < w7.heap.size := lt_below hb7 ltg; have hl7_0 := Nat.le_of_lt hz7_0; have hz7_1 : w1.heap.size < w7.heap.size := lt_below hb7 ltg; have hl7_1 := Nat.le_of_lt hz7_1; have hz7_2 : w2.heap.size < w7.heap.size := lt_below hb7 ltg; have hl7_2 := Nat.le_of_lt hz7_2; have hA7 := bnext (w0 := w) bgo hb7; have hs7 := hA7.size; clear hb7)
    | (go_at_call 31; refine (c31 _ _ _ ha7 hb7').mono ?_; rintro r w8 ⟨a8, b8, rfl, ha8, hb8', hb8⟩; replace hv3 := hv3.next hb8; obtain ⟨hc8, hf8⟩ := bcell hb8; have hz8_0 : w.heap.size < w8.heap.size := lt_below hb8 ltg; have hl8_0 := Nat.le_of_lt hz8_0; have hz8_1 : w1.heap.size < w8.heap.size := lt_below hb8 ltg; have hl8_1 := Nat.le_of_lt hz8_1; have hz8_2 : w2.heap.size < w8.heap.size := lt_below hb8 ltg; have hl8_2 := Nat.le_of_lt hz8_2; have hA8 := bnext (w0 := w) bgo hb8; have hs8 := hA8.size; clear hb8)
    | (go_at_call_of 33 a8; refine (c33b _ _ ha8).mono ?_; rintro r w12 ⟨v12, rfl, hv12, hb12⟩; replace hv3 := hv3.next hb12; replace ha8 := ha8.next hb12; replace hb8' := hb8'.next hb12; replace hv10 := hv10.next hb12; replace hv11 := hv11.next hb12; obtain ⟨hc12, hf12⟩ := bcell hb12; have hz12_0 : w.heap.size < w12.heap.size := lt_below hb12 ltg; have hl12_0 := Nat.le_of_lt hz12_0; have hz12_1 : w1.heap.size < w12.heap.size := lt_below hb12 ltg; have hl12_1 := Nat.le_of_lt hz12_1; have hz12_2 : w2.heap.size < w12.heap.size := lt_below hb12 ltg; have hl12_2 := Nat.le_of_lt hz12_2; have hA12 := bnext (w0 := w) bgo hb12; have hs12 := hA12.size; clear hb12)
    | (go_at_call_of 33 v3; refine (c33a _ _ hv3).mono ?_; rintro r w9 ⟨v9, rfl, hv9, hb9⟩; replace hv3 := hv3.next hb9; replace ha8 := ha8.next hb9; replace hb8' := hb8'.next hb9; obtain ⟨hc9, hf9⟩ := bcell hb9; have hz9_0 : w.heap.size < w9.heap.size := lt_below hb9 ltg; have hl9_0 := Nat.le_of_lt hz9_0; have hz9_1 : w1.heap.size < w9.heap.size := lt_below hb9 ltg; have hl9_1 := Nat.le_of_lt hz9_1; have hz9_2 : w2.heap.size < w9.heap.size := lt_below hb9 ltg; have hl9_2 := Nat.le_of_lt hz9_2; have hA9 := bnext (w0 := w) bgo hb9; have hs9 := hA9.size; clear hb9)
    | (have hv10' := hv10; go_at_call 32; refine (c32b w10 _ ha8).mono ?_; rintro r w11 ⟨v11, rfl, hv11, hb11⟩; replace hv3 := hv3.next hb11; replace ha8 := ha8.next hb11; replace hb8' := hb8'.next hb11; replace hv10 := hv10.next hb11; obtain ⟨hc11, hf11⟩ := bcell hb11; have hz11_0 : w.heap.size < w11.heap.size := lt_below hb11 ltg; have hl11_0 := Nat.le_of_lt hz11_0; have hz11_1 : w1.heap.size < w11.heap.size := lt_below hb11 ltg; have hl11_1 := Nat.le_of_lt hz11_1; have hz11_2 : w2.heap.size < w11.heap.size := lt_below hb11 ltg; have hl11_2 := Nat.le_of_lt hz11_2; have hA11 := bnext (w0 := w) bgo hb11; have hs11 := hA11.size; clear hb11)
    | (go_at_call_of 32 v9; refine (c32a _ _ _ hv9 ha8).mono ?_; rintro r w10 ⟨v10, rfl, hv10, hb10⟩; replace hv3 := hv3.next hb10; replace ha8 := ha8.next hb10; replace hb8' := hb8'.next hb10; obtain ⟨hc10, hf10⟩ := bcell hb10; have hz10_0 : w.heap.size < w10.heap.size := lt_below hb10 ltg; have hl10_0 := Nat.le_of_lt hz10_0; have hz10_1 : w1.heap.size < w10.heap.size := lt_below hb10 ltg; have hl10_1 := Nat.le_of_lt hz10_1; have hz10_2 : w2.heap.size < w10.heap.size := lt_below hb10 ltg; have hl10_2 := Nat.le_of_lt hz10_2; have hA10 := bnext (w0 := w) bgo hb10; have hs10 := hA10.size; clear hb10))
  obtain ⟨g3, k3, p3, y3, rfl, hk3, hk3', hlt3, hcy, hy0, hy1, hpar⟩ := hv3.head hk0
  clear c16 c25 c26 c27 c28 c29 c30 c31 c33a c32a c32b c33b h24 hsm hv3 hv9 ha8 ha5 hb5' ha7 hb7' hv10'
  clear hc1 hf1 hc2 hf2 hc3 hf3 hc4 hf4 hc5 hf5 hc6 hf6 hc7 hf7 hc8 hf8 hc9 hf9 hc10 hf10 hc11 hf11 hc12 hf12
  have hpe : (y3 % 2 == 0) = ev := by
    rw [hev, hpar]
    rcases Nat.mod_two_eq_zero_or_one k with h | h
    · rw [h]; rfl
    · rw [h]; rfl
  clear hpar hev
  go_wp2
  rename World => wB
  go_loopw [18, 19, 20, 22, 23] (fun t18 t19 t20 t22 t23 wr => ∃ (j : Nat) (u0 u1 u2 : Value), u0 = t18 ∧ u1 = t19 ∧ u2 = t20 ∧ t22 = .string (B (dsN R Z j)) ∧ t23 = .int .i64 j ∧ j ≤ K ∧ NT 900 (rsN R Z j) u0 wr ∧ NT 900 (10 ^ j * D) u1 wr ∧ NT 900 (10 ^ j * U) u2 wr ∧ NT 900 Z b8 wr ∧ Below w.heap.size w wr) (fun _ _ _ _ t23 _ => K - (intOf t23).toNat)
  case atStart => exact ⟨0, _, _, _, rfl, rfl, rfl, rfl, rfl, Nat.zero_le _, hv10, by rw [Nat.pow_zero, Nat.one_mul]; exact hv11, by rw [Nat.pow_zero, Nat.one_mul]; exact hv12, hb8', hA12⟩
  case round =>
    obtain ⟨j, u0, u1, u2, e18, e19, e20, rfl, rfl, hjK, y0, y1, y2, yz, hB⟩ := hrel
    subst e18 e19 e20
    obtain ⟨hb1, hb2⟩ := st_big hZ HMN.out hjK hd hu
    have hrl := rsN_lt hZ hR j
    have hten : bl (10 * Z) ≤ 50004 := by have := bl_mul 10 Z; have : bl 10 = 4 := by decide
                                          omega
    have hrm := Nat.mod_lt (rsN R Z j) hZ
    have hd9 := dgK_le hZ hR j
    have hbr : bl (rsN R Z j) ≤ 50004 := by have := bl_mono (Nat.le_of_lt hrl); omega
    have hbm : bl (rsN R Z j % Z) ≤ 50000 := by have := bl_mono (Nat.le_of_lt hrm); omega
    have hbd : bl (10 ^ j * D) ≤ 50004 := by have := bl_mono hb1; omega
    have hbu : bl (10 ^ j * U) ≤ 50004 := by have := bl_mono hb2; omega
    have c34 : Calls Tryz.prog 34 #[u0, b8] wr fun r w' => ∃ q v, r = .returned (.tuple #[q, v]) ∧ NV 41000 (dgK R Z j) q w' ∧ NT 900 (rsN R Z j % Z) v w' ∧ Below wr.heap.size wr w' := (rover_nt (by decide) y0 yz (by omega)).mono fun r w' ⟨q, v, e1, e2, e3, e4⟩ => ⟨q, v, e1, e2, e3.tight (by omega), e4⟩
    have c35 : ∀ W q, NV 41000 (dgK R Z j) q W → Calls Tryz.prog 35 #[q] W fun r w' => r = .returned (.int .i64 ((dgK R Z j : Nat) : Int)) ∧ W = w' := fun W q h => (number_nw h (by decide) (by omega)).mono fun r w' ⟨e1, e2⟩ => ⟨e1, e2.symm⟩
    have c36u : ∀ W v, NT 900 (rsN R Z j % Z) v W → NT 900 (10 ^ j * D) u1 W → Calls Tryz.prog 36 #[v, u1, .bool ev] W fun r w' => r = .returned (.bool (unK ev R D Z j)) ∧ W = w' := fun W v h1 h2 => rwithin_v ev (by decide) (by decide) h1.nv h2.nv
    have c37 : ∀ W v, NT 900 Z b8 W → NT 900 (rsN R Z j % Z) v W → Calls Tryz.prog 37 #[b8, v] W fun r w' => ∃ u, r = .returned u ∧ NT 900 (Z - rsN R Z j % Z) u w' ∧ Below W.heap.size W w' := fun W v h1 h2 => (rless_nt (by decide) (by decide) h1.nv h2.nv (by omega)).mono fun r w' ⟨u, e1, e2, e3⟩ => ⟨u, e1, e2.tight (by have := bl_mono (Nat.sub_le Z (rsN R Z j % Z)); omega), e3⟩
    have c36o : ∀ W v, NT 900 (Z - rsN R Z j % Z) v W → NT 900 (10 ^ j * U) u2 W → Calls Tryz.prog 36 #[v, u2, .bool ev] W fun r w' => r = .returned (.bool (ovK ev R U Z j)) ∧ W = w' := fun W v h1 h2 => rwithin_v ev (by decide) (by decide) h1.nv h2.nv
    have HDS : Hid (dsN R Z (j + 1) = dsN R Z j ++ [UInt8.ofNat (48 + dgK R Z j)]) := rfl
    have hdl : (dsN R Z j).length ≤ 1000 := by rw [dsN_len]; omega
    have c32 : ∀ (A : Nat) W v t, bl A ≤ 50004 → NT 900 A v W → NT 1 10 t W → Calls Tryz.prog 32 #[v, t] W fun r w' => ∃ u, r = .returned u ∧ NT 900 (A * 10) u w' ∧ Below W.heap.size W w' := fun A W v t hA h1 h2 => (rtimes_nt (by decide) (by decide) h1.nv h2.nv).mono fun r w' ⟨u, e1, e2, e3⟩ => ⟨u, e1, e2.tight (by have := bl_mul A 10; have : bl 10 = 4 := (by decide); omega), e3⟩
    have hl1 : (B (dsN R Z (j + 1))).size = j + 1 := by rw [B_size, dsN_len]
    have hla : ∀ h, (((B (dsN R Z (j + 1)))[j]'h).toNat : Int) = 48 + ((dgK R Z j : Nat) : Int) := fun h => ds_last hd9 h
    have HRS : Hid (rsN R Z (j + 1) = rsN R Z j % Z * 10) := Nat.mul_comm _ _
    have c33 : ∀ W v, NT 900 (rsN R Z j % Z) v W → Calls Tryz.prog 33 #[v, .int .i64 1] W fun r w' => ∃ u, r = .returned u ∧ NT 900 (rsN R Z j % Z * 2) u w' ∧ Below W.heap.size W w' := fun W v h => (rleft_nt 1 (by decide) (by decide) h.nv).mono fun r w' ⟨u, e1, e2, e3⟩ => ⟨u, e1, e2.tight (by have := bl_mul (rsN R Z j % Z) (2 ^ 1); have : bl (2 ^ 1) = 2 := (by decide); omega), e3⟩
    have c38 : ∀ W v, NT 900 (rsN R Z j % Z * 2) v W → NT 900 Z b8 W → Calls Tryz.prog 38 #[v, b8] W fun r w' => r = .returned (.int .i64 (sgn ((rsN R Z j % Z * 2 : Nat) : Int) (Z : Int))) ∧ W = w' := fun W v h1 h2 => rcmp_nv (by decide) (by decide) h1.nv h2.nv
    have hj80 : j ≤ 80 := Nat.le_trans hjK hK100
    have c19 : ∀ W, Calls Tryz.prog 19 #[.string (B (dsN R Z (j + 1)))] W fun r w' => ∃ v, r = .returned v ∧ NT 6 (dV (dsN R Z (j + 1))) v w' ∧ Below W.heap.size W w' := fun W => (number8 _ W (ds_all hZ hR _) (by rw [dsN_len]; omega)).mono fun r w' ⟨v, e1, e2, e3⟩ => ⟨v, e1, e2.tight (bl_10 (dV_lt (ds_all hZ hR (j + 1))).1 (by rw [dsN_len]; omega)), e3⟩
    have c18 : ∀ W v, NT 6 (dV (dsN R Z (j + 1))) v W → Calls Tryz.prog 18 #[v, .slice (some ⟨W.heap.size, 0, none⟩) 1 1] (W.alloc (.cells #[.int .u64 1] 22)) fun r w' => ∃ u, r = .returned u ∧ NV 8 (dV (dsN R Z (j + 1)) + 1) u w' ∧ Below W.heap.size W w' := fun W v h => (radd_nv (by decide) (by decide) (h.next (below1 _ _)).nv (nt_un1 (W := W) (V := 1) rfl rfl (by decide) (by decide)).nv).mono fun r w' ⟨u, e1, e2, e3⟩ => ⟨u, e1, e2, bnx (below1 _ _) e3⟩
    have HTE : Hid (j = K → ∃ TT : List UInt8, Hid (upK ev R D U Z j = false → TT = dsN R Z (j + 1)) ∧ Hid (upK ev R D U Z j = true → ∀ W u, NV 8 (dV (dsN R Z (j + 1)) + 1) u W → Calls Tryz.prog 17 #[u] W fun r w' => r = .returned (.string (B TT)) ∧ Below W.heap.size W w') ∧
      Hid ((TT = [49, 48] ∧ j = 0 ∧ shT ev R D U Z 0 = [49] ∧ shC ev R D U Z 0 = 1) ∨ (∃ la : Nat, TT = shT ev R D U Z j ∧ (B TT).size = j + 1 ∧ (∀ h, (((B TT)[j]'h).toNat : Int) = 48 + (la : Int)) ∧ 1 ≤ la ∧ shC ev R D U Z j = 0))) := by
      intro hjk
      obtain ⟨TT, h1, h2, h3⟩ := tt_ex (ev := ev) (D := D) (U := U) hZ hR hZR j (by rw [hjk]; exact HST.out) (fun q hq => HMN.out q (by omega))
      exact ⟨TT, h1, fun hup W u h => dec_is (h2.out hup).1 (h2.out hup).2 h, h3⟩
    have HUP : Hid (upK ev R D U Z j = if unK ev R D Z j && ovK ev R U Z j then sdK R Z j else ovK ev R U Z j) := rfl
    have HSV := sv_ways (R := R) (Z := Z) (j := j)
    have HLT : Hid (j < K → unK ev R D Z j = false ∧ ovK ev R U Z j = false) := fun h => by
      have hs0 := HMN.out j h
      unfold stK at hs0; simp at hs0; exact hs0
    have HEQ : Hid (j = K → (unK ev R D Z j || ovK ev R U Z j) = true) := fun h => by
      have := HST.out
      rw [← h] at this; exact this
    clear hb1 hb2 hrl HST HMN
    generalize sgn ((rsN R Z j % Z * 2 : Nat) : Int) (Z : Int) = sv at *
    obtain ⟨L1, HL1⟩ : ∃ L1, Hid (dsN R Z (j + 1) = L1) := ⟨_, rfl⟩
    simp only [HL1.out] at c19 c18 hl1 hla HTE
    generalize dV L1 = V1 at *
    generalize unK ev R D Z j = unb at *
    generalize ovK ev R U Z j = ovb at *
    generalize dgK R Z j = dg at *
    generalize rsN R Z j % Z = rm at *
    go_upto_region 20 with (go_at_call 34; refine c34.mono ?_; rintro r w1 ⟨q1, v1, rfl, hq1, hv1, hb1⟩; replace y1 := y1.next hb1; replace y2 := y2.next hb1; replace yz := yz.next hb1; replace hB := bnx hB hb1)
    refine regD20 (l := dsN R Z j) (n := dg) (q := q1) rfl hd9 hdl rfl rfl (c35 _ _ hq1) ?_
    intro a h22 hsz hdf hF
    have ha := act_of slotsD20 8 rfl hsz hdf hF
    rw [ha]
    simp only [slotsD20, List.foldl_cons, List.foldl_nil, Act.put, List.setIfInBounds_toArray, List.set_cons_succ, List.set_cons_zero, h22]
    generalize slot a 109 = s109
    generalize slot a 110 = s110
    generalize slot a 111 = s111
    generalize slot a 112 = s112
    generalize slot a 113 = s113
    generalize slot a 114 = s114
    generalize slot a 115 = s115
    clear ha h22 hsz hdf hF c34 c35
    rw [← HDS.out, HL1.out]
    go_upto_region 22 with (first
      | (go_at_call_of 36 u1; refine (c36u _ _ hv1 y1).mono ?_; rintro r w3 ⟨rfl, rfl⟩)
      | (go_at_call 37; refine (c37 _ _ yz hv1).mono ?_; rintro r w4 ⟨v4, rfl, hv4, hb4⟩; replace y1 := y1.next hb4; replace y2 := y2.next hb4; replace yz := yz.next hb4; replace hv1 := hv1.next hb4; replace hB := bnx hB hb4)
      | (go_at_call_of 36 u2; refine (c36o _ _ hv4 y2).mono ?_; rintro r w5 ⟨rfl, rfl⟩))
    clear c36u c36o c37 hv4 hq1
    by_cases hj : j < K
    · obtain ⟨hun, hov⟩ := HLT.out hj
      subst hun hov
      clear HLT HEQ HTE HUP HSV c33 c38 c19 c18 hl1 hla
      go_upto_region 33 with fail
      have hbt := below1 w4 (.cells #[.int .u64 10] 22)
      have ht : NT 1 10 (.slice (some ⟨w4.heap.size, 0, none⟩) 1 1) (w4.alloc (.cells #[.int .u64 10] 22)) := nt_un1 rfl rfl (by decide) (by decide)
      replace hv1 := hv1.next hbt
      replace y1 := y1.next hbt
      replace y2 := y2.next hbt
      replace yz := yz.next hbt
      replace hB := bnx hB hbt
      clear hbt
      go_wp2_with (first
        | (go_at_call_of 32 v1; refine (c32 _ _ _ _ (by omega) hv1 ht).mono ?_; rintro r w6 ⟨x0, rfl, z0, hb6⟩; replace ht := ht.next hb6; replace y1 := y1.next hb6; replace y2 := y2.next hb6; replace yz := yz.next hb6; replace hB := bnx hB hb6)
        | (go_at_call_of 32 u1; refine (c32 _ _ _ _ hbd y1 ht).mono ?_; rintro r w7 ⟨x1, rfl, z1, hb7⟩; replace ht := ht.next hb7; replace z0 := z0.next hb7; replace y2 := y2.next hb7; replace yz := yz.next hb7; replace hB := bnx hB hb7)
        | (go_at_call_of 32 u2; refine (c32 _ _ _ _ hbu y2 ht).mono ?_; rintro r w8 ⟨x2, rfl, z2, hb8⟩; replace z0 := z0.next hb8; replace z1 := z1.next hb8; replace yz := yz.next hb8; replace hB := bnx hB hb8))
      go_roundw
      case rel =>
        refine ⟨j + 1, _, _, _, rfl, rfl, rfl, ?_, by go_num, by omega, ?_, ?_, ?_, yz, hB⟩
        · rw [HL1.out]
        · rw [HRS.out]; exact z0
        · rw [Nat.pow_succ, Nat.mul_right_comm]; exact z1
        · rw [Nat.pow_succ, Nat.mul_right_comm]; exact z2
      case measure => simp [intOf]; omega
    · have hjk : j = K := by omega
      have hor := HEQ.out hjk
      obtain ⟨TT, HTN, HTY, HTL⟩ := HTE.out hjk
      subst hjk
      clear HLT HEQ HTE y1 y2 c32 hj
      have HOR : Hid ((unb || ovb) = true) := hor
      clear hor
      go_cut [129] from 32 (fun o wc => o = .bool true ∧ wc = w4)
      case first =>
        cases unb <;> cases ovb
        · exact absurd HOR.out (by decide)
        all_goals (
          go_wp2
          go_meet
          exact ⟨rfl, rfl⟩)
      case rest =>
        obtain ⟨rfl, rfl⟩ := hcut
        go_upto_region 25 with (first
          | (go_at_call 33; refine (c33 _ _ hv1).mono ?_; rintro r w6 ⟨v6, rfl, hv6, hb6⟩; replace yz := yz.next hb6; replace hB := bnx hB hb6)
          | (go_at_call 38; refine (c38 _ _ hv6 yz).mono ?_; rintro r w7 ⟨rfl, rfl⟩))
        clear c33 c38 yz hv1 hv6
        obtain ⟨upb, HUB⟩ : ∃ upb, Hid (upK ev R D U Z j = upb) := ⟨_, rfl⟩
        go_cut [156] from 32 (fun o wd => o = .bool upb ∧ Below w.heap.size w wd)
        case first =>
          cases unb with
          | false =>
            cases ovb with
            | false => exact absurd HOR.out (by decide)
            | true =>
              have hu : upb = true := by rw [← HUB.out, HUP.out]; rfl
              subst hu
              go_wp2
              go_meet
              exact ⟨rfl, hB⟩
          | true =>
            cases ovb with
            | false =>
              have hu : upb = false := by rw [← HUB.out, HUP.out]; rfl
              subst hu
              go_wp2
              go_meet
              exact ⟨rfl, hB⟩
            | true =>
              rcases HSV.out with ⟨hs, hs2⟩ | ⟨hs, hs2⟩ | ⟨hs, hs2⟩
              · subst hs
                have hu : upb = false := by rw [← HUB.out, HUP.out, hs2]; rfl
                subst hu
                go_wp2
                go_meet
                exact ⟨rfl, hB⟩
              · subst hs
                by_cases hodd : dg % 2 = 1
                · have ho : Hid (((48 + (dg : Int)) % 2 == 1) = true) := by show _ = _; rw [beq_iff_eq]; omega
                  have hu : upb = true := by rw [← HUB.out, HUP.out, hs2, decide_eq_true hodd]; rfl
                  subst hu
                  clear hodd
                  go_wp2
                  go_meet
                  exact ⟨congrArg Value.bool ho.out, hB⟩
                · have ho : Hid (((48 + (dg : Int)) % 2 == 1) = false) := by show _ = _; rw [beq_eq_false_iff_ne]; omega
                  have hu : upb = false := by rw [← HUB.out, HUP.out, hs2, decide_eq_false hodd]; rfl
                  subst hu
                  clear hodd
                  go_wp2
                  go_meet
                  exact ⟨congrArg Value.bool ho.out, hB⟩
              · subst hs
                have hu : upb = true := by rw [← HUB.out, HUP.out, hs2]; rfl
                subst hu
                go_wp2
                go_meet
                exact ⟨rfl, hB⟩
        case rest =>
          obtain ⟨rfl, hBa⟩ := hcut
          clear hB HUP HSV hla hl1
          go_upto_if 156 with fail
          go_cut [22] from 32 (fun o wx => o = .string (B TT) ∧ Below w.heap.size w wx)
          case first =>
            cases upb with
            | false =>
              have hTn := HTN.out HUB.out
              go_wp2
              go_meet
              exact ⟨by rw [hTn], hBa⟩
            | true =>
              have c17 := HTY.out HUB.out
              go_wp2_with (first
                | (go_at_call 19; refine (c19 _).mono ?_; rintro r w8 ⟨v8, rfl, hv8, hb8⟩; replace hBa := bnx hBa hb8)
                | (go_at_call 18; refine (c18 _ _ hv8).mono ?_; rintro r w9 ⟨v9, rfl, hv9, hb9⟩; replace hBa := bnx hBa hb9)
                | (go_at_call 17; refine (c17 _ _ hv9).mono ?_; rintro r w10 ⟨rfl, hb10⟩; replace hBa := bnx hBa hb10))
              go_meet
              exact ⟨rfl, hBa⟩
          case rest =>
            obtain ⟨rfl, hBc⟩ := hcut
            clear hBa HUB HTN HTY c19 c18
            rcases HTL.out with ⟨hTT, hj0, hT2, hC2⟩ | ⟨la, hT1, hT2, hT3, hT4, hC2⟩
            · subst hTT hj0
              have HT2 : Hid (shT ev R D U Z 0 = [49]) := hT2
              have HC2 : Hid (shC ev R D U Z 0 = 1) := hC2
              clear hT2 hC2 HTL
              go_wp2
              go_loopw [22, 30] (fun t22 t30 wr => ((t22 = .string ⟨#[49, 48]⟩ ∧ t30 = .int .i64 E) ∨ (t22 = .string ⟨#[49]⟩ ∧ t30 = .int .i64 (E + 1))) ∧ Below w.heap.size w wr) (fun t22 _ _ => stLen t22)
              case atStart => exact ⟨Or.inl ⟨rfl, by go_num⟩, hBc⟩
              case round =>
                obtain ⟨hor, hB2⟩ := hrel
                rcases hor with ⟨rfl, rfl⟩ | ⟨rfl, rfl⟩
                · go_wp2
                  go_roundw
                  case rel => exact ⟨Or.inr ⟨rfl, by go_num⟩, hB2⟩
                  case measure => decide
                · go_wp2
                  exact bodyPost_ret (v := .tuple #[.string ⟨#[49]⟩, .int .i64 (E + 1), .int .i64 0]) (by simp only [results, Tryz.results11]; go_simp) rfl ⟨by rw [HT2.out, HC2.out]; congr 4; simp, hB2⟩
            · have HT1 : Hid (TT = shT ev R D U Z j) := hT1
              have HC2 : Hid (shC ev R D U Z j = 0) := hC2
              clear hT1 hC2 HTL
              have hne : ((48 + (la : Int)) == 48) = false := by rw [beq_eq_false_iff_ne]; omega
              go_wp2
              go_loopw [22, 30] (fun t22 t30 wr => t22 = .string (B TT) ∧ t30 = .int .i64 (E - j) ∧ Below w.heap.size w wr) (fun _ _ _ => 0)
              case atStart => exact ⟨rfl, by go_num, hBc⟩
              case round =>
                obtain ⟨rfl, rfl, hB2⟩ := hrel
                go_wp2
                exact bodyPost_ret (v := .tuple #[.string (B TT), .int .i64 (E - j), .int .i64 0]) (by simp only [results, Tryz.results11]; go_simp) rfl ⟨by rw [HC2.out, ← HT1.out]; simp, hB2⟩
end Go.Proofs.YtoobncgmcnmgjaaGreatDoor
