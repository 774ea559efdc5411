/-
  Texts that the proof leans on.
-/
import Derived.Test.YtehgnckgmdkfmaaDoorJ20
import Derived.Test.YtehgnckgmdkfmaaDoorJ11
import Derived.Test.YtehgnckgmdkfmaaDoorJ9
import Derived.Test.YtehgnckgmdkfmaaDoorJ6
import Derived.Test.YtehgnckgmdkfmaaDoorJ5
set_option linter.unusedVariables false
set_option linter.unusedSectionVars false
set_option linter.unusedSimpArgs false
set_option maxRecDepth 20000
namespace Go.Proofs.YtehgnckgmdkfmaaDoor
open Go.RowKit
section
theorem val_nought : ∀ M, val (fun _ => 0) M = 0 := fun M => by
  induction M with
  | zero => rfl
  | succ M ih => simp only [val]; rw [ih]; simp
/-- a number or nothing -/
def NN (K X : Nat) (v : Value) (w : World) : Prop := (v = .slice none 0 0 ∧ X = 0) ∨ NT K X v w
theorem NN.next {K X : Nat} {v : Value} {w w' : World} (h : NN K X v w) (hb : Below w.heap.size w w') : NN K X v w' := by
  rcases h with h | h
  · exact Or.inl h
  · exact Or.inr (h.next hb)
theorem trim13 {K V : Nat} {v : Value} {w : World} (hK : K < 1000000) (h : NV K V v w) : Calls Tryd.prog 59 #[v] w fun r w' => ∃ v', r = .returned v' ∧ NT K V v' w' ∧ Below w.heap.size w w' := by
  obtain ⟨g, n, cap, z, rfl, hn, hN, hv⟩ := h
  refine (trimf_any _ n cap z _ (by omega) hN).mono ?_
  rintro r w' ⟨g, cap, rfl, hN', hB, hG⟩
  have := sizeL_le z n
  exact ⟨_, rfl, ⟨g, _, cap, z, rfl, by omega, hN', by rw [val_bare, hv], sizeL_sizeL _ _⟩, hB⟩
set_option maxHeartbeats 1000000 in
theorem times_none (g : Nat) (w : World) : Calls Tryd.prog 56 #[.slice none 0 0, .slice (some ⟨g, 0, none⟩) 1 1] w fun r w' => ∃ v, r = .returned v ∧ NT 2 0 v w' ∧ Below w.heap.size w w' := by
  have hmk := fun w => make_any 2 2 rfl (by omega) w
  have hNt : NV 2 0 (.slice (some ⟨w.heap.size, 0, none⟩) 2 2) (w.alloc (.cells (arrOf (fun _ => 0) 2) 22)) := by
    refine ⟨_, 2, 2, fun _ => 0, rfl, Nat.le_refl _, num_of_block (by omega) (fun _ => ⟨Int.le_refl _, show (0 : Int) ≤ _ by decide⟩) (fun _ _ => rfl) (arrOf_size _ _) (fun j h => arrOf_get _ _ _ _), ?_⟩
    rw [val_nought]
    rfl
  have c40 := trim13 (by decide) hNt
  have hb0 := below1 w (.cells (arrOf (fun _ => 0) 2) 22)
  clear hNt
  generalize arrOf (fun _ => 0) 2 = zz at *
  go_enter Tryd.func56, Tryd.ntmps56
  go_wp2
  go_loopw [22] (fun t22 wr => t22 = .int .i64 0 ∧ wr = w.alloc (.cells zz 22)) (fun _ _ => 0)
  case atStart => exact ⟨rfl, rfl⟩
  case round =>
    obtain ⟨rfl, rfl⟩ := hrel
    go_wp2_with (go_at_call 59; refine c40.mono ?_; rintro r w1 ⟨v1, rfl, hv1, hb1⟩)
    go_ret
    exact ⟨v1, rfl, hv1, hb0.trans (hb1.mono hb0.size)⟩
theorem times13 {K X g : Nat} {v : Value} {w : World} (hK : K < 1000) (h : NN K X v w) (h' : NT 1 1000 (.slice (some ⟨g, 0, none⟩) 1 1) w) : Calls Tryd.prog 56 #[v, .slice (some ⟨g, 0, none⟩) 1 1] w fun r w' => ∃ v, r = .returned v ∧ NT (K + 2) (X * 1000) v w' ∧ Below w.heap.size w w' := by
  rcases h with ⟨rfl, rfl⟩ | h
  · refine (times_none g w).mono ?_
    rintro r w' ⟨v, rfl, ⟨g1, k1, c1, z1, rfl, hk1, hN1, hv1, hs1⟩, hb⟩
    exact ⟨_, rfl, ⟨g1, k1, c1, z1, rfl, by omega, hN1, by rw [hv1], hs1⟩, hb⟩
  · obtain ⟨ga, k, c, z, rfl, hk, hN, hz, _⟩ := h
    obtain ⟨gb, k2, c2, z2, e, hk2, hN2, hz2, _⟩ := h'
    cases e
    refine (times_tr ga 0 k c g 0 1 1 z z2 w (by omega) (by omega) hN hN2).mono fun e w' ⟨g3, k3, cap3, z3, e1, hk3, hN3, hv3, hB, ht⟩ => ⟨_, e1, ⟨g3, k3, cap3, z3, rfl, by omega, hN3, ?_, ht⟩, hB⟩
    have := val_more hN3.2.2.2.1 (k + 1 + 1) hk3
    rw [hv3, hz, hz2] at this
    rw [← this]
    simp
theorem add13 {K K' X Y : Nat} {v v' : Value} {w : World} (hK : K ≤ 100000) (hK' : K' ≤ 100000) (h : NT K X v w) (h' : NV K' Y v' w) : Calls Tryd.prog 55 #[v, v'] w fun r w' => ∃ v, r = .returned v ∧ NT (K + K' + 1) (X + Y) v w' ∧ Below w.heap.size w w' := by
  obtain ⟨a, k, c, z, rfl, hk, hN, hz, _⟩ := h
  obtain ⟨a', k', c', z', rfl, hk', hN', hz'⟩ := h'
  refine (radd_vt _ _ k c k' c' z z' w (by omega) (by omega) hN hN').mono fun r w' ⟨g, k2, cap, y, e1, e2, e3, e4, e5, e6⟩ => ⟨_, e1, ⟨g, k2, cap, y, rfl, by omega, e3, ?_, e6⟩, e5⟩
  rw [e4, hz, hz']
  omega
set_option maxHeartbeats 1000000 in
theorem bits_numN (a : Option Addr) (k cap : Nat) (z : Nat → Int) (w : World) (h : Num w a k cap z) :
    Calls Tryd.prog 32 #[.slice a k cap] w fun e w' => e = .returned (.agg (arrOf z 4)) ∧ Below w.heap.size w w' := by
  have hw := fun (i : Nat) (o1 o2 : Obj) => word_any a k cap i z ((w.alloc o1).alloc o2) ((h.next (below1 w _)).next (below1 _ _))
  clear h
  go_enter Tryd.func32, Tryd.ntmps32
  go_wp2
  go_loopw [4, 5] (fun u4 i wr => ∃ (j : Nat) (ss : Array Value), j ≤ 4 ∧ i = .int .i64 j ∧ ss.size = 4 ∧ (∀ q h, ss[q]'h = Value.int .u64 (if q < j then z q else 0)) ∧ wr = (w.alloc (.cells #[.int .u64 0, .int .u64 0, .int .u64 0, .int .u64 0] 24)).alloc (.cells ss 24)) (fun _ i _ => 4 - (intOf i).toNat)
  case atStart => exact ⟨0, _, Nat.zero_le _, rfl, rfl, by intro q h; have h' : q < 4 := h; match q, h' with | 0, _ => rfl | 1, _ => rfl | 2, _ => rfl | 3, _ => rfl, rfl⟩
  case round =>
    obtain ⟨j, ss, hj, rfl, hsz, hss, rfl⟩ := hrel
    by_cases h4 : j < 4
    · have h4i : (j : Int) < 4 := by omega
      have h4s : j < ss.size := by omega
      have hsk : ss[j]? = some (.int .u64 0) := by rw [Array.getElem?_eq_getElem h4s, hss j h4s, if_neg (by omega)]
      have HR : Hid (∀ (i : Nat) (h : i < (ss.setIfInBounds j (.int .u64 (z j))).size), (ss.setIfInBounds j (.int .u64 (z j)))[i]'h = Value.int .u64 (if i < j + 1 then z i else 0)) := set_next hss
      have hwj := hw j (.cells #[.int .u64 0, .int .u64 0, .int .u64 0, .int .u64 0] 24) (.cells ss 24)
      clear hss hw
      go_wp2_with (go_at_call 64; refine hwj.mono ?_; rintro e w' ⟨rfl, rfl⟩)
      go_roundw
      case rel => exact ⟨j + 1, ss.setIfInBounds j (.int .u64 (z j)), by omega, by go_num, by simp [hsz], HR.out, rfl⟩
      case measure => simp [intOf]; omega
    · obtain rfl : j = 4 := by omega
      have hss' : ∀ q h, ss[q]'h = Value.int .u64 (z q) := by
        intro q h; rw [hss q h, if_pos (by omega)]
      clear hss hw
      go_wp2
      exact bodyPost_ret (v := .agg (arrOf z 4)) (by simp [results, Tryd.results32, go_sem]; rfl) rfl ⟨rfl, ((Below.refl _ _).alloc (Nat.le_refl _) _).alloc (by simp) _⟩
theorem bits_none (w : World) : Calls Tryd.prog 32 #[.slice none 0 0] w fun r w' => r = .returned (A4 0) ∧ Below w.heap.size w w' := by
  refine (bits_numN none 0 0 (fun _ => 0) w ⟨Nat.le_refl _, by unfold maxLen; omega, fun _ => ⟨Int.le_refl _, show (0 : Int) ≤ _ by decide⟩, fun _ _ => rfl, Or.inl ⟨rfl, rfl⟩⟩).mono ?_
  rintro r w' ⟨rfl, hb⟩
  refine ⟨?_, hb⟩
  rw [Z4_eq]
  rfl
theorem bits13 {K X : Nat} {v : Value} {w : World} (h : NN K X v w) : Calls Tryd.prog 32 #[v] w fun r w' => r = .returned (A4 X) ∧ Below w.heap.size w w' := by
  rcases h with ⟨rfl, rfl⟩ | h
  · exact bits_none w
  · exact bits_nv h.nv
attribute [local irreducible] W4 NT NV NN
set_option maxHeartbeats 400000 in
theorem rupk_bad (B : Nat) (n : Int) (h : n < 0 ∨ 11 < n) (w : World) : Calls Tryd.prog 53 #[A4 B, .int .i64 n] w fun r w' => r = .returned (.tuple #[A4 0, .int .i64 1]) ∧ Below w.heap.size w w' := by
  rw [Z4_eq]
  have hsm := cell_set_map
  by_cases h0 : n < 0
  · go_enter Tryd.func53, Tryd.ntmps53
    go_wp2
    exact bodyPost_ret (by simp only [results, Tryd.results53]; go_simp) rfl ⟨rfl, bgo⟩
  · have h1 : 11 < n := by omega
    go_enter Tryd.func53, Tryd.ntmps53
    go_wp2
    exact bodyPost_ret (by simp only [results, Tryd.results53]; go_simp) rfl ⟨rfl, bgo⟩
section
variable (B c : Nat) (w : World) (L : Int) (hc : c ≤ 11)
  (c26 : ∀ W, NV 4 B (.slice (some ⟨w.heap.size, 0, none⟩) 4 4) W → Calls Tryd.prog 36 #[.slice (some ⟨w.heap.size, 0, none⟩) 4 4] W fun r w' => r = .returned (.int .i64 L) ∧ W = w') (hB : B < 2 ^ 256)
include hc c26 hB
set_option maxHeartbeats 1000000 in
theorem rupk_l (hL : 10 * (c : Int) < L) : Calls Tryd.prog 53 #[A4 B, .int .i64 (c : Int)] w fun r w' => r = .returned (.tuple #[A4 0, .int .i64 3]) ∧ Below w.heap.size w w' := by
  rw [Z4_eq]
  have h0 : ¬ (c : Int) < 0 := by omega
  have h9 : ¬ 11 < (c : Int) := by omega
  have hsm := cell_set_map
  have hbx := fun W hW => box_nv (w0 := w) (w := W) (B := B) (t := 24) hB hW
  go_enter Tryd.func53, Tryd.ntmps53
  go_wp2_with (go_at_call 36; refine (c26 _ (hbx _ bgo)).mono ?_; rintro r w1 ⟨rfl, rfl⟩)
  exact bodyPost_ret (by simp only [results, Tryd.results53]; go_simp) rfl ⟨rfl, bgo⟩
variable (U X D : Nat → Nat)
  (c27 : Hid (∀ i, i < c → ∀ W, Calls Tryd.prog 35 #[A4 B, .int .i64 (10 * ((c : Int) - 1 - (i : Int))), .int .i64 10] W fun r w' => ∃ v, r = .returned v ∧ NT 19 (X i) v w' ∧ Below W.heap.size W w'))
  (c24 : Hid (∀ i W v, NT 19 (X i) v W → Calls Tryd.prog 33 #[v] W fun r w' => r = .returned (.int .i64 (X i : Int)) ∧ W = w'))
  (c12 : Hid (∀ i W, Calls Tryd.prog 79 #[.int .i64 (X i : Int)] W fun r w' => r = .returned (.tuple #[.int .i64 (D i : Int), .int .i64 0]) ∧ Below W.heap.size W w'))
  (hD : Hid (∀ i, D i < 1000))
  (c29 : Hid (∀ i, i < c → ∀ W v g, NN (4 * i) (U i) v W → NT 1 1000 (.slice (some ⟨g, 0, none⟩) 1 1) W → Calls Tryd.prog 56 #[v, .slice (some ⟨g, 0, none⟩) 1 1] W fun r w' => ∃ v, r = .returned v ∧ NT (4 * i + 2) (U i * 1000) v w' ∧ Below W.heap.size W w'))
  (c28 : Hid (∀ i, i < c → ∀ W v v', NT (4 * i + 2) (U i * 1000) v W → NV 1 (D i) v' W → Calls Tryd.prog 55 #[v, v'] W fun r w' => ∃ v, r = .returned v ∧ NN (4 * (i + 1)) (U (i + 1)) v w' ∧ Below W.heap.size W w'))
  (c30 : Hid (∀ W v, NN (4 * c) (U c) v W → Calls Tryd.prog 32 #[v] W fun r w' => r = .returned (A4 (U c)) ∧ Below W.heap.size W w'))
  (hU : NN (4 * 0) (U 0) (.slice none 0 0) w)
include c27 c24 c12 hD c29 c28 c30 hU
set_option maxHeartbeats 4000000 in
theorem rupk_w (hL : ¬ 10 * (c : Int) < L) : Calls Tryd.prog 53 #[A4 B, .int .i64 (c : Int)] w fun r w' => r = .returned (.tuple #[A4 (U c), .int .i64 0]) ∧ Below w.heap.size w w' := by
  have h0 : ¬ (c : Int) < 0 := by omega
  have h9 : ¬ 11 < (c : Int) := by omega
  have hsm := cell_set_map
  have hbx := fun W hW => box_nv (w0 := w) (w := W) (B := B) (t := 24) hB hW
  go_enter Tryd.func53, Tryd.ntmps53
  go_wp2_with (go_at_call 36; refine (c26 _ (hbx _ bgo)).mono ?_; rintro r w1 ⟨rfl, rfl⟩)
  clear hbx
  go_loopw [6, 7, 8, 9, 24] (fun t6 _ _ _ t wr => ∃ (i : Nat), i ≤ c ∧ t = .int .i64 (i : Int) ∧ NN (4 * i) (U i) t6 wr ∧ C4 w.heap.size B wr ∧ C4 (w.heap.size + 1) 0 wr ∧ Below w.heap.size w wr) (fun _ _ _ _ t _ => c - (intOf t).toNat)
  case atStart =>
    exact ⟨0, Nat.zero_le _, rfl, hU.next bgo, by refine ⟨by (simp <;> omega), ?_, ?_, ?_, ?_, ?_, ?_, ?_, ?_⟩ <;> go_simp, by refine ⟨by (simp <;> omega), ?_, ?_, ?_, ?_, ?_, ?_, ?_, ?_⟩ <;> first | (rw [W4_zero]; go_simp) | go_simp, bgo⟩
  case round =>
    obtain ⟨i, hi, rfl, hn, h4, h5, hbw⟩ := hrel
    have hl4 := h4.lt
    have hl5 := h5.lt
    obtain ⟨_, p0, p1, p2, p3, f0, f1, f2, f3⟩ := id h4
    obtain ⟨_, q0, q1, q2, q3, e0, e1, e2, e3⟩ := id h5
    by_cases hic : i < c
    · have hl : (i : Int) < (c : Int) := by omega
      have hci : (c : Int) ≤ 11 := by omega
      have d27 := c27.out i hic
      have d24 := c24.out i
      have d12 := c12.out i
      have dD := hD.out i
      have d29 := c29.out i hic
      have d28 := c28.out i hic
      have dd0 : (0 : Int) ≤ (D i : Int) := by omega
      have dd1 : (D i : Int) ≤ 999 := by omega
      generalize D i = Di at *
      generalize X i = Xi at *
      go_wp2_with (first
        | (go_at_call 35; refine (d27 _).mono ?_; rintro r w2 ⟨v2, rfl, hr2, hb2⟩; have hn2 := hn.next hb2; have hq2 := h4.next hb2; have ho2 := h5.next hb2; obtain ⟨hc2, hf2⟩ := bcell hb2; have hz2_0 : w.heap.size < w2.heap.size := lt_below hb2 ltg; have hl2_0 := Nat.le_of_lt hz2_0; have hz2_1 : w.heap.size + 1 < w2.heap.size := lt_below hb2 ltg; have hl2_1 := Nat.le_of_lt hz2_1; have hA2 := bnext (w0 := w) bgo hb2; have hs2 := hA2.size; clear hb2)
        | (go_at_call 33; refine (d24 _ _ hr2).mono ?_; rintro r w3 ⟨rfl, rfl⟩)
        | (go_at_call 79; refine (d12 _).mono ?_; rintro r w4 ⟨rfl, hb4⟩; have hn4 := hn2.next hb4; have hq4 := hq2.next hb4; have ho4 := ho2.next hb4; obtain ⟨hc4, hf4⟩ := bcell hb4; have hz4_0 : w.heap.size < w4.heap.size := lt_below hb4 ltg; have hl4_0 := Nat.le_of_lt hz4_0; have hz4_1 : w.heap.size + 1 < w4.heap.size := lt_below hb4 ltg; have hl4_1 := Nat.le_of_lt hz4_1; have hA4 := bnext (w0 := w) bgo hb4; have hs4 := hA4.size; clear hb4)
        | (go_at_call 56; refine (d29 _ _ _ (hn4.next (below1 _ _)) (nt_thou rfl)).mono ?_; rintro r w5 ⟨v5, rfl, hr5, hb5⟩; have hq5 := (hq4.next (below1 _ _)).next hb5; have ho5 := (ho4.next (below1 _ _)).next hb5; obtain ⟨hc5, hf5⟩ := bcell hb5; have hz5_0 : w.heap.size < w5.heap.size := lt_below hb5 ltg; have hl5_0 := Nat.le_of_lt hz5_0; have hz5_1 : w.heap.size + 1 < w5.heap.size := lt_below hb5 ltg; have hl5_1 := Nat.le_of_lt hz5_1; have hA5 := bnext (w0 := w) bgo hb5; have hs5 := hA5.size; clear hb5)
        | (go_at_call 55; refine (d28 _ _ _ (hr5.next (below1 _ _)) (nv_dec rfl rfl (by omega))).mono ?_; rintro r w6 ⟨v6, rfl, hr6, hb6⟩; have hq6 := (hq5.next (below1 _ _)).next hb6; have ho6 := (ho5.next (below1 _ _)).next hb6; obtain ⟨hc6, hf6⟩ := bcell hb6; have hz6_0 : w.heap.size < w6.heap.size := lt_below hb6 ltg; have hl6_0 := Nat.le_of_lt hz6_0; have hz6_1 : w.heap.size + 1 < w6.heap.size := lt_below hb6 ltg; have hl6_1 := Nat.le_of_lt hz6_1; have hA6 := bnext (w0 := w) bgo hb6; have hs6 := hA6.size; clear hb6))
      go_roundw
      case rel => exact ⟨i + 1, by omega, by go_num, hr6, hq6, ho6, bgo⟩
      case measure => simp [intOf]; omega
    · have hl : ¬ (i : Int) < (c : Int) := by omega
      obtain rfl : i = c := by omega
      have d30 := c30.out
      go_wp2_with (go_at_call 32; refine (d30 _ _ hn).mono ?_; rintro r w2 ⟨rfl, hb2⟩; obtain ⟨hc2, hf2⟩ := bcell hb2; have hz2_0 : w.heap.size < w2.heap.size := lt_below hb2 ltg; have hl2_0 := Nat.le_of_lt hz2_0; have hz2_1 : w.heap.size + 1 < w2.heap.size := lt_below hb2 ltg; have hl2_1 := Nat.le_of_lt hz2_1; have hA2 := bnext (w0 := w) bgo hb2; have hs2 := hA2.size; clear hb2)
      exact bodyPost_ret (by simp only [results, Tryd.results53]; go_simp) rfl ⟨rfl, bgo⟩
end
theorem rupk_any (B : Nat) (n : Int) (w : World) (hB : B < 2 ^ 256) : Calls Tryd.prog 53 #[A4 B, .int .i64 n] w fun r w' => r = .returned (.tuple #[A4 (dUv B n), .int .i64 (dUe B n)]) ∧ Below w.heap.size w w' := by
  unfold dUv dUe
  by_cases h : 0 ≤ n ∧ n ≤ 11
  · obtain ⟨c, rfl⟩ := Int.eq_ofNat_of_zero_le h.1
    have hc : c ≤ 11 := by omega
    rw [if_pos h, if_pos h, Int.toNat_natCast]
    have c26 : ∀ W, NV 4 B (.slice (some ⟨w.heap.size, 0, none⟩) 4 4) W → Calls Tryd.prog 36 #[.slice (some ⟨w.heap.size, 0, none⟩) 4 4] W fun r w' => r = .returned (.int .i64 (bl B : Int)) ∧ W = w' := fun W hN => by
      unfold NV at hN
      obtain ⟨g, k, cap, z, e, hk, hN, hv⟩ := hN
      cases e
      have := rlen_num _ 4 4 z W (by decide) hN
      rw [len_bl hN.2.2.1 hv] at this
      exact this
    have hp : (1024 : Nat) ^ c = 2 ^ (10 * c) := by rw [Nat.pow_mul]
    have hbl := bl_le (V := B) (k := 10 * c)
    rw [← hp] at hbl
    by_cases hq : B < 1024 ^ c
    · rw [if_pos hq, if_pos hq]
      have := rupk_w B c w (bl B : Int) hc c26 hB (fun i => dlU i (B / 1024 ^ (c - i))) (fun i => B / 2 ^ (10 * (c - 1 - i)) % 1024) (fun i => dlD (B / 2 ^ (10 * (c - 1 - i)) % 1024))
        (fun i hi W => ?_) (fun i W v hv => ?_) (fun i W => ?_) (fun i => ?_) (fun i hi W v g h1 h2 => ?_) (fun i hi W v v' h1 h2 => ?_) (fun W v hv => ?_) ?_ (by have := hbl.2 hq; omega)
      · simp only [Nat.sub_self, Nat.pow_zero, Nat.div_one] at this
        exact this
      · have := field_any B (10 * (c - 1 - i)) 10 W hB (by omega) (by decide)
        rw [show ((10 * (c - 1 - i) : Nat) : Int) = 10 * ((c : Int) - 1 - (i : Int)) by omega] at this
        exact this
      · refine (number_nv hv.nv (by decide) (by have := Nat.mod_lt (B / 2 ^ (10 * (c - 1 - i))) (show 0 < 1024 by decide); omega)).mono ?_
        rintro r w' ⟨rfl, rfl⟩
        exact ⟨rfl, rfl⟩
      · exact dcd_v _ (Nat.mod_lt _ (by decide)) W
      · exact (dl_means _ (Nat.mod_lt _ (by decide))).1
      · exact times13 (by omega) h1 h2
      · refine (add13 (by omega) (by decide) h1 h2).mono ?_
        rintro r w' ⟨v, rfl, hv, hb⟩
        refine ⟨v, rfl, ?_, hb⟩
        have e : dlU i (B / 1024 ^ (c - i)) * 1000 + dlD (B / 2 ^ (10 * (c - 1 - i)) % 1024) = dlU (i + 1) (B / 1024 ^ (c - (i + 1))) := by
          have e2 : (2 : Nat) ^ (10 * (c - 1 - i)) = 1024 ^ (c - (i + 1)) := by
            rw [Nat.pow_mul, show c - 1 - i = c - (i + 1) by omega]
          have e1 : B / 1024 ^ (c - i) = B / 1024 ^ (c - (i + 1)) / 1024 := by
            rw [Nat.div_div_eq_div_mul, ← Nat.pow_succ, show (c - (i + 1)).succ = c - i by omega]
          rw [dlU_step, e1, e2]
        rw [e, show 4 * i + 2 + 1 + 1 = 4 * (i + 1) by omega] at hv
        unfold NN
        exact Or.inr hv
      · exact bits13 hv
      · unfold NN
        exact Or.inl ⟨rfl, rfl⟩
    · rw [if_neg hq, if_neg hq]
      exact rupk_l B c w (bl B : Int) hc c26 hB (by
        have : ¬ bl B ≤ 10 * c := fun q => hq (hbl.1 q)
        omega)
  · rw [if_neg h, if_neg h]
    exact rupk_bad B n (by omega) w
end
end Go.Proofs.YtehgnckgmdkfmaaDoor
