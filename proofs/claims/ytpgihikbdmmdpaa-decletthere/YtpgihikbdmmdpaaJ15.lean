/-
  Texts that the proof leans on, joined: Di, Dj, Dl, Dm, Ord.
-/
import Derived.Test.YtpgihikbdmmdpaaJ12
import Derived.Test.YtpgihikbdmmdpaaJ13
import Derived.Test.YtpgihikbdmmdpaaJ14
import Derived.Test.YtpgihikbdmmdpaaJ1
import Derived.Test.YtpgihikbdmmdpaaJ11
import Derived.Test.YtpgihikbdmmdpaaJ8
import Derived.StillTail
import Derived.Below
import Derived.WalkKit
set_option linter.unusedVariables false
set_option linter.unusedSectionVars false
set_option linter.unusedSimpArgs false
set_option maxRecDepth 20000
namespace Go.Proofs.Ytpgihikbdmmdpaa
open Go.RowKit

theorem val_nought : ∀ M, val (fun _ => 0) M = 0 := fun M => by
  induction M with
  | zero => rfl
  | succ M ih => simp only [val]; rw [ih]; simp
/-- a number or nothing -/
def NN (K X : Nat) (v : Value) (w : World) : Prop := (v = .slice none 0 0 ∧ X = 0) ∨ NT K X v w
theorem NN.next {K X : Nat} {v : Value} {w w' : World} (h : NN K X v w) (hb : Below w.heap.size w w') : NN K X v w' := by
  rcases h with h | h
  · exact Or.inl h
  · exact Or.inr (h.next hb)
theorem trim13 {K V : Nat} {v : Value} {w : World} (hK : K < 1000000) (h : NV K V v w) : Calls Try.prog 47 #[v] w fun r w' => ∃ v', r = .returned v' ∧ NT K V v' w' ∧ Below w.heap.size w w' := by
  obtain ⟨g, n, cap, z, rfl, hn, hN, hv⟩ := h
  refine (trimf_any _ n cap z _ (by omega) hN).mono ?_
  rintro r w' ⟨g, cap, rfl, hN', hB, hG⟩
  have := sizeL_le z n
  exact ⟨_, rfl, ⟨g, _, cap, z, rfl, by omega, hN', by rw [val_bare, hv], sizeL_sizeL _ _⟩, hB⟩
set_option maxHeartbeats 1000000 in
theorem times_none (g : Nat) (w : World) : Calls Try.prog 39 #[.slice none 0 0, .slice (some ⟨g, 0, none⟩) 1 1] w fun r w' => ∃ v, r = .returned v ∧ NT 2 0 v w' ∧ Below w.heap.size w w' := by
  have hmk := fun w => make_any 2 2 rfl (by omega) w
  have hNt : NV 2 0 (.slice (some ⟨w.heap.size, 0, none⟩) 2 2) (w.alloc (.cells (arrOf (fun _ => 0) 2) 30)) := by
    refine ⟨_, 2, 2, fun _ => 0, rfl, Nat.le_refl _, num_of_block (by omega) (fun _ => ⟨Int.le_refl _, show (0 : Int) ≤ _ by decide⟩) (fun _ _ => rfl) (arrOf_size _ _) (fun j h => arrOf_get _ _ _ _), ?_⟩
    rw [val_nought]
    rfl
  have c40 := trim13 (by decide) hNt
  have hb0 := below1 w (.cells (arrOf (fun _ => 0) 2) 30)
  clear hNt
  generalize arrOf (fun _ => 0) 2 = zz at *
  go_enter Try.func39, Try.ntmps39
  go_wp2
  go_loopw [22] (fun t22 wr => t22 = .int .i64 0 ∧ wr = w.alloc (.cells zz 30)) (fun _ _ => 0)
  case atStart => exact ⟨rfl, rfl⟩
  case round =>
    obtain ⟨rfl, rfl⟩ := hrel
    go_wp2_with (go_at_call 47; refine c40.mono ?_; rintro r w1 ⟨v1, rfl, hv1, hb1⟩)
    go_ret
    exact ⟨v1, rfl, hv1, hb0.trans (hb1.mono hb0.size)⟩
theorem times13 {K X g : Nat} {v : Value} {w : World} (hK : K < 1000) (h : NN K X v w) (h' : NT 1 1000 (.slice (some ⟨g, 0, none⟩) 1 1) w) : Calls Try.prog 39 #[v, .slice (some ⟨g, 0, none⟩) 1 1] w fun r w' => ∃ v, r = .returned v ∧ NT (K + 2) (X * 1000) v w' ∧ Below w.heap.size w w' := by
  rcases h with ⟨rfl, rfl⟩ | h
  · refine (times_none g w).mono ?_
    rintro r w' ⟨v, rfl, ⟨g1, k1, c1, z1, rfl, hk1, hN1, hv1, hs1⟩, hb⟩
    exact ⟨_, rfl, ⟨g1, k1, c1, z1, rfl, by omega, hN1, by rw [hv1], hs1⟩, hb⟩
  · obtain ⟨ga, k, c, z, rfl, hk, hN, hz, _⟩ := h
    obtain ⟨gb, k2, c2, z2, e, hk2, hN2, hz2, _⟩ := h'
    cases e
    refine (times_tr ga 0 k c g 0 1 1 z z2 w (by omega) (by omega) hN hN2).mono fun e w' ⟨g3, k3, cap3, z3, e1, hk3, hN3, hv3, hB, ht⟩ => ⟨_, e1, ⟨g3, k3, cap3, z3, rfl, by omega, hN3, ?_, ht⟩, hB⟩
    have := val_more hN3.2.2.2.1 (k + 1 + 1) hk3
    rw [hv3, hz, hz2] at this
    rw [← this]
    simp
theorem add13 {K K' X Y : Nat} {v v' : Value} {w : World} (hK : K ≤ 100000) (hK' : K' ≤ 100000) (h : NT K X v w) (h' : NV K' Y v' w) : Calls Try.prog 38 #[v, v'] w fun r w' => ∃ v, r = .returned v ∧ NT (K + K' + 1) (X + Y) v w' ∧ Below w.heap.size w w' := by
  obtain ⟨a, k, c, z, rfl, hk, hN, hz, _⟩ := h
  obtain ⟨a', k', c', z', rfl, hk', hN', hz'⟩ := h'
  refine (radd_vt _ _ k c k' c' z z' w (by omega) (by omega) hN hN').mono fun r w' ⟨g, k2, cap, y, e1, e2, e3, e4, e5, e6⟩ => ⟨_, e1, ⟨g, k2, cap, y, rfl, by omega, e3, ?_, e6⟩, e5⟩
  rw [e4, hz, hz']
  omega
set_option maxHeartbeats 1000000 in
theorem bits_numN (a : Option Addr) (k cap : Nat) (z : Nat → Int) (w : World) (h : Num w a k cap z) :
    Calls Try.prog 40 #[.slice a k cap] w fun e w' => e = .returned (.agg (arrOf z 4)) ∧ Below w.heap.size w w' := by
  have hw := fun (i : Nat) (o1 o2 : Obj) => word_any a k cap i z ((w.alloc o1).alloc o2) ((h.next (below1 w _)).next (below1 _ _))
  clear h
  go_enter Try.func40, Try.ntmps40
  go_wp2
  go_loopw [4, 5] (fun u4 i wr => ∃ (j : Nat) (ss : Array Value), j ≤ 4 ∧ i = .int .i64 j ∧ ss.size = 4 ∧ (∀ q h, ss[q]'h = Value.int .u64 (if q < j then z q else 0)) ∧ wr = (w.alloc (.cells #[.int .u64 0, .int .u64 0, .int .u64 0, .int .u64 0] 32)).alloc (.cells ss 32)) (fun _ i _ => 4 - (intOf i).toNat)
  case atStart => exact ⟨0, _, Nat.zero_le _, rfl, rfl, by intro q h; have h' : q < 4 := h; match q, h' with | 0, _ => rfl | 1, _ => rfl | 2, _ => rfl | 3, _ => rfl, rfl⟩
  case round =>
    obtain ⟨j, ss, hj, rfl, hsz, hss, rfl⟩ := hrel
    by_cases h4 : j < 4
    · have h4i : (j : Int) < 4 := by omega
      have h4s : j < ss.size := by omega
      have hsk : ss[j]? = some (.int .u64 0) := by rw [Array.getElem?_eq_getElem h4s, hss j h4s, if_neg (by omega)]
      have HR : Hid (∀ (i : Nat) (h : i < (ss.setIfInBounds j (.int .u64 (z j))).size), (ss.setIfInBounds j (.int .u64 (z j)))[i]'h = Value.int .u64 (if i < j + 1 then z i else 0)) := set_next hss
      have hwj := hw j (.cells #[.int .u64 0, .int .u64 0, .int .u64 0, .int .u64 0] 32) (.cells ss 32)
      clear hss hw
      go_wp2_with (go_at_call 41; refine hwj.mono ?_; rintro e w' ⟨rfl, rfl⟩)
      go_roundw
      case rel => exact ⟨j + 1, ss.setIfInBounds j (.int .u64 (z j)), by omega, by go_num, by simp [hsz], HR.out, rfl⟩
      case measure => simp [intOf]; omega
    · obtain rfl : j = 4 := by omega
      have hss' : ∀ q h, ss[q]'h = Value.int .u64 (z q) := by
        intro q h; rw [hss q h, if_pos (by omega)]
      clear hss hw
      go_wp2
      exact bodyPost_ret (v := .agg (arrOf z 4)) (by simp [results, Try.results40, go_sem]; rfl) rfl ⟨rfl, ((Below.refl _ _).alloc (Nat.le_refl _) _).alloc (by simp) _⟩
theorem bits_none (w : World) : Calls Try.prog 40 #[.slice none 0 0] w fun r w' => r = .returned (A4 0) ∧ Below w.heap.size w w' := by
  refine (bits_numN none 0 0 (fun _ => 0) w ⟨Nat.le_refl _, by unfold maxLen; omega, fun _ => ⟨Int.le_refl _, show (0 : Int) ≤ _ by decide⟩, fun _ _ => rfl, Or.inl ⟨rfl, rfl⟩⟩).mono ?_
  rintro r w' ⟨rfl, hb⟩
  refine ⟨?_, hb⟩
  rw [Z4_eq]
  rfl
theorem bits13 {K X : Nat} {v : Value} {w : World} (h : NN K X v w) : Calls Try.prog 40 #[v] w fun r w' => r = .returned (A4 X) ∧ Below w.heap.size w w' := by
  rcases h with ⟨rfl, rfl⟩ | h
  · exact bits_none w
  · exact bits_nv h.nv
attribute [local irreducible] W4 NT NV NN
set_option maxHeartbeats 400000 in
theorem rupk_bad (B : Nat) (n : Int) (h : n < 0 ∨ 11 < n) (w : World) : Calls Try.prog 18 #[A4 B, .int .i64 n] w fun r w' => r = .returned (.tuple #[A4 0, .int .i64 1]) ∧ Below w.heap.size w w' := by
  rw [Z4_eq]
  have hsm := cell_set_map
  by_cases h0 : n < 0
  · go_enter Try.func18, Try.ntmps18
    go_wp2
    exact bodyPost_ret (by simp only [results, Try.results18]; go_simp) rfl ⟨rfl, bgo⟩
  · have h1 : 11 < n := by omega
    go_enter Try.func18, Try.ntmps18
    go_wp2
    exact bodyPost_ret (by simp only [results, Try.results18]; go_simp) rfl ⟨rfl, bgo⟩
section
variable (B c : Nat) (w : World) (L : Int) (hc : c ≤ 11)
  (c26 : ∀ W, NV 4 B (.slice (some ⟨w.heap.size, 0, none⟩) 4 4) W → Calls Try.prog 36 #[.slice (some ⟨w.heap.size, 0, none⟩) 4 4] W fun r w' => r = .returned (.int .i64 L) ∧ W = w') (hB : B < 2 ^ 256)
include hc c26 hB
set_option maxHeartbeats 1000000 in
theorem rupk_l (hL : 10 * (c : Int) < L) : Calls Try.prog 18 #[A4 B, .int .i64 (c : Int)] w fun r w' => r = .returned (.tuple #[A4 0, .int .i64 3]) ∧ Below w.heap.size w w' := by
  rw [Z4_eq]
  have h0 : ¬ (c : Int) < 0 := by omega
  have h9 : ¬ 11 < (c : Int) := by omega
  have hsm := cell_set_map
  have hbx := fun W hW => box_nv (w0 := w) (w := W) (B := B) (t := 32) hB hW
  go_enter Try.func18, Try.ntmps18
  go_wp2_with (go_at_call 36; refine (c26 _ (hbx _ bgo)).mono ?_; rintro r w1 ⟨rfl, rfl⟩)
  exact bodyPost_ret (by simp only [results, Try.results18]; go_simp) rfl ⟨rfl, bgo⟩
variable (U X D : Nat → Nat)
  (c27 : Hid (∀ i, i < c → ∀ W, Calls Try.prog 37 #[A4 B, .int .i64 (10 * ((c : Int) - 1 - (i : Int))), .int .i64 10] W fun r w' => ∃ v, r = .returned v ∧ NT 19 (X i) v w' ∧ Below W.heap.size W w'))
  (c24 : Hid (∀ i W v, NT 19 (X i) v W → Calls Try.prog 32 #[v] W fun r w' => r = .returned (.int .i64 (X i : Int)) ∧ W = w'))
  (c12 : Hid (∀ i W, Calls Try.prog 12 #[.int .i64 (X i : Int)] W fun r w' => r = .returned (.tuple #[.int .i64 (D i : Int), .int .i64 0]) ∧ Below W.heap.size W w'))
  (hD : Hid (∀ i, D i < 1000))
  (c29 : Hid (∀ i, i < c → ∀ W v g, NN (4 * i) (U i) v W → NT 1 1000 (.slice (some ⟨g, 0, none⟩) 1 1) W → Calls Try.prog 39 #[v, .slice (some ⟨g, 0, none⟩) 1 1] W fun r w' => ∃ v, r = .returned v ∧ NT (4 * i + 2) (U i * 1000) v w' ∧ Below W.heap.size W w'))
  (c28 : Hid (∀ i, i < c → ∀ W v v', NT (4 * i + 2) (U i * 1000) v W → NV 1 (D i) v' W → Calls Try.prog 38 #[v, v'] W fun r w' => ∃ v, r = .returned v ∧ NN (4 * (i + 1)) (U (i + 1)) v w' ∧ Below W.heap.size W w'))
  (c30 : Hid (∀ W v, NN (4 * c) (U c) v W → Calls Try.prog 40 #[v] W fun r w' => r = .returned (A4 (U c)) ∧ Below W.heap.size W w'))
  (hU : NN (4 * 0) (U 0) (.slice none 0 0) w)
include c27 c24 c12 hD c29 c28 c30 hU
set_option maxHeartbeats 4000000 in
theorem rupk_w (hL : ¬ 10 * (c : Int) < L) : Calls Try.prog 18 #[A4 B, .int .i64 (c : Int)] w fun r w' => r = .returned (.tuple #[A4 (U c), .int .i64 0]) ∧ Below w.heap.size w w' := by
  have h0 : ¬ (c : Int) < 0 := by omega
  have h9 : ¬ 11 < (c : Int) := by omega
  have hsm := cell_set_map
  have hbx := fun W hW => box_nv (w0 := w) (w := W) (B := B) (t := 32) hB hW
  go_enter Try.func18, Try.ntmps18
  go_wp2_with (go_at_call 36; refine (c26 _ (hbx _ bgo)).mono ?_; rintro r w1 ⟨rfl, rfl⟩)
  clear hbx
  go_loopw [6, 7, 8, 9, 24] (fun t6 _ _ _ t wr => ∃ (i : Nat), i ≤ c ∧ t = .int .i64 (i : Int) ∧ NN (4 * i) (U i) t6 wr ∧ C4 w.heap.size B wr ∧ C4 (w.heap.size + 1) 0 wr ∧ Below w.heap.size w wr) (fun _ _ _ _ t _ => c - (intOf t).toNat)
  case atStart =>
    exact ⟨0, Nat.zero_le _, rfl, hU.next bgo, by refine ⟨by (simp <;> omega), ?_, ?_, ?_, ?_, ?_, ?_, ?_, ?_⟩ <;> go_simp, by refine ⟨by (simp <;> omega), ?_, ?_, ?_, ?_, ?_, ?_, ?_, ?_⟩ <;> first | (rw [W4_zero]; go_simp) | go_simp, bgo⟩
  case round =>
    obtain ⟨i, hi, rfl, hn, h4, h5, hbw⟩ := hrel
    have hl4 := h4.lt
    have hl5 := h5.lt
    obtain ⟨_, p0, p1, p2, p3, f0, f1, f2, f3⟩ := id h4
    obtain ⟨_, q0, q1, q2, q3, e0, e1, e2, e3⟩ := id h5
    by_cases hic : i < c
    · have hl : (i : Int) < (c : Int) := by omega
      have hci : (c : Int) ≤ 11 := by omega
      have d27 := c27.out i hic
      have d24 := c24.out i
      have d12 := c12.out i
      have dD := hD.out i
      have d29 := c29.out i hic
      have d28 := c28.out i hic
      have dd0 : (0 : Int) ≤ (D i : Int) := by omega
      have dd1 : (D i : Int) ≤ 999 := by omega
      generalize D i = Di at *
      generalize X i = Xi at *
      go_wp2_with (first
        | (go_at_call 37; refine (d27 _).mono ?_; rintro r w2 ⟨v2, rfl, hr2, hb2⟩; have hn2 := hn.next hb2; have hq2 := h4.next hb2; have ho2 := h5.next hb2; obtain ⟨hc2, hf2⟩ := bcell hb2; have hz2_0 : w.heap.size < w2.heap.size := lt_below hb2 ltg; have hl2_0 := Nat.le_of_lt hz2_0; have hz2_1 : w.heap.size + 1 < w2.heap.size := lt_below hb2 ltg; have hl2_1 := Nat.le_of_lt hz2_1; have hA2 := bnext (w0 := w) bgo hb2; have hs2 := hA2.size; clear hb2)
        | (go_at_call 32; refine (d24 _ _ hr2).mono ?_; rintro r w3 ⟨rfl, rfl⟩)
        | (go_at_call 12; refine (d12 _).mono ?_; rintro r w4 ⟨rfl, hb4⟩; have hn4 := hn2.next hb4; have hq4 := hq2.next hb4; have ho4 := ho2.next hb4; obtain ⟨hc4, hf4⟩ := bcell hb4; have hz4_0 : w.heap.size < w4.heap.size := lt_below hb4 ltg; have hl4_0 := Nat.le_of_lt hz4_0; have hz4_1 : w.heap.size + 1 < w4.heap.size := lt_below hb4 ltg; have hl4_1 := Nat.le_of_lt hz4_1; have hA4 := bnext (w0 := w) bgo hb4; have hs4 := hA4.size; clear hb4)
        | (go_at_call 39; refine (d29 _ _ _ (hn4.next (below1 _ _)) (nt_thou rfl)).mono ?_; rintro r w5 ⟨v5, rfl, hr5, hb5⟩; have hq5 := (hq4.next (below1 _ _)).next hb5; have ho5 := (ho4.next (below1 _ _)).next hb5; obtain ⟨hc5, hf5⟩ := bcell hb5; have hz5_0 : w.heap.size < w5.heap.size := lt_below hb5 ltg; have hl5_0 := Nat.le_of_lt hz5_0; have hz5_1 : w.heap.size + 1 < w5.heap.size := lt_below hb5 ltg; have hl5_1 := Nat.le_of_lt hz5_1; have hA5 := bnext (w0 := w) bgo hb5; have hs5 := hA5.size; clear hb5)
        | (go_at_call 38; refine (d28 _ _ _ (hr5.next (below1 _ _)) (nv_dec rfl rfl (by omega))).mono ?_; rintro r w6 ⟨v6, rfl, hr6, hb6⟩; have hq6 := (hq5.next (below1 _ _)).next hb6; have ho6 := (ho5.next (below1 _ _)).next hb6; obtain ⟨hc6, hf6⟩ := bcell hb6; have hz6_0 : w.heap.size < w6.heap.size := lt_below hb6 ltg; have hl6_0 := Nat.le_of_lt hz6_0; have hz6_1 : w.heap.size + 1 < w6.heap.size := lt_below hb6 ltg; have hl6_1 := Nat.le_of_lt hz6_1; have hA6 := bnext (w0 := w) bgo hb6; have hs6 := hA6.size; clear hb6))
      go_roundw
      case rel => exact ⟨i + 1, by omega, by go_num, hr6, hq6, ho6, bgo⟩
      case measure => simp [intOf]; omega
    · have hl : ¬ (i : Int) < (c : Int) := by omega
      obtain rfl : i = c := by omega
      have d30 := c30.out
      go_wp2_with (go_at_call 40; refine (d30 _ _ hn).mono ?_; rintro r w2 ⟨rfl, hb2⟩; obtain ⟨hc2, hf2⟩ := bcell hb2; have hz2_0 : w.heap.size < w2.heap.size := lt_below hb2 ltg; have hl2_0 := Nat.le_of_lt hz2_0; have hz2_1 : w.heap.size + 1 < w2.heap.size := lt_below hb2 ltg; have hl2_1 := Nat.le_of_lt hz2_1; have hA2 := bnext (w0 := w) bgo hb2; have hs2 := hA2.size; clear hb2)
      exact bodyPost_ret (by simp only [results, Try.results18]; go_simp) rfl ⟨rfl, bgo⟩
end
theorem rupk_any (B : Nat) (n : Int) (w : World) (hB : B < 2 ^ 256) : Calls Try.prog 18 #[A4 B, .int .i64 n] w fun r w' => r = .returned (.tuple #[A4 (dUv B n), .int .i64 (dUe B n)]) ∧ Below w.heap.size w w' := by
  unfold dUv dUe
  by_cases h : 0 ≤ n ∧ n ≤ 11
  · obtain ⟨c, rfl⟩ := Int.eq_ofNat_of_zero_le h.1
    have hc : c ≤ 11 := by omega
    rw [if_pos h, if_pos h, Int.toNat_natCast]
    have c26 : ∀ W, NV 4 B (.slice (some ⟨w.heap.size, 0, none⟩) 4 4) W → Calls Try.prog 36 #[.slice (some ⟨w.heap.size, 0, none⟩) 4 4] W fun r w' => r = .returned (.int .i64 (bl B : Int)) ∧ W = w' := fun W hN => by
      unfold NV at hN
      obtain ⟨g, k, cap, z, e, hk, hN, hv⟩ := hN
      cases e
      have := rlen_num _ 4 4 z W (by decide) hN
      rw [len_bl hN.2.2.1 hv] at this
      exact this
    have hp : (1024 : Nat) ^ c = 2 ^ (10 * c) := by rw [Nat.pow_mul]
    have hbl := bl_le (V := B) (k := 10 * c)
    rw [← hp] at hbl
    by_cases hq : B < 1024 ^ c
    · rw [if_pos hq, if_pos hq]
      have := rupk_w B c w (bl B : Int) hc c26 hB (fun i => dlU i (B / 1024 ^ (c - i))) (fun i => B / 2 ^ (10 * (c - 1 - i)) % 1024) (fun i => dlD (B / 2 ^ (10 * (c - 1 - i)) % 1024))
        (fun i hi W => ?_) (fun i W v hv => ?_) (fun i W => ?_) (fun i => ?_) (fun i hi W v g h1 h2 => ?_) (fun i hi W v v' h1 h2 => ?_) (fun W v hv => ?_) ?_ (by have := hbl.2 hq; omega)
      · simp only [Nat.sub_self, Nat.pow_zero, Nat.div_one] at this
        exact this
      · have := field_any B (10 * (c - 1 - i)) 10 W hB (by omega) (by decide)
        rw [show ((10 * (c - 1 - i) : Nat) : Int) = 10 * ((c : Int) - 1 - (i : Int)) by omega] at this
        exact this
      · refine (number_nv hv.nv (by decide) (by have := Nat.mod_lt (B / 2 ^ (10 * (c - 1 - i))) (show 0 < 1024 by decide); omega)).mono ?_
        rintro r w' ⟨rfl, rfl⟩
        exact ⟨rfl, rfl⟩
      · exact dcd_v _ (Nat.mod_lt _ (by decide)) W
      · exact (dl_means _ (Nat.mod_lt _ (by decide))).1
      · exact times13 (by omega) h1 h2
      · refine (add13 (by omega) (by decide) h1 h2).mono ?_
        rintro r w' ⟨v, rfl, hv, hb⟩
        refine ⟨v, rfl, ?_, hb⟩
        have e : dlU i (B / 1024 ^ (c - i)) * 1000 + dlD (B / 2 ^ (10 * (c - 1 - i)) % 1024) = dlU (i + 1) (B / 1024 ^ (c - (i + 1))) := by
          have e2 : (2 : Nat) ^ (10 * (c - 1 - i)) = 1024 ^ (c - (i + 1)) := by
            rw [Nat.pow_mul, show c - 1 - i = c - (i + 1) by omega]
          have e1 : B / 1024 ^ (c - i) = B / 1024 ^ (c - (i + 1)) / 1024 := by
            rw [Nat.div_div_eq_div_mul, ← Nat.pow_succ, show (c - (i + 1)).succ = c - i by omega]
          rw [dlU_step, e1, e2]
        rw [e, show 4 * i + 2 + 1 + 1 = 4 * (i + 1) by omega] at hv
        unfold NN
        exact Or.inr hv
      · exact bits13 hv
      · unfold NN
        exact Or.inl ⟨rfl, rfl⟩
    · rw [if_neg hq, if_neg hq]
      exact rupk_l B c w (bl B : Int) hc c26 hB (by
        have : ¬ bl B ≤ 10 * c := fun q => hq (hbl.1 q)
        omega)
  · rw [if_neg h, if_neg h]
    exact rupk_bad B n (by omega) w
end Go.Proofs.Ytpgihikbdmmdpaa

namespace Go.Proofs.Ytpgihikbdmmdpaa
open Go.RowKit

theorem renc_any (n : Int) (w : World) : Calls Try.prog 10 #[.int .i64 n] w fun r w' => r = .returned (.tuple #[.int .i64 (dEv n), .int .i64 (dEe n)]) ∧ Below w.heap.size w w' := by
  unfold dEv dEe
  by_cases h : 0 ≤ n ∧ n ≤ 999
  · obtain ⟨c, rfl⟩ := Int.eq_ofNat_of_zero_le h.1
    rw [if_pos h, if_pos h, Int.toNat_natCast]
    exact enc_v c (by omega) w
  · rw [if_neg h, if_neg h]
    exact enc_bad n (by omega) w
theorem rdcd_any (n : Int) (w : World) : Calls Try.prog 12 #[.int .i64 n] w fun r w' => r = .returned (.tuple #[.int .i64 (dDv n), .int .i64 (dDe n)]) ∧ Below w.heap.size w w' := by
  unfold dDv dDe
  by_cases h : 0 ≤ n ∧ n ≤ 1023
  · obtain ⟨c, rfl⟩ := Int.eq_ofNat_of_zero_le h.1
    rw [if_pos h, if_pos h, Int.toNat_natCast]
    exact dcd_v c (by omega) w
  · rw [if_neg h, if_neg h]
    exact dcd_bad n (by omega) w
section
variable (d : Int) (w : World)
set_option maxHeartbeats 400000 in
theorem rcan_e (c12 : ∀ W, Calls Try.prog 12 #[.int .i64 d] W fun r w' => r = .returned (.tuple #[.int .i64 0, .int .i64 3]) ∧ Below W.heap.size W w') :
    Calls Try.prog 14 #[.int .i64 d] w fun r w' => r = .returned (.bool false) ∧ Below w.heap.size w w' := by
  go_enter Try.func14, Try.ntmps14
  go_wp2_with (go_at_call 12; refine (c12 _).mono ?_; rintro r w1 ⟨rfl, hb1⟩; obtain ⟨hc1, hf1⟩ := bcell hb1; have hA1 := bnext (w0 := w) bgo hb1; have hs1 := hA1.size; clear hb1)
  go_ret
  exact ⟨rfl, bgo⟩
set_option maxHeartbeats 400000 in
theorem rcan_w (n e : Int) (c12 : ∀ W, Calls Try.prog 12 #[.int .i64 d] W fun r w' => r = .returned (.tuple #[.int .i64 n, .int .i64 0]) ∧ Below W.heap.size W w')
    (c10 : ∀ W, Calls Try.prog 10 #[.int .i64 n] W fun r w' => r = .returned (.tuple #[.int .i64 e, .int .i64 0]) ∧ Below W.heap.size W w') :
    Calls Try.prog 14 #[.int .i64 d] w fun r w' => r = .returned (.bool (e == d)) ∧ Below w.heap.size w w' := by
  go_enter Try.func14, Try.ntmps14
  go_wp2_with (first
    | (go_at_call 12; refine (c12 _).mono ?_; rintro r w1 ⟨rfl, hb1⟩; obtain ⟨hc1, hf1⟩ := bcell hb1; have hA1 := bnext (w0 := w) bgo hb1; have hs1 := hA1.size; clear hb1)
    | (go_at_call 10; refine (c10 _).mono ?_; rintro r w2 ⟨rfl, hb2⟩; obtain ⟨hc2, hf2⟩ := bcell hb2; have hA2 := bnext (w0 := w) bgo hb2; have hs2 := hA2.size; clear hb2))
  go_ret
  exact ⟨rfl, bgo⟩
end
theorem rcan_any (d : Int) (w : World) : Calls Try.prog 14 #[.int .i64 d] w fun r w' => r = .returned (.bool (dCb d)) ∧ Below w.heap.size w w' := by
  unfold dCb
  by_cases h : 0 ≤ d ∧ d ≤ 1023
  · obtain ⟨c, rfl⟩ := Int.eq_ofNat_of_zero_le h.1
    have hc : c < 1024 := by omega
    have := rcan_w (c : Int) w _ _ (fun W => dcd_v c hc W) (fun W => enc_v _ (dl_means c hc).1 W)
    rw [show (((dlE (dlD c) : Nat) : Int) == (c : Int)) = decide ((0 ≤ (c : Int) ∧ (c : Int) ≤ 1023) ∧ dlE (dlD (c : Int).toNat) = (c : Int).toNat) by
      rw [Int.toNat_natCast]
      rw [Bool.eq_iff_iff]
      simp only [beq_iff_eq, decide_eq_true_eq]
      omega] at this
    exact this
  · rw [decide_eq_false (fun q => h q.1)]
    exact rcan_e d w (fun W => dcd_bad d (by omega) W)
end Go.Proofs.Ytpgihikbdmmdpaa

namespace Go.Proofs.Ytpgihikbdmmdpaa
open Go.RowKit
theorem A4_same13 (B : Nat) (w : World) : Sem.run Try.prog (Op.equalIn 10000 32 (A4 B) (A4 B)) w = .ok true w := by
  have := eq24 (W4 B 0) (W4 B 1) (W4 B 2) (W4 B 3) (W4 B 0) (W4 B 1) (W4 B 2) (W4 B 3) w
  rw [decide_eq_true ⟨rfl, rfl, rfl, rfl⟩] at this
  exact this
attribute [local irreducible] W4
set_option maxHeartbeats 400000 in
theorem awake13 (w : World) : Calls Try.prog 8 #[] w fun r w' => r = .returned (.bool true) ∧ Below w.heap.size w w' := by
  have c := fun W => denc_any 80 W
  rw [show dEv 80 = 10 by decide +kernel, show dEe 80 = 0 from rfl] at c
  go_enter Try.func8, Try.ntmps8
  go_wp2_with (go_at_call 9; refine (c _).mono ?_; rintro r w1 ⟨rfl, hb1⟩; obtain ⟨hc1, hf1⟩ := bcell hb1; have hA1 := bnext (w0 := w) bgo hb1; have hs1 := hA1.size; clear hb1)
  go_ret
  exact ⟨rfl, bgo⟩
set_option maxHeartbeats 1000000 in
theorem decletCodes_any (n d : Int) (w : World) : Calls Try.prog 3 #[.int .i64 n, .int .i64 d] w fun r w' => r = .returned (.bool true) ∧ Below w.heap.size w w' := by
  have c8 := fun W => awake13 W
  have c1 := fun W => denc_any n W
  have c2 := fun W => renc_any n W
  have c3 := fun W => ddcd_any d W
  have c4 := fun W => rdcd_any d W
  have c5 := fun W => dcan_any d W
  have c6 := fun W => rcan_any d W
  generalize dEv n = a1 at *
  generalize dEe n = a2 at *
  generalize dDv d = a3 at *
  generalize dDe d = a4 at *
  generalize dCb d = a5 at *
  go_enter Try.func3, Try.ntmps3
  go_wp2_with (first
    | (go_at_call 8; refine (c8 _).mono ?_; rintro r w1 ⟨rfl, hb1⟩; obtain ⟨hc1, hf1⟩ := bcell hb1; have hA1 := bnext (w0 := w) bgo hb1; have hs1 := hA1.size; clear hb1)
    | (go_at_call 9; refine (c1 _).mono ?_; rintro r w2 ⟨rfl, hb2⟩; obtain ⟨hc2, hf2⟩ := bcell hb2; have hA2 := bnext (w0 := w) bgo hb2; have hs2 := hA2.size; clear hb2)
    | (go_at_call 10; refine (c2 _).mono ?_; rintro r w3 ⟨rfl, hb3⟩; obtain ⟨hc3, hf3⟩ := bcell hb3; have hA3 := bnext (w0 := w) bgo hb3; have hs3 := hA3.size; clear hb3)
    | (go_at_call 11; refine (c3 _).mono ?_; rintro r w4 ⟨rfl, hb4⟩; obtain ⟨hc4, hf4⟩ := bcell hb4; have hA4 := bnext (w0 := w) bgo hb4; have hs4 := hA4.size; clear hb4)
    | (go_at_call 12; refine (c4 _).mono ?_; rintro r w5 ⟨rfl, hb5⟩; obtain ⟨hc5, hf5⟩ := bcell hb5; have hA5 := bnext (w0 := w) bgo hb5; have hs5 := hA5.size; clear hb5)
    | (go_at_call 13; refine (c5 _).mono ?_; rintro r w6 ⟨rfl, hb6⟩; obtain ⟨hc6, hf6⟩ := bcell hb6; have hA6 := bnext (w0 := w) bgo hb6; have hs6 := hA6.size; clear hb6)
    | (go_at_call 14; refine (c6 _).mono ?_; rintro r w7 ⟨rfl, hb7⟩; obtain ⟨hc7, hf7⟩ := bcell hb7; have hA7 := bnext (w0 := w) bgo hb7; have hs7 := hA7.size; clear hb7))
  go_ret
  exact ⟨by simp, bgo⟩
set_option maxHeartbeats 1000000 in
theorem decletPacks_any (C B : Nat) (n : Int) (w : World) (hC : C < 2 ^ 256) (hB : B < 2 ^ 256) : Calls Try.prog 6 #[A4 C, A4 B, .int .i64 n] w fun r w' => r = .returned (.bool true) ∧ Below w.heap.size w w' := by
  have c8 := fun W => awake13 W
  have c1 := fun W => dpck_any C n W hC
  have c2 := fun W => rpck_any C n W hC
  have c3 := fun W => dupk_any B n W hB
  have c4 := fun W => rupk_any B n W hB
  generalize dPv C n = a1 at *
  generalize dPe C n = a2 at *
  generalize dUv B n = a3 at *
  generalize dUe B n = a4 at *
  have hQ1 := A4_same13 a1
  have hQ3 := A4_same13 a3
  go_enter Try.func6, Try.ntmps6
  go_wp2_with (first
    | (go_at_call 8; refine (c8 _).mono ?_; rintro r w1 ⟨rfl, hb1⟩; obtain ⟨hc1, hf1⟩ := bcell hb1; have hz1_0 : w.heap.size < w1.heap.size := lt_below hb1 ltg; have hl1_0 := Nat.le_of_lt hz1_0; have hz1_1 : w.heap.size + 1 < w1.heap.size := lt_below hb1 ltg; have hl1_1 := Nat.le_of_lt hz1_1; have hA1 := bnext (w0 := w) bgo hb1; have hs1 := hA1.size; clear hb1)
    | (go_at_call 15; refine (c1 _).mono ?_; rintro r w2 ⟨rfl, hb2⟩; obtain ⟨hc2, hf2⟩ := bcell hb2; have hz2_0 : w.heap.size < w2.heap.size := lt_below hb2 ltg; have hl2_0 := Nat.le_of_lt hz2_0; have hz2_1 : w.heap.size + 1 < w2.heap.size := lt_below hb2 ltg; have hl2_1 := Nat.le_of_lt hz2_1; have hA2 := bnext (w0 := w) bgo hb2; have hs2 := hA2.size; clear hb2)
    | (go_at_call 16; refine (c2 _).mono ?_; rintro r w3 ⟨rfl, hb3⟩; obtain ⟨hc3, hf3⟩ := bcell hb3; have hz3_0 : w.heap.size < w3.heap.size := lt_below hb3 ltg; have hl3_0 := Nat.le_of_lt hz3_0; have hz3_1 : w.heap.size + 1 < w3.heap.size := lt_below hb3 ltg; have hl3_1 := Nat.le_of_lt hz3_1; have hz3_2 : w2.heap.size < w3.heap.size := lt_below hb3 ltg; have hl3_2 := Nat.le_of_lt hz3_2; have hA3 := bnext (w0 := w) bgo hb3; have hs3 := hA3.size; clear hb3)
    | (go_at_call 17; refine (c3 _).mono ?_; rintro r w4 ⟨rfl, hb4⟩; obtain ⟨hc4, hf4⟩ := bcell hb4; have hz4_0 : w.heap.size < w4.heap.size := lt_below hb4 ltg; have hl4_0 := Nat.le_of_lt hz4_0; have hz4_1 : w.heap.size + 1 < w4.heap.size := lt_below hb4 ltg; have hl4_1 := Nat.le_of_lt hz4_1; have hz4_2 : w2.heap.size < w4.heap.size := lt_below hb4 ltg; have hl4_2 := Nat.le_of_lt hz4_2; have hz4_3 : w3.heap.size < w4.heap.size := lt_below hb4 ltg; have hl4_3 := Nat.le_of_lt hz4_3; have hA4 := bnext (w0 := w) bgo hb4; have hs4 := hA4.size; clear hb4)
    | (go_at_call 18; refine (c4 _).mono ?_; rintro r w5 ⟨rfl, hb5⟩; obtain ⟨hc5, hf5⟩ := bcell hb5; have hz5_0 : w.heap.size < w5.heap.size := lt_below hb5 ltg; have hl5_0 := Nat.le_of_lt hz5_0; have hz5_1 : w.heap.size + 1 < w5.heap.size := lt_below hb5 ltg; have hl5_1 := Nat.le_of_lt hz5_1; have hz5_2 : w2.heap.size < w5.heap.size := lt_below hb5 ltg; have hl5_2 := Nat.le_of_lt hz5_2; have hz5_3 : w3.heap.size < w5.heap.size := lt_below hb5 ltg; have hl5_3 := Nat.le_of_lt hz5_3; have hz5_4 : w4.heap.size < w5.heap.size := lt_below hb5 ltg; have hl5_4 := Nat.le_of_lt hz5_4; have hA5 := bnext (w0 := w) bgo hb5; have hs5 := hA5.size; clear hb5))
  go_ret
  exact ⟨by first | rfl | simp, bgo⟩
/-- three octal digits side by side -/
theorem oct_or : ∀ x y z : Nat, x < 8 → y < 8 → z < 8 → bits .or .i64 (bits .or .i64 ((x : Int) * 128) ((y : Int) * 16)) (z : Int) = (x : Int) * 128 + (y : Int) * 16 + (z : Int) := fun x y z hx hy hz => by
  have h := upTo_all (f := fun i => decide (bits .or .i64 (bits .or .i64 (((i / 64 : Nat) : Int) * 128) (((i / 8 % 8 : Nat) : Int) * 16)) ((i % 8 : Nat) : Int) = ((i / 64 : Nat) : Int) * 128 + ((i / 8 % 8 : Nat) : Int) * 16 + ((i % 8 : Nat) : Int))) (m := 512) (by decide +kernel) (x * 64 + y * 8 + z) (by omega)
  have h' := of_decide_eq_true h
  rw [show (x * 64 + y * 8 + z) / 64 = x by omega, show (x * 64 + y * 8 + z) / 8 % 8 = y by omega, show (x * 64 + y * 8 + z) % 8 = z by omega] at h'
  exact h'
section
variable (a b : Int) (x y z : Int) (c : Int) (w : World) (ha : 0 ≤ a ∧ a ≤ 255) (hb : 0 ≤ b ∧ b ≤ 255) (hc : 0 ≤ c ∧ c ≤ 255) (hx : a % 8 = x) (hy : b % 8 = y) (hz : c % 8 = z) (V : Int)
  (hO : bits .or .i64 (bits .or .i64 (x * 128) (y * 16)) z = V)
  (c8 : ∀ W, Calls Try.prog 8 #[] W fun r w' => r = .returned (.bool true) ∧ Below W.heap.size W w')
  (c1 : ∀ W, Calls Try.prog 9 #[.int .i64 (100 * x + 10 * y + z)] W fun r w' => r = .returned (.tuple #[.int .i64 V, .int .i64 0]) ∧ Below W.heap.size W w')
  (M : Int) (hM : M.tmod 2 = (a * 3 + b % 200) % 2)
  (c2 : ∀ W, Calls Try.prog 9 #[.int .i64 (a * 3 + b % 200)] W fun r w' => r = .returned (.tuple #[.int .i64 M, .int .i64 0]) ∧ Below W.heap.size W w')
include ha hb hc hx hy hz hO c8 c1 hM c2
set_option maxHeartbeats 2000000 in
theorem small13 : Calls Try.prog 5 #[.int .u8 a, .int .u8 b, .int .u8 c] w fun r w' => r = .returned (.bool true) ∧ Below w.heap.size w w' := by
  have b1 : 0 ≤ x ∧ x ≤ 7 := by omega
  have b2 : 0 ≤ y ∧ y ≤ 7 := by omega
  have b3 : 0 ≤ z ∧ z ≤ 7 := by omega
  obtain ⟨a0, a1⟩ := ha
  obtain ⟨b0, b9⟩ := hb
  obtain ⟨x0, x1⟩ := b1
  obtain ⟨y0, y1⟩ := b2
  obtain ⟨z0, z1⟩ := b3
  go_enter Try.func5, Try.ntmps5
  go_wp2_with (first
    | (go_at_call 8; refine (c8 _).mono ?_; rintro r w1 ⟨rfl, hb1⟩; obtain ⟨hc1, hf1⟩ := bcell hb1; have hA1 := bnext (w0 := w) bgo hb1; have hs1 := hA1.size; clear hb1)
    | (have := hA2; go_at_call 9; refine (c2 _).mono ?_; rintro r w3 ⟨rfl, hb3⟩; obtain ⟨hc3, hf3⟩ := bcell hb3; have hA3 := bnext (w0 := w) bgo hb3; have hs3 := hA3.size; clear hb3)
    | (go_at_call 9; refine (c1 _).mono ?_; rintro r w2 ⟨rfl, hb2⟩; obtain ⟨hc2, hf2⟩ := bcell hb2; have hA2 := bnext (w0 := w) bgo hb2; have hs2 := hA2.size; clear hb2))
  go_ret
  exact ⟨by simp [hM], bgo⟩
end
theorem dEv_of {n : Nat} (h : n < 1000) : dEv (n : Int) = (dlE n : Int) ∧ dEe (n : Int) = 0 := by
  unfold dEv dEe
  rw [if_pos (by omega), if_pos (by omega), Int.toNat_natCast]
  exact ⟨rfl, rfl⟩
theorem decletSmall_any (a b c : Int) (w : World) (ha : 0 ≤ a ∧ a ≤ 255) (hb : 0 ≤ b ∧ b ≤ 255) (hc : 0 ≤ c ∧ c ≤ 255) : Calls Try.prog 5 #[.int .u8 a, .int .u8 b, .int .u8 c] w fun r w' => r = .returned (.bool true) ∧ Below w.heap.size w w' := by
  obtain ⟨x, hx⟩ := Int.eq_ofNat_of_zero_le (show 0 ≤ a % 8 by omega)
  obtain ⟨y, hy⟩ := Int.eq_ofNat_of_zero_le (show 0 ≤ b % 8 by omega)
  obtain ⟨z, hz⟩ := Int.eq_ofNat_of_zero_le (show 0 ≤ c % 8 by omega)
  obtain ⟨m, hm⟩ := Int.eq_ofNat_of_zero_le (show 0 ≤ a * 3 + b % 200 by omega)
  have hx8 : x < 8 := by omega
  have hy8 : y < 8 := by omega
  have hz8 : z < 8 := by omega
  have hm9 : m < 1000 := by omega
  have c1 := fun W => denc_any ((100 * x + 10 * y + z : Nat) : Int) W
  have c2 := fun W => denc_any (m : Int) W
  obtain ⟨e1, e2⟩ := dEv_of (n := 100 * x + 10 * y + z) (by omega)
  obtain ⟨e3, e4⟩ := dEv_of hm9
  rw [e1, e2, dl_small hx8 hy8 hz8, show ((100 * x + 10 * y + z : Nat) : Int) = 100 * (x : Int) + 10 * (y : Int) + (z : Int) by omega, show ((x * 128 + y * 16 + z : Nat) : Int) = (x : Int) * 128 + (y : Int) * 16 + (z : Int) by omega] at c1
  rw [e3, e4, ← hm] at c2
  refine small13 a b x y z c w ha hb hc hx hy hz _ (oct_or x y z hx8 hy8 hz8) (fun W => awake13 W) c1 (dlE m : Int) ?_ c2
  have h1 := dl_low hm9
  rw [Int.tmod_eq_emod_of_nonneg (by omega), hm]
  omega
end Go.Proofs.Ytpgihikbdmmdpaa

namespace Go.Proofs.Ytpgihikbdmmdpaa
open Go.RowKit

section
variable (n : Int) (w : World) (C : Nat → Nat) (X : Nat → Int) (K : Nat → Bool)
  (hX : Hid (∀ i, i < 1024 → 0 ≤ X i ∧ X i ≤ 999)) (hC0 : C 0 = 0) (hC : Hid (∀ i, C (i + 1) = C i + (if K i then 1 else 0))) (hC1 : C 1024 = 1000) (hCb : Hid (∀ i, C i ≤ i))
  (c8 : ∀ W, Calls Try.prog 8 #[] W fun r w' => r = .returned (.bool true) ∧ Below W.heap.size W w')
  (c11 : Hid (∀ i : Nat, i < 1024 → ∀ W, Calls Try.prog 11 #[.int .i64 (i : Int)] W fun r w' => r = .returned (.tuple #[.int .i64 (X i), .int .i64 0]) ∧ Below W.heap.size W w'))
  (c13 : Hid (∀ i : Nat, i < 1024 → ∀ W, Calls Try.prog 13 #[.int .i64 (i : Int)] W fun r w' => r = .returned (.bool (K i)) ∧ Below W.heap.size W w'))
  (c9 : Hid (∀ i : Nat, i < 1024 → K i = true → ∀ W, Calls Try.prog 9 #[.int .i64 (X i)] W fun r w' => r = .returned (.tuple #[.int .i64 (i : Int), .int .i64 0]) ∧ Below W.heap.size W w'))
include hX hC0 hC hC1 hCb c8 c11 c13 c9
set_option maxHeartbeats 4000000 in
theorem back13 (d e x f : Int) (k : Bool) (he : (e = 3 ∧ d = 0) ∨ (e = 0 ∧ f = 0 ∧ x = n ∧ k = true))
    (c1 : ∀ W, Calls Try.prog 9 #[.int .i64 n] W fun r w' => r = .returned (.tuple #[.int .i64 d, .int .i64 e]) ∧ Below W.heap.size W w')
    (c2 : ∀ W, Calls Try.prog 11 #[.int .i64 d] W fun r w' => r = .returned (.tuple #[.int .i64 x, .int .i64 f]) ∧ Below W.heap.size W w')
    (c3 : ∀ W, Calls Try.prog 13 #[.int .i64 d] W fun r w' => r = .returned (.bool k) ∧ Below W.heap.size W w') :
    Calls Try.prog 4 #[.int .i64 n] w fun r w' => r = .returned (.bool true) ∧ Below w.heap.size w w' := by
  replace he : Hid ((e = 3 ∧ d = 0) ∨ (e = 0 ∧ f = 0 ∧ x = n ∧ k = true)) := he
  go_enter Try.func4, Try.ntmps4
  go_wp2_with (go_at_call 8; refine (c8 _).mono ?_; rintro r w1 ⟨rfl, hb1⟩; obtain ⟨hc1, hf1⟩ := bcell hb1; have hA1 := bnext (w0 := w) bgo hb1; have hs1 := hA1.size; clear hb1)
  go_loopw [2, 3, 15] (fun _ t3 t wr => ∃ i : Nat, i ≤ 1024 ∧ t = .int .i64 (i : Int) ∧ t3 = .int .i64 (C i : Int) ∧ Below w.heap.size w wr) (fun _ _ t _ => 1024 - (intOf t).toNat)
  case atStart => exact ⟨0, Nat.zero_le _, rfl, by rw [hC0]; rfl, bgo⟩
  case round =>
    obtain ⟨i, hi, rfl, rfl, hbw⟩ := hrel
    by_cases hl : i < 1024
    · have hli : (i : Int) < 1024 := by omega
      have d11 := c11.out i hl
      have d13 := c13.out i hl
      have d9 := c9.out i hl
      obtain ⟨x0, x1⟩ := hX.out i hl
      have x2 : ¬ X i < 0 := by omega
      have x3 : ¬ 999 < X i := by omega
      have hn := hC.out i
      have hb0 := hCb.out i
      clear x0 x1
      generalize X i = Xi at *
      generalize K i = Ki at *
      cases Ki
      · have HN : Hid (C (i + 1) = C i) := (by simpa using hn : C (i + 1) = C i)
        clear hn d9 c1 c2 c3
        generalize C i = Ci at *
        go_wp2_with (first
          | (go_at_call 11; refine (d11 _).mono ?_; rintro r w2 ⟨rfl, hb2⟩; obtain ⟨hc2, hf2⟩ := bcell hb2; have hA2 := bnext (w0 := w) bgo hb2; have hs2 := hA2.size; clear hb2)
          | (go_at_call 13; refine (d13 _).mono ?_; rintro r w3 ⟨rfl, hb3⟩; obtain ⟨hc3, hf3⟩ := bcell hb3; have hA3 := bnext (w0 := w) bgo hb3; have hs3 := hA3.size; clear hb3))
        go_roundw
        case rel => exact ⟨i + 1, by omega, by go_num, by rw [HN.out], bgo⟩
        case measure => simp [intOf]; omega
      · have HN : Hid (C (i + 1) = C i + 1) := (by simpa using hn : C (i + 1) = C i + 1)
        have d9' := d9 rfl
        have HB : Hid (C i ≤ i) := hb0
        have hb1 : (C i : Int) ≤ 1024 := by omega
        clear hn d9 c1 c2 c3 hb0
        generalize C i = Ci at *
        go_wp2_with (first
          | (go_at_call 11; refine (d11 _).mono ?_; rintro r w2 ⟨rfl, hb2⟩; obtain ⟨hc2, hf2⟩ := bcell hb2; have hA2 := bnext (w0 := w) bgo hb2; have hs2 := hA2.size; clear hb2)
          | (go_at_call 13; refine (d13 _).mono ?_; rintro r w3 ⟨rfl, hb3⟩; obtain ⟨hc3, hf3⟩ := bcell hb3; have hA3 := bnext (w0 := w) bgo hb3; have hs3 := hA3.size; clear hb3)
          | (go_at_call 9; refine (d9' _).mono ?_; rintro r w4 ⟨rfl, hb4⟩; obtain ⟨hc4, hf4⟩ := bcell hb4; have hA4 := bnext (w0 := w) bgo hb4; have hs4 := hA4.size; clear hb4))
        go_roundw
        case rel => exact ⟨i + 1, by omega, by go_num, by rw [HN.out]; go_num, bgo⟩
        case measure => simp [intOf]; omega
    · have hli : ¬ (i : Int) < 1024 := by omega
      obtain rfl : i = 1024 := by omega
      have hq := he.out
      clear he
      rw [hC1]
      rcases hq with ⟨rfl, rfl⟩ | ⟨rfl, rfl, rfl, rfl⟩
      · go_wp2_with (first
          | (have := hA2; go_at_call 11; refine (c2 _).mono ?_; rintro r w3 ⟨rfl, hb3⟩; obtain ⟨hc3, hf3⟩ := bcell hb3; have hA3 := bnext (w0 := w) bgo hb3; have hs3 := hA3.size; clear hb3)
          | (go_at_call 9; refine (c1 _).mono ?_; rintro r w2 ⟨rfl, hb2⟩; obtain ⟨hc2, hf2⟩ := bcell hb2; have hA2 := bnext (w0 := w) bgo hb2; have hs2 := hA2.size; clear hb2))
        go_ret
        exact ⟨by first | rfl | simp, bgo⟩
      · go_wp2_with (first
          | (go_at_call 13; refine (c3 _).mono ?_; rintro r w4 ⟨rfl, hb4⟩; obtain ⟨hc4, hf4⟩ := bcell hb4; have hA4 := bnext (w0 := w) bgo hb4; have hs4 := hA4.size; clear hb4)
          | (go_at_call 11; refine (c2 _).mono ?_; rintro r w3 ⟨rfl, hb3⟩; obtain ⟨hc3, hf3⟩ := bcell hb3; have hA3 := bnext (w0 := w) bgo hb3; have hs3 := hA3.size; clear hb3)
          | (go_at_call 9; refine (c1 _).mono ?_; rintro r w2 ⟨rfl, hb2⟩; obtain ⟨hc2, hf2⟩ := bcell hb2; have hA2 := bnext (w0 := w) bgo hb2; have hs2 := hA2.size; clear hb2))
        go_ret
        exact ⟨by first | rfl | simp, bgo⟩
end
theorem dCb_of {i : Nat} (h : i < 1024) : dCb (i : Int) = decide (dlE (dlD i) = i) := by
  unfold dCb
  rw [Bool.eq_iff_iff, decide_eq_true_eq, decide_eq_true_eq, Int.toNat_natCast]
  exact ⟨fun q => q.2, fun q => ⟨by omega, q⟩⟩
theorem dDv_of {n : Nat} (h : n < 1024) : dDv (n : Int) = (dlD n : Int) ∧ dDe (n : Int) = 0 := by
  unfold dDv dDe
  rw [if_pos (by omega), if_pos (by omega), Int.toNat_natCast]
  exact ⟨rfl, rfl⟩
theorem dlC_le : ∀ i, dlC i ≤ i
  | 0 => Nat.le_refl _
  | i + 1 => by
    have := dlC_le i
    unfold dlC
    split <;> omega
theorem decletBack_any (n : Int) (w : World) : Calls Try.prog 4 #[.int .i64 n] w fun r w' => r = .returned (.bool true) ∧ Below w.heap.size w w' := by
  refine back13 n w dlC (fun i => (dlD i : Int)) (fun i => decide (dlE (dlD i) = i)) (fun i hi => ?_) rfl (fun i => ?_) dl_thousand dlC_le (fun W => awake13 W) (fun i hi W => ?_) (fun i hi W => ?_) (fun i hi hk W => ?_) (dEv n) (dEe n) (dDv (dEv n)) (dDe (dEv n)) (dCb (dEv n)) ?_ (fun W => denc_any n W) (fun W => ddcd_any _ W) (fun W => dcan_any _ W)
  · have := (dl_means i hi).1
    omega
  · show dlC i + (if dlE (dlD i) = i then 1 else 0) = _
    simp only [decide_eq_true_eq]
  · have := ddcd_any (i : Int) W
    rw [(dDv_of hi).1, (dDv_of hi).2] at this
    exact this
  · have := dcan_any (i : Int) W
    rw [dCb_of hi] at this
    exact this
  · have h1 := (dl_means i hi).1
    have := denc_any ((dlD i : Nat) : Int) W
    rw [(dEv_of h1).1, (dEv_of h1).2, of_decide_eq_true hk] at this
    exact this
  · by_cases h : 0 ≤ n ∧ n ≤ 999
    · obtain ⟨c, rfl⟩ := Int.eq_ofNat_of_zero_le h.1
      have hc : c < 1000 := by omega
      obtain ⟨h1, h2⟩ := dl_back c hc
      refine Or.inr ?_
      rw [(dEv_of hc).1, (dEv_of hc).2, (dDv_of h2).1, (dDv_of h2).2, dCb_of h2, h1]
      exact ⟨rfl, rfl, rfl, decide_eq_true rfl⟩
    · refine Or.inl ?_
      unfold dEe dEv
      rw [if_neg h, if_neg h]
      exact ⟨rfl, rfl⟩
end Go.Proofs.Ytpgihikbdmmdpaa

namespace Go.Proofs.Ytpgihikbdmmdpaa
open Go.RowKit

section
variable {P : Program} {ops : Array Oper} {Q : Exit → Act → World → Prop} {md : Region.Mode}

/-- how many of the first n are still to come -/
def toCome (listed : Array Bool) : Nat → Nat
  | 0 => 0
  | n + 1 => toCome listed n + (if listed.getD n true then 0 else 1)
theorem toCome_out {listed : Array Bool} {i : Nat} : ∀ n, n ≤ i → toCome (listed.setIfInBounds i true) n = toCome listed n
  | 0, _ => rfl
  | n + 1, h => by unfold toCome; rw [toCome_out n (by omega), getD_set_ne true (by omega)]
theorem toCome_set {listed : Array Bool} {i : Nat} (hu : listed.getD i true = false) : ∀ n, i < n → toCome (listed.setIfInBounds i true) n + 1 = toCome listed n
  | 0, h => by omega
  | n + 1, h => by
    unfold toCome
    by_cases e : i = n
    · subst e
      have hlt : i < listed.size := by
        rcases Nat.lt_or_ge i listed.size with h' | h'
        · exact h'
        · simp [Array.getElem?_eq_none h'] at hu
      rw [toCome_out i (Nat.le_refl _), hu]
      simp [hlt]
    · rw [getD_set_ne true e]
      have := toCome_set hu n (by omega)
      omega
theorem toCome_zero {listed : Array Bool} : ∀ n, toCome listed n = 0 → ∀ i, i < n → listed.getD i true = true
  | 0, _, i, h => by omega
  | n + 1, h, i, hi => by
    unfold toCome at h
    by_cases e : i = n
    · subst e
      by_cases hl : listed.getD i true = true
      · exact hl
      · rw [if_neg hl] at h; omega
    · exact toCome_zero n (by omega) i (by omega)
theorem toCome_least {listed : Array Bool} : ∀ n, 0 < toCome listed n → ∃ i, i < n ∧ listed.getD i true = false ∧ ∀ j, j < i → listed.getD j true = true
  | 0, h => by simp [toCome] at h
  | n + 1, h => by
    by_cases h0 : 0 < toCome listed n
    · obtain ⟨i, h1, h2, h3⟩ := toCome_least n h0
      exact ⟨i, by omega, h2, h3⟩
    · unfold toCome at h
      have hz := toCome_zero (listed := listed) n (by omega)
      refine ⟨n, by omega, ?_, fun j hj => hz j hj⟩
      cases hl : listed.getD n true with
      | false => rfl
      | true => rw [hl, if_pos rfl] at h; omega

/-- of the first n each waits for earlier ones alone -/
def backB (md : Region.Mode) (ops : Array Oper) (n : Nat) : Bool :=
  (List.range n).all fun i => match ops[i]? with
    | some o => o.after.all fun e => !Region.binds md e || decide (e.on < i)
    | none => false
theorem backB_spec {n : Nat} (h : backB md ops n = true) (i : Nat) (hi : i < n) : ∃ o, ops[i]? = some o ∧ ∀ e ∈ o.after, Region.binds md e = true → e.on < i := by
  have h1 := List.all_eq_true.1 h i (List.mem_range.2 hi)
  cases ho : ops[i]? with
  | none => simp only [ho] at h1; cases h1
  | some o =>
    simp only [ho] at h1
    refine ⟨o, rfl, fun e he hb => ?_⟩
    have h2 := Array.all_eq_true_iff_forall_mem.1 h1 e he
    simpa [hb] using h2

theorem getD_true_in {listed : Array Bool} {i : Nat} (hi : i < listed.size) (h : listed.getD i true = true) : listed.getD i false = true := by
  simp [hi] at h ⊢; exact h

theorem toCome_replicate (m : Nat) : ∀ n, n ≤ m → toCome (Array.replicate m false) n = n
  | 0, _ => rfl
  | n + 1, h => by unfold toCome; rw [toCome_replicate m n (by omega)]; simp [show n < m by omega]

/-- what slot t of a frame holds -/
abbrev slot (a : Act) (t : Nat) : Value := a.tmps[t]?.getD undef
theorem slot_put_ne {a : Act} {d t : Nat} {v : Value} (h : d ≠ t) : slot (a.put (some d) v) t = slot a t := by
  simp [slot, Act.put, Array.getElem?_setIfInBounds_ne h]
theorem slot_put {a : Act} {d : Nat} {v : Value} (h : d < a.tmps.size) : slot (a.put (some d) v) d = v := by
  simp [slot, Act.put, h]

/-- what is said of a value stays, whatever memory is made -/
def Stays (p : Value → World → Prop) : Prop := ∀ v w w', p v w → Below w.heap.size w w' → p v w'

/-- each of the first n writes a slot of its own -/
def dstG (l : List Oper) (D : List Nat) (n m : Nat) : Bool :=
  (List.range n).all fun i => (match l[i]? with
    | some o => o.dst == some (D.getD i 0)
    | none => false) && decide (D.getD i 0 < m) && (List.range n).all fun j => j == i || D.getD j 0 != D.getD i 0
theorem dstG_spec {l : List Oper} {D : List Nat} {n m : Nat} (h : dstG l D n m = true) (i : Nat) (hi : i < n) :
    ∃ o, l[i]? = some o ∧ o.dst = some (D.getD i 0) ∧ D.getD i 0 < m ∧ ∀ j, j < n → j ≠ i → D.getD j 0 ≠ D.getD i 0 := by
  have h1 := List.all_eq_true.1 h i (List.mem_range.2 hi)
  cases ho : l[i]? with
  | none => simp [ho] at h1
  | some o =>
    simp only [ho, Bool.and_eq_true, decide_eq_true_eq, beq_iff_eq, List.all_eq_true, Bool.or_eq_true, bne_iff_ne, List.mem_range] at h1
    exact ⟨o, rfl, h1.1.1, h1.1.2, fun j hj hne => (h1.2 j hj).resolve_left hne⟩
/-- what an operation's guard looks at is done ahead of it -/
def gdB (l : List Oper) (n : Nat) : Bool :=
  (List.range n).all fun i => match l[i]? with
    | some o => match o.guard with
      | none => true
      | some (j, _) => decide (j < n) && o.after.any fun e => Region.binds .any e && e.on == j
    | none => false
theorem gdB_spec {l : List Oper} {n : Nat} (h : gdB l n = true) (i : Nat) (hi : i < n) (o : Oper) (ho : l[i]? = some o) (j : Nat) (b : Bool) (hg : o.guard = some (j, b)) :
    j < n ∧ ∃ e ∈ o.after, Region.binds .any e = true ∧ e.on = j := by
  have h1 := List.all_eq_true.1 h i (List.mem_range.2 hi)
  simp only [ho, hg, Bool.and_eq_true, decide_eq_true_eq, Array.any_eq_true', beq_iff_eq] at h1
  obtain ⟨h1, e, he, h2, h3⟩ := h1
  exact ⟨h1, e, he, h2, h3⟩

end
end Go.Proofs.Ytpgihikbdmmdpaa
