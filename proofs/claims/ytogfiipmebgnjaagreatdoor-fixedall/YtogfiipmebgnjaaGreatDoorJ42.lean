/-
  Texts that the proof leans on, joined: Nc.
-/
import Derived.Test.YtogfiipmebgnjaaGreatDoorJ40
import Derived.Test.YtogfiipmebgnjaaGreatDoorJ36
import Derived.Test.YtogfiipmebgnjaaGreatDoorJ41
import Derived.Test.YtogfiipmebgnjaaGreatDoorJ1
set_option linter.unusedVariables false
set_option linter.unusedSectionVars false
set_option linter.unusedSimpArgs false
set_option maxRecDepth 20000
namespace Go.Proofs.YtogfiipmebgnjaaGreatDoor
open Go.RowKit

theorem rscale10z {K N D : Nat} {vn vd : Value} {w : World} (x : Int) (hK : K < 100000) (hx : -6100 ≤ x ∧ x ≤ 6100) (h : NT K N vn w) (h' : NT K D vd w) (hN : bl (N * 10 ^ x.toNat) ≤ 64 * K) (hD : bl (D * 10 ^ (-x).toNat) ≤ 64 * K) :
    Calls Tryz.prog 20 #[vn, vd, .int .u64 10, .int .i64 x] w fun e w' => ∃ a b, e = .returned (.tuple #[a, b]) ∧ NT K (N * 10 ^ x.toNat) a w' ∧ NT K (D * 10 ^ (-x).toNat) b w' ∧ Below w.heap.size w w' := by
  by_cases hp : 0 ≤ x
  · have c79 := rpower10 x.toNat w (by omega)
    rw [show ((x.toNat : Nat) : Int) = x by omega] at c79
    rw [show (-x).toNat = 0 by omega, Nat.pow_zero, Nat.mul_one]
    refine (rsc10_pos x vn vd (N * 10 ^ x.toNat) K w (by omega) hp (c79.mono fun e w' ⟨p, e1, e2, e3⟩ => ⟨p, e1, e3, (rtimes_nt (by omega) (by decide) (h.next e3).nv e2).mono fun e w'' ⟨r, f1, f2, f3⟩ => ⟨r, f1, f2.tight hN, f3⟩⟩)).mono fun e w' ⟨r, e1, e2, e3⟩ => ⟨_, _, e1, e2, h'.next e3, e3⟩
  · have c79 := rpower10 (-x).toNat w (by omega)
    rw [show (((-x).toNat : Nat) : Int) = -x by omega] at c79
    rw [show x.toNat = 0 by omega, Nat.pow_zero, Nat.mul_one]
    refine (rsc10_neg x vn vd (D * 10 ^ (-x).toNat) K w (by omega) (-x) rfl hp (c79.mono fun e w' ⟨p, e1, e2, e3⟩ => ⟨p, e1, e3, (rtimes_nt (by omega) (by decide) (h'.next e3).nv e2).mono fun e w'' ⟨r, f1, f2, f3⟩ => ⟨r, f1, f2.tight hD, f3⟩⟩)).mono fun e w' ⟨r, e1, e2, e3⟩ => ⟨_, _, e1, h.next e3, e2, e3⟩
/-- whatever the document's Less answers -/
theorem rless_some {K K' A B : Nat} {v v' : Value} {w : World} (hK : K < 1000000) (hK' : K' < 1000000) (h : NV K A v w) (h' : NV K' B v' w) :
    Calls Tryz.prog 19 #[v, v'] w fun e w' => ∃ r, e = .returned r ∧ Below w.heap.size w w' := by
  obtain ⟨g, k, c, z, rfl, hk, hN, hz⟩ := h
  obtain ⟨g', k', c', z', rfl, hk', hN', hz'⟩ := h'
  exact (rless_any _ _ k c k' c' z z' w (by omega) (by omega) hN hN').mono fun e w' ⟨g, k, cap, e1, _, _, hB⟩ => ⟨_, e1, hB⟩
attribute [local irreducible] W4 NT NV
section
variable (n d : Int) (m : Int) (V : Nat) (c : Int) (s g : Bool) (x : Int) (k : Nat) (w : World) (hT : Tab w) (hT10 : Tb10 w)
  (c8 : ∀ W, Below w.heap.size w W → Calls Tryz.prog 8 #[] W fun r w' => r = .returned (.bool true) ∧ Below W.heap.size W w')
  (T : List UInt8) (more : Bool)
include hT hT10 c8
set_option maxHeartbeats 2000000 in
theorem nr_n (b : Bool) (E : Int) (hb : b = false ∨ (E != 0) = true) (c13 : ∀ W, Calls Tryz.prog 13 #[.int .i64 n, A4 V] W fun r w' => r = .returned (.tuple #[DV c s g x k, .bool b]) ∧ Below W.heap.size W w')
    (c9 : ∀ W, Tab W → Tb10 W → Calls Tryz.prog 9 #[.int .i64 n, .int .i64 d, .int .i64 m, A4 V] W fun r w' => r = .returned (.tuple #[.string (B T), .bool more, .int .i64 E]) ∧ Below W.heap.size W w') :
    Calls Tryz.prog 5 #[.int .i64 n, .int .i64 d, .int .i64 m, A4 V] w fun r w' => r = .returned (.bool true) ∧ Below w.heap.size w w' := by
  have hsm := cell_set_map
  unfold DV A4 at *
  cases b with
  | false =>
    clear hb
    go_enter Tryz.func5, Tryz.ntmps5
    go_wp2_with (first
      | (go_at_call 8; refine (c8 _ bgo).mono ?_; rintro r w1 ⟨rfl, hb1⟩; obtain ⟨hc1, hf1⟩ := bcell hb1; have hz1_0 : w.heap.size < w1.heap.size := lt_below hb1 ltg; have hl1_0 := Nat.le_of_lt hz1_0; have hA1 := bnext (w0 := w) bgo hb1; have hs1 := hA1.size; clear hb1)
      | (go_at_call 13; refine (c13 _).mono ?_; rintro r w2 ⟨rfl, hb2⟩; obtain ⟨hc2, hf2⟩ := bcell hb2; have hz2_0 : w.heap.size < w2.heap.size := lt_below hb2 ltg; have hl2_0 := Nat.le_of_lt hz2_0; have hA2 := bnext (w0 := w) bgo hb2; have hs2 := hA2.size; clear hb2)
      | (go_at_call 9; refine (c9 _ (hT.go bgo) (hT10.next bgo)).mono ?_; rintro r w3 ⟨rfl, hb3⟩; obtain ⟨hc3, hf3⟩ := bcell hb3; have hz3_0 : w.heap.size < w3.heap.size := lt_below hb3 ltg; have hl3_0 := Nat.le_of_lt hz3_0; have hz3_1 : w2.heap.size < w3.heap.size := lt_below hb3 ltg; have hl3_1 := Nat.le_of_lt hz3_1; have hA3 := bnext (w0 := w) bgo hb3; have hs3 := hA3.size; clear hb3))
    go_ret
    exact ⟨rfl, bgo⟩
  | true =>
    have hE : (E != 0) = true := hb.resolve_left (by decide)
    clear hb
    go_enter Tryz.func5, Tryz.ntmps5
    go_wp2_with (first
      | (go_at_call 8; refine (c8 _ bgo).mono ?_; rintro r w1 ⟨rfl, hb1⟩; obtain ⟨hc1, hf1⟩ := bcell hb1; have hz1_0 : w.heap.size < w1.heap.size := lt_below hb1 ltg; have hl1_0 := Nat.le_of_lt hz1_0; have hA1 := bnext (w0 := w) bgo hb1; have hs1 := hA1.size; clear hb1)
      | (go_at_call 13; refine (c13 _).mono ?_; rintro r w2 ⟨rfl, hb2⟩; obtain ⟨hc2, hf2⟩ := bcell hb2; have hz2_0 : w.heap.size < w2.heap.size := lt_below hb2 ltg; have hl2_0 := Nat.le_of_lt hz2_0; have hA2 := bnext (w0 := w) bgo hb2; have hs2 := hA2.size; clear hb2)
      | (go_at_call 9; refine (c9 _ (hT.go bgo) (hT10.next bgo)).mono ?_; rintro r w3 ⟨rfl, hb3⟩; obtain ⟨hc3, hf3⟩ := bcell hb3; have hz3_0 : w.heap.size < w3.heap.size := lt_below hb3 ltg; have hl3_0 := Nat.le_of_lt hz3_0; have hz3_1 : w2.heap.size < w3.heap.size := lt_below hb3 ltg; have hl3_1 := Nat.le_of_lt hz3_1; have hA3 := bnext (w0 := w) bgo hb3; have hs3 := hA3.size; clear hb3))
    go_ret
    exact ⟨rfl, bgo⟩
variable (c13 : ∀ W, Calls Tryz.prog 13 #[.int .i64 n, A4 V] W fun r w' => r = .returned (.tuple #[DV c s g x k, .bool true]) ∧ Below W.heap.size W w')
  (c9 : ∀ W, Tab W → Tb10 W → Calls Tryz.prog 9 #[.int .i64 n, .int .i64 d, .int .i64 m, A4 V] W fun r w' => r = .returned (.tuple #[.string (B T), .bool more, .int .i64 0]) ∧ Below W.heap.size W w')
  (p q : Nat) (hp1 : 1 ≤ p) (hpq : p < q) (hq : q ≤ 4000) (hTq : T.length = q) (cn : Nat → Int) (cn0 : cn 0 = 0) (cnp : cn p = m) (hcn : ∀ i, i ≤ p → 0 ≤ cn i ∧ cn i ≤ 4000)
  (hby : ∀ i, i < p → ∃ c, IDX (B T) i c ∧ c ≠ 101 ∧ ((48 ≤ c ∧ c ≤ 57 ∧ cn (i + 1) = cn i + 1) ∨ (c < 48 ∧ cn (i + 1) = cn i)))
  (hbe : IDX (B T) p 101) (c0 : Int) (hb0 : IDX (B T) 0 c0) (hs0 : (c0 == 45) = s)
  (I : List UInt8) (hI : (B T).extract (p + 1) q = B I) (e : Int) (he : -10000 ≤ e ∧ e ≤ 10000) (hm : 1 ≤ m ∧ m ≤ 800)
  (c14 : ∀ W, Calls Tryz.prog 14 #[.string (B I)] W fun r w' => r = .returned (.tuple #[.int .i64 e, .bool true]) ∧ Below W.heap.size W w')
  (N D M P A C U Wh : Nat)
  (c15 : ∀ W, Calls Tryz.prog 15 #[.string (B T)] W fun r w' => ∃ a b, r = .returned (.tuple #[a, b, .bool true]) ∧ NT 900 N a w' ∧ NT 900 D b w' ∧ Below W.heap.size W w')
  (c16 : ∀ W, Calls Tryz.prog 16 #[DV c s g x k, .int .u64 2] W fun r w' => ∃ a b, r = .returned (.tuple #[a, b]) ∧ NT 900 P a w' ∧ NT 900 M b w' ∧ Below W.heap.size W w')
  (ct1 : ∀ W u v, NT 900 N u W → NT 900 M v W → Calls Tryz.prog 17 #[u, v] W fun r w' => ∃ a, r = .returned a ∧ NT 2000 A a w' ∧ Below W.heap.size W w')
  (ct2 : ∀ W u v, NT 900 P u W → NT 900 D v W → Calls Tryz.prog 17 #[u, v] W fun r w' => ∃ a, r = .returned a ∧ NT 2000 C a w' ∧ Below W.heap.size W w')
  (sg : Int) (cc1 : ∀ W u v, NT 2000 A u W → NT 2000 C v W → Calls Tryz.prog 18 #[u, v] W fun r w' => r = .returned (.int .i64 sg) ∧ W = w')
include c13 c9 hp1 hpq hq hTq cn0 cnp hcn hby hbe hb0 hs0 hI he hm c14 c15 c16 ct1 ct2 cc1
set_option maxHeartbeats 8000000 in
theorem nr_e (hsg : sg = 0) (hmore : more = false) :
    Calls Tryz.prog 5 #[.int .i64 n, .int .i64 d, .int .i64 m, A4 V] w fun r w' => r = .returned (.bool true) ∧ Below w.heap.size w w' := by
  subst hsg hmore
  have hsm := cell_set_map
  have zT : (B T).size = q := (B_size T).trans hTq
  have HBY : Hid (∀ i, i < p → ∃ c, IDX (B T) i c ∧ c ≠ 101 ∧ ((48 ≤ c ∧ c ≤ 57 ∧ cn (i + 1) = cn i + 1) ∨ (c < 48 ∧ cn (i + 1) = cn i))) := hby
  have HBE : Hid (IDX (B T) p 101) := hbe
  have HB0 : Hid (IDX (B T) 0 c0) := hb0
  have HCN : Hid (∀ i, i ≤ p → 0 ≤ cn i ∧ cn i ≤ 4000) := hcn
  have HC0 : Hid (cn 0 = 0) := cn0
  have HCP : Hid (cn p = m) := cnp
  have HI : Hid ((B T).extract (p + 1) q = B I) := hI
  have HS0 : Hid ((c0 == 45) = s) := hs0
  clear hby hbe hb0 hcn cn0 cnp hI hs0 hTq
  unfold DV A4 at *
  go_enter Tryz.func5, Tryz.ntmps5
  go_wp2_with (first
    | (go_at_call 8; refine (c8 _ bgo).mono ?_; rintro r w1 ⟨rfl, hb1⟩; obtain ⟨hc1, hf1⟩ := bcell hb1; have hz1_0 : w.heap.size < w1.heap.size := lt_below hb1 ltg; have hl1_0 := Nat.le_of_lt hz1_0; have hA1 := bnext (w0 := w) bgo hb1; have hs1 := hA1.size; clear hb1)
    | (go_at_call 13; refine (c13 _).mono ?_; rintro r w2 ⟨rfl, hb2⟩; obtain ⟨hc2, hf2⟩ := bcell hb2; have hz2_0 : w.heap.size < w2.heap.size := lt_below hb2 ltg; have hl2_0 := Nat.le_of_lt hz2_0; have hA2 := bnext (w0 := w) bgo hb2; have hs2 := hA2.size; clear hb2)
    | (go_at_call 9; refine (c9 _ (hT.go bgo) (hT10.next bgo)).mono ?_; rintro r w3 ⟨rfl, hb3⟩; obtain ⟨hc3, hf3⟩ := bcell hb3; have hz3_0 : w.heap.size < w3.heap.size := lt_below hb3 ltg; have hl3_0 := Nat.le_of_lt hz3_0; have hz3_1 : w2.heap.size < w3.heap.size := lt_below hb3 ltg; have hl3_1 := Nat.le_of_lt hz3_1; have hA3 := bnext (w0 := w) bgo hb3; have hs3 := hA3.size; clear hb3))
  clear c8 c13 c9
  go_loop [14, 15, 16, 51, 52, 53, 54, 55, 56, 57, 58, 59, 60, 61, 62, 63, 64, 65, 66, 67, 68, 69, 70, 71, 72, 73, 74, 75, 76] (fun t14 t15 t16 _ _ _ _ _ _ _ _ _ _ _ _ _ _ _ _ _ _ _ _ _ _ _ _ _ _ => ∃ j : Nat, j ≤ p ∧ t14 = .int .i64 (cn j) ∧ t15 = .int .i64 (if j = 0 then 0 else (j : Int) + 1) ∧ t16 = .int .i64 (j : Int)) (fun _ _ t16 _ _ _ _ _ _ _ _ _ _ _ _ _ _ _ _ _ _ _ _ _ _ _ _ _ _ => p - (intOf t16).toNat)
  case atStart => exact ⟨0, Nat.zero_le _, by rw [HC0.out], rfl, rfl⟩
  case round =>
    obtain ⟨j, hj, rfl, rfl, rfl⟩ := hrel
    have hcj := HCN.out j hj
    by_cases h4 : j < p
    · obtain ⟨cj, hi, hn1, hor⟩ := HBY.out j h4
      have hjq : j < (B T).size := by omega
      have hii := hi hjq
      have h101 : (cj != 101) = true := by simpa using hn1
      have hgen : ∃ y : Int, y = if j = 0 then 0 else (j : Int) + 1 := ⟨_, rfl⟩
      obtain ⟨y, hy⟩ := hgen
      rw [← hy]
      clear hy hi hn1
      have hcl : 0 ≤ cj := by omega
      rcases hor with ⟨h48, h57, hnx⟩ | ⟨h48, hnx⟩
      · have HNX : Hid (cn (j + 1) = cn j + 1) := hnx
        clear hnx
        go_wp2
        go_round
        case rel => exact ⟨j + 1, h4, by rw [HNX.out], by rw [if_neg (by omega)]; congr 1, by go_num⟩
        case measure => simp [intOf]; omega
      · have HNX : Hid (cn (j + 1) = cn j) := hnx
        have h48' : ¬ 48 ≤ cj := by omega
        clear hnx h48
        go_wp2
        go_round
        case rel => exact ⟨j + 1, h4, by rw [HNX.out], by rw [if_neg (by omega)]; congr 1, by go_num⟩
        case measure => simp [intOf]; omega
    · obtain rfl : j = p := by omega
      clear hj hcj
      rw [HCP.out, if_neg (by omega)]
      have hjq : j < (B T).size := by omega
      have hii := HBE.out hjq
      have h0q : 0 < (B T).size := by omega
      have hi0 := HB0.out h0q
      have hxt := HI.out
      have hs0 := HS0.out
      have hjb : (j : Int) < q := by omega
      have hqb : (q : Int) ≤ 4000 := by omega
      have HP1 : Hid (1 ≤ j) := hp1
      clear HBY HBE HB0 HCN HC0 HCP HI HS0 h4 hp1
      go_upto_region 16 with (first
        | (go_at_call 14; refine (c14 _).mono ?_; rintro r w4 ⟨rfl, hb4⟩; obtain ⟨hc4, hf4⟩ := bcell hb4; have hz4_0 : w.heap.size < w4.heap.size := lt_below hb4 ltg; have hl4_0 := Nat.le_of_lt hz4_0; have hz4_1 : w2.heap.size < w4.heap.size := lt_below hb4 ltg; have hl4_1 := Nat.le_of_lt hz4_1; have hA4 := bnext (w0 := w) bgo hb4; have hs4 := hA4.size; clear hb4)
        | (go_at_call 15; refine (c15 _).mono ?_; rintro r w5 ⟨vn, vd, rfl, hvn, hvd, hb5⟩; obtain ⟨hc5, hf5⟩ := bcell hb5; have hz5_0 : w.heap.size < w5.heap.size := lt_below hb5 ltg; have hl5_0 := Nat.le_of_lt hz5_0; have hz5_1 : w2.heap.size < w5.heap.size := lt_below hb5 ltg; have hl5_1 := Nat.le_of_lt hz5_1; have hA5 := bnext (w0 := w) bgo hb5; have hs5 := hA5.size; clear hb5))
      have ks : w5.cell? ⟨w2.heap.size, 1, none⟩ = some (.bool s) := by go_simp
      refine wp_whole (by kernel_rfl) (by kernel_rfl) fun hne hcell => ?_
      repeat go_big_quiet_step (fail)
      refine wpQuiet_nil fun w6 hb6 => ?_
      have hvn6 := hvn.next hb6
      have hvd6 := hvd.next hb6
      clear hvn hvd hne hcell hii hi0 hxt hs0 c14 c15
      obtain ⟨hc6, hf6⟩ := bcell hb6; have hz6_0 : w.heap.size < w6.heap.size := lt_below hb6 ltg; have hl6_0 := Nat.le_of_lt hz6_0; have hz6_1 : w2.heap.size < w6.heap.size := lt_below hb6 ltg; have hl6_1 := Nat.le_of_lt hz6_1; have hA6 := bnext (w0 := w) bgo hb6; have hs6 := hA6.size; clear hb6
      go_wp2_with (first
        | (go_at_call 16; refine (c16 _).mono ?_; rintro r w7 ⟨vp, vb, rfl, hvp, hvb, hb7⟩; have hvn7 := hvn6.next hb7; have hvd7 := hvd6.next hb7; obtain ⟨hc7, hf7⟩ := bcell hb7; have hz7_0 : w.heap.size < w7.heap.size := lt_below hb7 ltg; have hl7_0 := Nat.le_of_lt hz7_0; have hz7_1 : w2.heap.size < w7.heap.size := lt_below hb7 ltg; have hl7_1 := Nat.le_of_lt hz7_1; have hA7 := bnext (w0 := w) bgo hb7; have hs7 := hA7.size; clear hb7)
        | (have hh := hva; go_at_call 17; refine (ct2 _ _ _ hvp8 hvd8).mono ?_; rintro r w9 ⟨vc, rfl, hvc, hb9⟩; have hva9 := hva.next hb9; obtain ⟨hc9, hf9⟩ := bcell hb9; have hz9_0 : w.heap.size < w9.heap.size := lt_below hb9 ltg; have hl9_0 := Nat.le_of_lt hz9_0; have hz9_1 : w2.heap.size < w9.heap.size := lt_below hb9 ltg; have hl9_1 := Nat.le_of_lt hz9_1; have hA9 := bnext (w0 := w) bgo hb9; have hs9 := hA9.size; clear hb9)
        | (go_at_call 17; refine (ct1 _ _ _ hvn7 hvb).mono ?_; rintro r w8 ⟨va, rfl, hva, hb8⟩; have hvp8 := hvp.next hb8; have hvd8 := hvd7.next hb8; obtain ⟨hc8, hf8⟩ := bcell hb8; have hz8_0 : w.heap.size < w8.heap.size := lt_below hb8 ltg; have hl8_0 := Nat.le_of_lt hz8_0; have hz8_1 : w2.heap.size < w8.heap.size := lt_below hb8 ltg; have hl8_1 := Nat.le_of_lt hz8_1; have hA8 := bnext (w0 := w) bgo hb8; have hs8 := hA8.size; clear hb8)
        | (go_at_call 18; refine (cc1 _ _ _ hva9 hvc).mono ?_; rintro r w10 ⟨rfl, rfl⟩))
      go_ret
      exact ⟨rfl, bgo⟩
variable (F G FW : Nat) (hmore : more = true)
  (ct3 : ∀ W u v, NT 900 D u W → NT 900 M v W → Calls Tryz.prog 17 #[u, v] W fun r w' => ∃ a, r = .returned a ∧ NT 2000 G a w' ∧ Below W.heap.size W w')
  (cs : ∀ W u v, NT 2000 G u W → NT 2000 1 v W → Calls Tryz.prog 20 #[u, v, .int .u64 10, .int .i64 (e - m + 1)] W fun r w' => ∃ a b, r = .returned (.tuple #[a, b]) ∧ NT 2000 U a w' ∧ NT 2000 Wh b w' ∧ Below W.heap.size W w')
  (ct4 : ∀ W u v, NT 4000 F u W → NT 2000 Wh v W → Calls Tryz.prog 17 #[u, v] W fun r w' => ∃ a, r = .returned a ∧ NT 9000 FW a w' ∧ Below W.heap.size W w')
  (cc2 : ∀ W u v, NT 9000 FW u W → NT 2000 U v W → Calls Tryz.prog 18 #[u, v] W fun r w' => r = .returned (.int .i64 (-1)) ∧ W = w')
include hmore ct3 cs ct4 cc2
set_option maxHeartbeats 8000000 in
theorem nr_g (hsg : sg = 1) (cl1 : ∀ W u v, NT 2000 A u W → NT 2000 C v W → Calls Tryz.prog 19 #[u, v] W fun r w' => ∃ a, r = .returned a ∧ NT 4000 F a w' ∧ Below W.heap.size W w') :
    Calls Tryz.prog 5 #[.int .i64 n, .int .i64 d, .int .i64 m, A4 V] w fun r w' => r = .returned (.bool true) ∧ Below w.heap.size w w' := by
  subst hsg hmore
  have hsm := cell_set_map
  have zT : (B T).size = q := (B_size T).trans hTq
  have HBY : Hid (∀ i, i < p → ∃ c, IDX (B T) i c ∧ c ≠ 101 ∧ ((48 ≤ c ∧ c ≤ 57 ∧ cn (i + 1) = cn i + 1) ∨ (c < 48 ∧ cn (i + 1) = cn i))) := hby
  have HBE : Hid (IDX (B T) p 101) := hbe
  have HB0 : Hid (IDX (B T) 0 c0) := hb0
  have HCN : Hid (∀ i, i ≤ p → 0 ≤ cn i ∧ cn i ≤ 4000) := hcn
  have HC0 : Hid (cn 0 = 0) := cn0
  have HCP : Hid (cn p = m) := cnp
  have HI : Hid ((B T).extract (p + 1) q = B I) := hI
  have HS0 : Hid ((c0 == 45) = s) := hs0
  clear hby hbe hb0 hcn cn0 cnp hI hs0 hTq
  unfold DV A4 at *
  go_enter Tryz.func5, Tryz.ntmps5
  go_wp2_with (first
    | (go_at_call 8; refine (c8 _ bgo).mono ?_; rintro r w1 ⟨rfl, hb1⟩; obtain ⟨hc1, hf1⟩ := bcell hb1; have hz1_0 : w.heap.size < w1.heap.size := lt_below hb1 ltg; have hl1_0 := Nat.le_of_lt hz1_0; have hA1 := bnext (w0 := w) bgo hb1; have hs1 := hA1.size; clear hb1)
    | (go_at_call 13; refine (c13 _).mono ?_; rintro r w2 ⟨rfl, hb2⟩; obtain ⟨hc2, hf2⟩ := bcell hb2; have hz2_0 : w.heap.size < w2.heap.size := lt_below hb2 ltg; have hl2_0 := Nat.le_of_lt hz2_0; have hA2 := bnext (w0 := w) bgo hb2; have hs2 := hA2.size; clear hb2)
    | (go_at_call 9; refine (c9 _ (hT.go bgo) (hT10.next bgo)).mono ?_; rintro r w3 ⟨rfl, hb3⟩; obtain ⟨hc3, hf3⟩ := bcell hb3; have hz3_0 : w.heap.size < w3.heap.size := lt_below hb3 ltg; have hl3_0 := Nat.le_of_lt hz3_0; have hz3_1 : w2.heap.size < w3.heap.size := lt_below hb3 ltg; have hl3_1 := Nat.le_of_lt hz3_1; have hA3 := bnext (w0 := w) bgo hb3; have hs3 := hA3.size; clear hb3))
  clear c8 c13 c9
  go_loop [14, 15, 16, 51, 52, 53, 54, 55, 56, 57, 58, 59, 60, 61, 62, 63, 64, 65, 66, 67, 68, 69, 70, 71, 72, 73, 74, 75, 76] (fun t14 t15 t16 _ _ _ _ _ _ _ _ _ _ _ _ _ _ _ _ _ _ _ _ _ _ _ _ _ _ => ∃ j : Nat, j ≤ p ∧ t14 = .int .i64 (cn j) ∧ t15 = .int .i64 (if j = 0 then 0 else (j : Int) + 1) ∧ t16 = .int .i64 (j : Int)) (fun _ _ t16 _ _ _ _ _ _ _ _ _ _ _ _ _ _ _ _ _ _ _ _ _ _ _ _ _ _ => p - (intOf t16).toNat)
  case atStart => exact ⟨0, Nat.zero_le _, by rw [HC0.out], rfl, rfl⟩
  case round =>
    obtain ⟨j, hj, rfl, rfl, rfl⟩ := hrel
    have hcj := HCN.out j hj
    by_cases h4 : j < p
    · obtain ⟨cj, hi, hn1, hor⟩ := HBY.out j h4
      have hjq : j < (B T).size := by omega
      have hii := hi hjq
      have h101 : (cj != 101) = true := by simpa using hn1
      have hgen : ∃ y : Int, y = if j = 0 then 0 else (j : Int) + 1 := ⟨_, rfl⟩
      obtain ⟨y, hy⟩ := hgen
      rw [← hy]
      clear hy hi hn1
      have hcl : 0 ≤ cj := by omega
      rcases hor with ⟨h48, h57, hnx⟩ | ⟨h48, hnx⟩
      · have HNX : Hid (cn (j + 1) = cn j + 1) := hnx
        clear hnx
        go_wp2
        go_round
        case rel => exact ⟨j + 1, h4, by rw [HNX.out], by rw [if_neg (by omega)]; congr 1, by go_num⟩
        case measure => simp [intOf]; omega
      · have HNX : Hid (cn (j + 1) = cn j) := hnx
        have h48' : ¬ 48 ≤ cj := by omega
        clear hnx h48
        go_wp2
        go_round
        case rel => exact ⟨j + 1, h4, by rw [HNX.out], by rw [if_neg (by omega)]; congr 1, by go_num⟩
        case measure => simp [intOf]; omega
    · obtain rfl : j = p := by omega
      clear hj hcj
      rw [HCP.out, if_neg (by omega)]
      have hjq : j < (B T).size := by omega
      have hii := HBE.out hjq
      have h0q : 0 < (B T).size := by omega
      have hi0 := HB0.out h0q
      have hxt := HI.out
      have hs0 := HS0.out
      have hjb : (j : Int) < q := by omega
      have hqb : (q : Int) ≤ 4000 := by omega
      have HP1 : Hid (1 ≤ j) := hp1
      clear HBY HBE HB0 HCN HC0 HCP HI HS0 h4 hp1
      go_upto_region 16 with (first
        | (go_at_call 14; refine (c14 _).mono ?_; rintro r w4 ⟨rfl, hb4⟩; obtain ⟨hc4, hf4⟩ := bcell hb4; have hz4_0 : w.heap.size < w4.heap.size := lt_below hb4 ltg; have hl4_0 := Nat.le_of_lt hz4_0; have hz4_1 : w2.heap.size < w4.heap.size := lt_below hb4 ltg; have hl4_1 := Nat.le_of_lt hz4_1; have hA4 := bnext (w0 := w) bgo hb4; have hs4 := hA4.size; clear hb4)
        | (go_at_call 15; refine (c15 _).mono ?_; rintro r w5 ⟨vn, vd, rfl, hvn, hvd, hb5⟩; obtain ⟨hc5, hf5⟩ := bcell hb5; have hz5_0 : w.heap.size < w5.heap.size := lt_below hb5 ltg; have hl5_0 := Nat.le_of_lt hz5_0; have hz5_1 : w2.heap.size < w5.heap.size := lt_below hb5 ltg; have hl5_1 := Nat.le_of_lt hz5_1; have hA5 := bnext (w0 := w) bgo hb5; have hs5 := hA5.size; clear hb5))
      have ks : w5.cell? ⟨w2.heap.size, 1, none⟩ = some (.bool s) := by go_simp
      refine wp_whole (by kernel_rfl) (by kernel_rfl) fun hne hcell => ?_
      repeat go_big_quiet_step (fail)
      refine wpQuiet_nil fun w6 hb6 => ?_
      have hvn6 := hvn.next hb6
      have hvd6 := hvd.next hb6
      clear hvn hvd hne hcell hii hi0 hxt hs0 c14 c15
      obtain ⟨hc6, hf6⟩ := bcell hb6; have hz6_0 : w.heap.size < w6.heap.size := lt_below hb6 ltg; have hl6_0 := Nat.le_of_lt hz6_0; have hz6_1 : w2.heap.size < w6.heap.size := lt_below hb6 ltg; have hl6_1 := Nat.le_of_lt hz6_1; have hA6 := bnext (w0 := w) bgo hb6; have hs6 := hA6.size; clear hb6
      go_wp2_with (first
        | (have hh := hfw; go_at_call 18; refine (cc2 _ _ _ hfw hun15).mono ?_; rintro r w16 ⟨rfl, rfl⟩)
        | (have hh := hwh; go_at_call 17; refine (ct4 _ _ _ hfar14 hwh).mono ?_; rintro r w15 ⟨vfw, rfl, hfw, hb15⟩; have hun15 := hun.next hb15; obtain ⟨hc15, hf15⟩ := bcell hb15; have hz15_0 : w.heap.size < w15.heap.size := lt_below hb15 ltg; have hl15_0 := Nat.le_of_lt hz15_0; have hz15_1 : w2.heap.size < w15.heap.size := lt_below hb15 ltg; have hl15_1 := Nat.le_of_lt hz15_1; have hA15 := bnext (w0 := w) bgo hb15; have hs15 := hA15.size; clear hb15)
        | (go_at_call 20; refine (cs _ _ _ (hvg.next (below1 _ _)) ((nt_un1 (by simp) rfl (by decide) (by decide)).more (by decide))).mono ?_; rintro r w14 ⟨vun, vwh, rfl, hun, hwh, hb14⟩; have hfar14 := (hfar13.next (below1 _ _)).next hb14; obtain ⟨hc14, hf14⟩ := bcell hb14; have hz14_0 : w.heap.size < w14.heap.size := lt_below hb14 ltg; have hl14_0 := Nat.le_of_lt hz14_0; have hz14_1 : w2.heap.size < w14.heap.size := lt_below hb14 ltg; have hl14_1 := Nat.le_of_lt hz14_1; have hA14 := bnext (w0 := w) bgo hb14; have hs14 := hA14.size; clear hb14)
        | (have hh := hfar; go_at_call 17; refine (ct3 _ _ _ hvd12 hvb12).mono ?_; rintro r w13 ⟨vg, rfl, hvg, hb13⟩; have hfar13 := hfar.next hb13; obtain ⟨hc13, hf13⟩ := bcell hb13; have hz13_0 : w.heap.size < w13.heap.size := lt_below hb13 ltg; have hl13_0 := Nat.le_of_lt hz13_0; have hz13_1 : w2.heap.size < w13.heap.size := lt_below hb13 ltg; have hl13_1 := Nat.le_of_lt hz13_1; have hA13 := bnext (w0 := w) bgo hb13; have hs13 := hA13.size; clear hb13)
        | (go_at_call 19; refine (cl1 _ _ _ hva9 hvc).mono ?_; rintro r w12 ⟨vf, rfl, hfar, hb12⟩; have hva12 := hva9.next hb12; have hvc12 := hvc.next hb12; have hvd12 := hvd9.next hb12; have hvb12 := hvb9.next hb12; obtain ⟨hc12, hf12⟩ := bcell hb12; have hz12_0 : w.heap.size < w12.heap.size := lt_below hb12 ltg; have hl12_0 := Nat.le_of_lt hz12_0; have hz12_1 : w2.heap.size < w12.heap.size := lt_below hb12 ltg; have hl12_1 := Nat.le_of_lt hz12_1; have hA12 := bnext (w0 := w) bgo hb12; have hs12 := hA12.size; clear hb12)
        | (have hh := hfar; go_at_call 18; refine (cc1 _ _ _ hva12 hvc12).mono ?_; rintro r w10 ⟨rfl, rfl⟩)
        | (go_at_call 18; refine (cc1 _ _ _ hva9 hvc).mono ?_; rintro r w10 ⟨rfl, rfl⟩)
        | (go_at_call 16; refine (c16 _).mono ?_; rintro r w7 ⟨vp, vb, rfl, hvp, hvb, hb7⟩; have hvn7 := hvn6.next hb7; have hvd7 := hvd6.next hb7; obtain ⟨hc7, hf7⟩ := bcell hb7; have hz7_0 : w.heap.size < w7.heap.size := lt_below hb7 ltg; have hl7_0 := Nat.le_of_lt hz7_0; have hz7_1 : w2.heap.size < w7.heap.size := lt_below hb7 ltg; have hl7_1 := Nat.le_of_lt hz7_1; have hA7 := bnext (w0 := w) bgo hb7; have hs7 := hA7.size; clear hb7)
        | (have hh := hva; go_at_call 17; refine (ct2 _ _ _ hvp8 hvd8).mono ?_; rintro r w9 ⟨vc, rfl, hvc, hb9⟩; have hva9 := hva.next hb9; have hvd9 := hvd8.next hb9; have hvb9 := hvb8.next hb9; obtain ⟨hc9, hf9⟩ := bcell hb9; have hz9_0 : w.heap.size < w9.heap.size := lt_below hb9 ltg; have hl9_0 := Nat.le_of_lt hz9_0; have hz9_1 : w2.heap.size < w9.heap.size := lt_below hb9 ltg; have hl9_1 := Nat.le_of_lt hz9_1; have hA9 := bnext (w0 := w) bgo hb9; have hs9 := hA9.size; clear hb9)
        | (go_at_call 17; refine (ct1 _ _ _ hvn7 hvb).mono ?_; rintro r w8 ⟨va, rfl, hva, hb8⟩; have hvp8 := hvp.next hb8; have hvd8 := hvd7.next hb8; have hvb8 := hvb.next hb8; obtain ⟨hc8, hf8⟩ := bcell hb8; have hz8_0 : w.heap.size < w8.heap.size := lt_below hb8 ltg; have hl8_0 := Nat.le_of_lt hz8_0; have hz8_1 : w2.heap.size < w8.heap.size := lt_below hb8 ltg; have hl8_1 := Nat.le_of_lt hz8_1; have hA8 := bnext (w0 := w) bgo hb8; have hs8 := hA8.size; clear hb8))
      go_ret
      exact ⟨rfl, bgo⟩
set_option maxHeartbeats 8000000 in
theorem nr_l (hsg : sg = -1) (cl1 : ∀ W u v, NT 2000 A u W → NT 2000 C v W → Calls Tryz.prog 19 #[u, v] W fun r w' => ∃ a, r = .returned a ∧ Below W.heap.size W w') (cl2 : ∀ W u v, NT 2000 C u W → NT 2000 A v W → Calls Tryz.prog 19 #[u, v] W fun r w' => ∃ a, r = .returned a ∧ NT 4000 F a w' ∧ Below W.heap.size W w') :
    Calls Tryz.prog 5 #[.int .i64 n, .int .i64 d, .int .i64 m, A4 V] w fun r w' => r = .returned (.bool true) ∧ Below w.heap.size w w' := by
  subst hsg hmore
  have hsm := cell_set_map
  have zT : (B T).size = q := (B_size T).trans hTq
  have HBY : Hid (∀ i, i < p → ∃ c, IDX (B T) i c ∧ c ≠ 101 ∧ ((48 ≤ c ∧ c ≤ 57 ∧ cn (i + 1) = cn i + 1) ∨ (c < 48 ∧ cn (i + 1) = cn i))) := hby
  have HBE : Hid (IDX (B T) p 101) := hbe
  have HB0 : Hid (IDX (B T) 0 c0) := hb0
  have HCN : Hid (∀ i, i ≤ p → 0 ≤ cn i ∧ cn i ≤ 4000) := hcn
  have HC0 : Hid (cn 0 = 0) := cn0
  have HCP : Hid (cn p = m) := cnp
  have HI : Hid ((B T).extract (p + 1) q = B I) := hI
  have HS0 : Hid ((c0 == 45) = s) := hs0
  clear hby hbe hb0 hcn cn0 cnp hI hs0 hTq
  unfold DV A4 at *
  go_enter Tryz.func5, Tryz.ntmps5
  go_wp2_with (first
    | (go_at_call 8; refine (c8 _ bgo).mono ?_; rintro r w1 ⟨rfl, hb1⟩; obtain ⟨hc1, hf1⟩ := bcell hb1; have hz1_0 : w.heap.size < w1.heap.size := lt_below hb1 ltg; have hl1_0 := Nat.le_of_lt hz1_0; have hA1 := bnext (w0 := w) bgo hb1; have hs1 := hA1.size; clear hb1)
    | (go_at_call 13; refine (c13 _).mono ?_; rintro r w2 ⟨rfl, hb2⟩; obtain ⟨hc2, hf2⟩ := bcell hb2; have hz2_0 : w.heap.size < w2.heap.size := lt_below hb2 ltg; have hl2_0 := Nat.le_of_lt hz2_0; have hA2 := bnext (w0 := w) bgo hb2; have hs2 := hA2.size; clear hb2)
    | (go_at_call 9; refine (c9 _ (hT.go bgo) (hT10.next bgo)).mono ?_; rintro r w3 ⟨rfl, hb3⟩; obtain ⟨hc3, hf3⟩ := bcell hb3; have hz3_0 : w.heap.size < w3.heap.size := lt_below hb3 ltg; have hl3_0 := Nat.le_of_lt hz3_0; have hz3_1 : w2.heap.size < w3.heap.size := lt_below hb3 ltg; have hl3_1 := Nat.le_of_lt hz3_1; have hA3 := bnext (w0 := w) bgo hb3; have hs3 := hA3.size; clear hb3))
  clear c8 c13 c9
  go_loop [14, 15, 16, 51, 52, 53, 54, 55, 56, 57, 58, 59, 60, 61, 62, 63, 64, 65, 66, 67, 68, 69, 70, 71, 72, 73, 74, 75, 76] (fun t14 t15 t16 _ _ _ _ _ _ _ _ _ _ _ _ _ _ _ _ _ _ _ _ _ _ _ _ _ _ => ∃ j : Nat, j ≤ p ∧ t14 = .int .i64 (cn j) ∧ t15 = .int .i64 (if j = 0 then 0 else (j : Int) + 1) ∧ t16 = .int .i64 (j : Int)) (fun _ _ t16 _ _ _ _ _ _ _ _ _ _ _ _ _ _ _ _ _ _ _ _ _ _ _ _ _ _ => p - (intOf t16).toNat)
  case atStart => exact ⟨0, Nat.zero_le _, by rw [HC0.out], rfl, rfl⟩
  case round =>
    obtain ⟨j, hj, rfl, rfl, rfl⟩ := hrel
    have hcj := HCN.out j hj
    by_cases h4 : j < p
    · obtain ⟨cj, hi, hn1, hor⟩ := HBY.out j h4
      have hjq : j < (B T).size := by omega
      have hii := hi hjq
      have h101 : (cj != 101) = true := by simpa using hn1
      have hgen : ∃ y : Int, y = if j = 0 then 0 else (j : Int) + 1 := ⟨_, rfl⟩
      obtain ⟨y, hy⟩ := hgen
      rw [← hy]
      clear hy hi hn1
      have hcl : 0 ≤ cj := by omega
      rcases hor with ⟨h48, h57, hnx⟩ | ⟨h48, hnx⟩
      · have HNX : Hid (cn (j + 1) = cn j + 1) := hnx
        clear hnx
        go_wp2
        go_round
        case rel => exact ⟨j + 1, h4, by rw [HNX.out], by rw [if_neg (by omega)]; congr 1, by go_num⟩
        case measure => simp [intOf]; omega
      · have HNX : Hid (cn (j + 1) = cn j) := hnx
        have h48' : ¬ 48 ≤ cj := by omega
        clear hnx h48
        go_wp2
        go_round
        case rel => exact ⟨j + 1, h4, by rw [HNX.out], by rw [if_neg (by omega)]; congr 1, by go_num⟩
        case measure => simp [intOf]; omega
    · obtain rfl : j = p := by omega
      clear hj hcj
      rw [HCP.out, if_neg (by omega)]
      have hjq : j < (B T).size := by omega
      have hii := HBE.out hjq
      have h0q : 0 < (B T).size := by omega
      have hi0 := HB0.out h0q
      have hxt := HI.out
      have hs0 := HS0.out
      have hjb : (j : Int) < q := by omega
      have hqb : (q : Int) ≤ 4000 := by omega
      have HP1 : Hid (1 ≤ j) := hp1
      clear HBY HBE HB0 HCN HC0 HCP HI HS0 h4 hp1
      go_upto_region 16 with (first
        | (go_at_call 14; refine (c14 _).mono ?_; rintro r w4 ⟨rfl, hb4⟩; obtain ⟨hc4, hf4⟩ := bcell hb4; have hz4_0 : w.heap.size < w4.heap.size := lt_below hb4 ltg; have hl4_0 := Nat.le_of_lt hz4_0; have hz4_1 : w2.heap.size < w4.heap.size := lt_below hb4 ltg; have hl4_1 := Nat.le_of_lt hz4_1; have hA4 := bnext (w0 := w) bgo hb4; have hs4 := hA4.size; clear hb4)
        | (go_at_call 15; refine (c15 _).mono ?_; rintro r w5 ⟨vn, vd, rfl, hvn, hvd, hb5⟩; obtain ⟨hc5, hf5⟩ := bcell hb5; have hz5_0 : w.heap.size < w5.heap.size := lt_below hb5 ltg; have hl5_0 := Nat.le_of_lt hz5_0; have hz5_1 : w2.heap.size < w5.heap.size := lt_below hb5 ltg; have hl5_1 := Nat.le_of_lt hz5_1; have hA5 := bnext (w0 := w) bgo hb5; have hs5 := hA5.size; clear hb5))
      have ks : w5.cell? ⟨w2.heap.size, 1, none⟩ = some (.bool s) := by go_simp
      refine wp_whole (by kernel_rfl) (by kernel_rfl) fun hne hcell => ?_
      repeat go_big_quiet_step (fail)
      refine wpQuiet_nil fun w6 hb6 => ?_
      have hvn6 := hvn.next hb6
      have hvd6 := hvd.next hb6
      clear hvn hvd hne hcell hii hi0 hxt hs0 c14 c15
      obtain ⟨hc6, hf6⟩ := bcell hb6; have hz6_0 : w.heap.size < w6.heap.size := lt_below hb6 ltg; have hl6_0 := Nat.le_of_lt hz6_0; have hz6_1 : w2.heap.size < w6.heap.size := lt_below hb6 ltg; have hl6_1 := Nat.le_of_lt hz6_1; have hA6 := bnext (w0 := w) bgo hb6; have hs6 := hA6.size; clear hb6
      go_wp2_with (first
        | (have hh := hfw; go_at_call 18; refine (cc2 _ _ _ hfw hun15).mono ?_; rintro r w16 ⟨rfl, rfl⟩)
        | (have hh := hwh; go_at_call 17; refine (ct4 _ _ _ hfar14 hwh).mono ?_; rintro r w15 ⟨vfw, rfl, hfw, hb15⟩; have hun15 := hun.next hb15; obtain ⟨hc15, hf15⟩ := bcell hb15; have hz15_0 : w.heap.size < w15.heap.size := lt_below hb15 ltg; have hl15_0 := Nat.le_of_lt hz15_0; have hz15_1 : w2.heap.size < w15.heap.size := lt_below hb15 ltg; have hl15_1 := Nat.le_of_lt hz15_1; have hA15 := bnext (w0 := w) bgo hb15; have hs15 := hA15.size; clear hb15)
        | (go_at_call 20; refine (cs _ _ _ (hvg.next (below1 _ _)) ((nt_un1 (by simp) rfl (by decide) (by decide)).more (by decide))).mono ?_; rintro r w14 ⟨vun, vwh, rfl, hun, hwh, hb14⟩; have hfar14 := (hfar13.next (below1 _ _)).next hb14; obtain ⟨hc14, hf14⟩ := bcell hb14; have hz14_0 : w.heap.size < w14.heap.size := lt_below hb14 ltg; have hl14_0 := Nat.le_of_lt hz14_0; have hz14_1 : w2.heap.size < w14.heap.size := lt_below hb14 ltg; have hl14_1 := Nat.le_of_lt hz14_1; have hA14 := bnext (w0 := w) bgo hb14; have hs14 := hA14.size; clear hb14)
        | (have hh := hfar; go_at_call 17; refine (ct3 _ _ _ hvd12 hvb12).mono ?_; rintro r w13 ⟨vg, rfl, hvg, hb13⟩; have hfar13 := hfar.next hb13; obtain ⟨hc13, hf13⟩ := bcell hb13; have hz13_0 : w.heap.size < w13.heap.size := lt_below hb13 ltg; have hl13_0 := Nat.le_of_lt hz13_0; have hz13_1 : w2.heap.size < w13.heap.size := lt_below hb13 ltg; have hl13_1 := Nat.le_of_lt hz13_1; have hA13 := bnext (w0 := w) bgo hb13; have hs13 := hA13.size; clear hb13)
        | (have hh := hva11; go_at_call 19; refine (cl2 _ _ _ hvc11 hva11).mono ?_; rintro r w12 ⟨vf, rfl, hfar, hb12⟩; have hvd12 := hvd11.next hb12; have hvb12 := hvb11.next hb12; obtain ⟨hc12, hf12⟩ := bcell hb12; have hz12_0 : w.heap.size < w12.heap.size := lt_below hb12 ltg; have hl12_0 := Nat.le_of_lt hz12_0; have hz12_1 : w2.heap.size < w12.heap.size := lt_below hb12 ltg; have hl12_1 := Nat.le_of_lt hz12_1; have hA12 := bnext (w0 := w) bgo hb12; have hs12 := hA12.size; clear hb12)
        | (go_at_call 19; refine (cl1 _ _ _ hva9 hvc).mono ?_; rintro r w11 ⟨vj, rfl, hb11⟩; have hva11 := hva9.next hb11; have hvc11 := hvc.next hb11; have hvd11 := hvd9.next hb11; have hvb11 := hvb9.next hb11; obtain ⟨hc11, hf11⟩ := bcell hb11; have hz11_0 : w.heap.size < w11.heap.size := lt_below hb11 ltg; have hl11_0 := Nat.le_of_lt hz11_0; have hz11_1 : w2.heap.size < w11.heap.size := lt_below hb11 ltg; have hl11_1 := Nat.le_of_lt hz11_1; have hA11 := bnext (w0 := w) bgo hb11; have hs11 := hA11.size; clear hb11)
        | (have hh := hva11; go_at_call 18; refine (cc1 _ _ _ hva11 hvc11).mono ?_; rintro r w10 ⟨rfl, rfl⟩)
        | (go_at_call 18; refine (cc1 _ _ _ hva9 hvc).mono ?_; rintro r w10 ⟨rfl, rfl⟩)
        | (go_at_call 16; refine (c16 _).mono ?_; rintro r w7 ⟨vp, vb, rfl, hvp, hvb, hb7⟩; have hvn7 := hvn6.next hb7; have hvd7 := hvd6.next hb7; obtain ⟨hc7, hf7⟩ := bcell hb7; have hz7_0 : w.heap.size < w7.heap.size := lt_below hb7 ltg; have hl7_0 := Nat.le_of_lt hz7_0; have hz7_1 : w2.heap.size < w7.heap.size := lt_below hb7 ltg; have hl7_1 := Nat.le_of_lt hz7_1; have hA7 := bnext (w0 := w) bgo hb7; have hs7 := hA7.size; clear hb7)
        | (have hh := hva; go_at_call 17; refine (ct2 _ _ _ hvp8 hvd8).mono ?_; rintro r w9 ⟨vc, rfl, hvc, hb9⟩; have hva9 := hva.next hb9; have hvd9 := hvd8.next hb9; have hvb9 := hvb8.next hb9; obtain ⟨hc9, hf9⟩ := bcell hb9; have hz9_0 : w.heap.size < w9.heap.size := lt_below hb9 ltg; have hl9_0 := Nat.le_of_lt hz9_0; have hz9_1 : w2.heap.size < w9.heap.size := lt_below hb9 ltg; have hl9_1 := Nat.le_of_lt hz9_1; have hA9 := bnext (w0 := w) bgo hb9; have hs9 := hA9.size; clear hb9)
        | (go_at_call 17; refine (ct1 _ _ _ hvn7 hvb).mono ?_; rintro r w8 ⟨va, rfl, hva, hb8⟩; have hvp8 := hvp.next hb8; have hvd8 := hvd7.next hb8; have hvb8 := hvb.next hb8; obtain ⟨hc8, hf8⟩ := bcell hb8; have hz8_0 : w.heap.size < w8.heap.size := lt_below hb8 ltg; have hl8_0 := Nat.le_of_lt hz8_0; have hz8_1 : w2.heap.size < w8.heap.size := lt_below hb8 ltg; have hl8_1 := Nat.le_of_lt hz8_1; have hA8 := bnext (w0 := w) bgo hb8; have hs8 := hA8.size; clear hb8))
      go_ret
      exact ⟨rfl, bgo⟩
end
end Go.Proofs.YtogfiipmebgnjaaGreatDoor
