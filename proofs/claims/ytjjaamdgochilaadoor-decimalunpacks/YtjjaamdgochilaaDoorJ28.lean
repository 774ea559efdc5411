/-
  Texts that the proof leans on, joined: Ze, Vh.
-/
import Derived.Test.YtjjaamdgochilaaDoorJ27
import Derived.Test.YtjjaamdgochilaaDoorJ15
import Derived.Test.YtjjaamdgochilaaDoorJ1
import Derived.Test.YtjjaamdgochilaaDoorJ21
set_option linter.unusedVariables false
set_option linter.unusedSectionVars false
set_option linter.unusedSimpArgs false
set_option maxRecDepth 20000
namespace Go.Proofs.YtjjaamdgochilaaDoor
open Go.RowKit
theorem bcelln {n : Nat} {W w1 : World} (hb : Below n W w1) : (∀ b o, b < n → w1.cell? ⟨b, o, none⟩ = W.cell? ⟨b, o, none⟩) ∧ (∀ b o, b < n → w1.frozen? ⟨b, o, none⟩ = W.frozen? ⟨b, o, none⟩) :=
  ⟨fun b o h => hb.cell (p := ⟨b, o, none⟩) h, fun b o h => hb.frozen (p := ⟨b, o, none⟩) h⟩
theorem below_put {n g X : Nat} {a W : World} (h : Below n a W) (hg : n ≤ g) : Below n a (put4C W g X) :=
  (((h.setCell hg _).setCell hg _).setCell hg _).setCell hg _
attribute [local irreducible] W4
attribute [local go_sem ↓] ld18_eq
attribute [local go_sem] ld18_got
section
variable (dn : Bool) (g t bl : Int) (wo co pa : Nat) (le mo : Int) (w : World) (x : Int) (s q : Bool) (k J : Nat) (G : Int)
set_option maxHeartbeats 1000000 in
theorem dfin_s : Calls Tryd.prog 44 #[LD dn g t bl wo co pa le mo, DV 1 s true x k] w fun r w' => r = .returned (.tuple #[A4 0, .int .i64 3]) ∧ Below w.heap.size w w' := by
  have hsm := cell_set_map
  rw [Z4_eq]
  go_enter Tryd.func44, Tryd.ntmps44
  go_wp2
  exact bodyPost_ret (by simp only [results, Tryd.results44]; go_simp) rfl ⟨rfl, bgo⟩
set_option maxHeartbeats 1000000 in
theorem dfin_l (h : x < le) : Calls Tryd.prog 44 #[LD dn g t bl wo co pa le mo, DV 1 s false x k] w fun r w' => r = .returned (.tuple #[A4 0, .int .i64 3]) ∧ Below w.heap.size w w' := by
  have hsm := cell_set_map
  rw [Z4_eq]
  go_enter Tryd.func44, Tryd.ntmps44
  go_wp2
  exact bodyPost_ret (by simp only [results, Tryd.results44]; go_simp) rfl ⟨rfl, bgo⟩
set_option maxHeartbeats 1000000 in
theorem dfin_m (h1 : ¬ x < le) (h2 : mo < x) : Calls Tryd.prog 44 #[LD dn g t bl wo co pa le mo, DV 1 s false x k] w fun r w' => r = .returned (.tuple #[A4 0, .int .i64 3]) ∧ Below w.heap.size w w' := by
  have hsm := cell_set_map
  rw [Z4_eq]
  go_enter Tryd.func44, Tryd.ntmps44
  go_wp2
  exact bodyPost_ret (by simp only [results, Tryd.results44]; go_simp) rfl ⟨rfl, bgo⟩
variable (Q : Int) (cc : ∀ W, Calls Tryd.prog 70 #[A4 k, A4 co] W fun r w' => r = .returned (.int .i64 Q) ∧ Below W.heap.size W w') (h1 : ¬ x < le) (h2 : ¬ mo < x)
include cc h1 h2
set_option maxHeartbeats 1000000 in
theorem dfin_k (hQ : 0 ≤ Q) : Calls Tryd.prog 44 #[LD dn g t bl wo co pa le mo, DV 1 s false x k] w fun r w' => r = .returned (.tuple #[A4 0, .int .i64 3]) ∧ Below w.heap.size w w' := by
  have hsm := cell_set_map
  rw [Z4_eq]
  go_enter Tryd.func44, Tryd.ntmps44
  go_wp2_with (go_at_call 70; refine (cc _).mono ?_; rintro r w1 ⟨rfl, hb1⟩; obtain ⟨hc1, hf1⟩ := bcell hb1; have hz1_0 : w.heap.size < w1.heap.size := lt_below hb1 ltg; have hl1_0 := Nat.le_of_lt hz1_0; have hz1_1 : w.heap.size + 1 < w1.heap.size := lt_below hb1 ltg; have hl1_1 := Nat.le_of_lt hz1_1; have hz1_2 : w.heap.size + 1 + 1 < w1.heap.size := lt_below hb1 ltg; have hl1_2 := Nat.le_of_lt hz1_2; have hz1_3 : w.heap.size + 1 + 1 + 1 < w1.heap.size := lt_below hb1 ltg; have hl1_3 := Nat.le_of_lt hz1_3; have hA1 := bnext (w0 := w) bgo hb1; have hs1 := hA1.size; clear hb1)
  exact bodyPost_ret (by simp only [results, Tryd.results44]; go_simp) rfl ⟨rfl, bgo⟩
set_option maxHeartbeats 4000000 in
theorem dfin_y (hQ : ¬ 0 ≤ Q) (m : Nat) (hm : m ≤ 100) (R : Nat → Nat) (qc cr : Nat → Int) (hR : R 0 = k) (T : Nat) (hl0 : -1000000 ≤ le) (hl1 : le ≤ 1000000) (hx1 : x ≤ 1000000) (gl : Int)
    (cq : Hid (∀ i, i ≤ m → ∀ W, Calls Tryd.prog 70 #[A4 (R i), A4 wo] W fun r w' => r = .returned (.int .i64 (qc i)) ∧ Below W.heap.size W w'))
    (hq1 : Hid (∀ i, i < m → 0 ≤ qc i)) (hq2 : Hid (¬ 0 ≤ qc m))
    (cu : Hid (∀ i, i < m → ∀ W, Calls Tryd.prog 67 #[A4 (R i), A4 wo] W fun r w' => r = .returned (.tuple #[A4 (R (i + 1)), .int .u64 (cr i)]) ∧ Below W.heap.size W w'))
    (cn : ∀ W, Calls Tryd.prog 75 #[LD dn g t bl wo co pa le mo, .int .u64 (x - le), .int .u64 (m : Int)] W fun r w' => r = .returned (.int .u64 gl) ∧ Below W.heap.size W w')
    (cw : ∀ W, Calls Tryd.prog 76 #[LD dn g t bl wo co pa le mo, A4 (R m)] W fun r w' => r = .returned (A4 T) ∧ Below W.heap.size W w')
    (cj : ∀ W, Calls Tryd.prog 74 #[LD dn g t bl wo co pa le mo, .bool s, .int .u64 gl, A4 T] W fun r w' => r = .returned (A4 J) ∧ Below W.heap.size W w') :
    Calls Tryd.prog 44 #[LD dn g t bl wo co pa le mo, DV 1 s false x k] w fun r w' => r = .returned (.tuple #[A4 J, .int .i64 0]) ∧ Below w.heap.size w w' := by
  have hsm := cell_set_map
  have hxl0 : 0 ≤ x - le := by omega
  have hxl1 : x - le ≤ 2000000 := by omega
  go_enter Tryd.func44, Tryd.ntmps44
  go_wp2_with (go_at_call 70; refine (cc _).mono ?_; rintro r w1 ⟨rfl, hb1⟩; clear cc; obtain ⟨hc1, hf1⟩ := bcell hb1; have hz1_0 : w.heap.size < w1.heap.size := lt_below hb1 ltg; have hl1_0 := Nat.le_of_lt hz1_0; have hz1_1 : w.heap.size + 1 < w1.heap.size := lt_below hb1 ltg; have hl1_1 := Nat.le_of_lt hz1_1; have hz1_2 : w.heap.size + 1 + 1 < w1.heap.size := lt_below hb1 ltg; have hl1_2 := Nat.le_of_lt hz1_2; have hz1_3 : w.heap.size + 1 + 1 + 1 < w1.heap.size := lt_below hb1 ltg; have hl1_3 := Nat.le_of_lt hz1_3; have hA1 := bnext (w0 := w) bgo hb1; have hs1 := hA1.size; clear hb1)
  go_loopw [7, 34, 35, 36, 37, 38, 39, 40, 41, 42, 43, 44, 45, 46, 47] (fun t _ _ _ _ _ _ _ _ _ _ _ _ _ _ wr => ∃ (i : Nat), i ≤ m ∧ t = .int .u64 (i : Int) ∧ C4 (w.heap.size + 1 + 1 + 1) (R i) wr ∧ Below (w.heap.size + 1 + 1 + 1) w1 wr ∧ Below w.heap.size w wr) (fun t _ _ _ _ _ _ _ _ _ _ _ _ _ _ _ => m - (intOf t).toNat)
  case atStart =>
    refine ⟨0, Nat.zero_le _, rfl, ?_, Below.refl _ _, bgo⟩
    rw [hR]; refine ⟨by omega, ?_, ?_, ?_, ?_, ?_, ?_, ?_, ?_⟩ <;> go_simp
  case round =>
    obtain ⟨i, hi, rfl, h3, hbw, hbx⟩ := hrel
    have hl3 := h3.lt
    have hl2 : w.heap.size + 1 + 1 < wr.heap.size := by omega
    have hl1 : w.heap.size + 1 < wr.heap.size := by omega
    have hl0 : w.heap.size < wr.heap.size := by omega
    have z0 : w.heap.size < w.heap.size + 1 + 1 + 1 := by omega
    have z1 : w.heap.size + 1 < w.heap.size + 1 + 1 + 1 := by omega
    have z2 : w.heap.size + 1 + 1 < w.heap.size + 1 + 1 + 1 := by omega
    obtain ⟨hcw, hfw⟩ := bcelln hbw
    obtain ⟨_, o0, o1, o2, o3, g0, g1, g2, g3⟩ := id h3
    have dq := cq.out i hi
    by_cases hic : i < m
    · have du := cu.out i hic
      have hq := hq1.out i hic
      have hi0 : (0 : Int) ≤ (i : Int) := by omega
      have hi1 : (i : Int) ≤ 100 := by omega
      generalize R i = Ri at *
      generalize qc i = Qi at *
      go_wp2_with (first
        | (go_at_call 70; refine (dq _).mono ?_; rintro r w2 ⟨rfl, hb2⟩; have hn3 := h3.next hb2; have hbw2 := hbw.trans (hb2.mono (by omega)); obtain ⟨hc2, hf2⟩ := bcell hb2; have hz2_0 : w.heap.size < w2.heap.size := lt_below hb2 ltg; have hl2_0 := Nat.le_of_lt hz2_0; have hz2_1 : w.heap.size + 1 < w2.heap.size := lt_below hb2 ltg; have hl2_1 := Nat.le_of_lt hz2_1; have hz2_2 : w.heap.size + 1 + 1 < w2.heap.size := lt_below hb2 ltg; have hl2_2 := Nat.le_of_lt hz2_2; have hz2_3 : w.heap.size + 1 + 1 + 1 < w2.heap.size := lt_below hb2 ltg; have hl2_3 := Nat.le_of_lt hz2_3; have hA2 := bnext (w0 := w) bgo hb2; have hs2 := hA2.size; clear hb2)
        | (go_at_call 67; refine (du _).mono ?_; rintro r w3 ⟨rfl, hb3⟩; have hm3 := hn3.next hb3; have hbw3 := hbw2.trans (hb3.mono (by omega)); obtain ⟨hc3, hf3⟩ := bcell hb3; have hz3_0 : w.heap.size < w3.heap.size := lt_below hb3 ltg; have hl3_0 := Nat.le_of_lt hz3_0; have hz3_1 : w.heap.size + 1 < w3.heap.size := lt_below hb3 ltg; have hl3_1 := Nat.le_of_lt hz3_1; have hz3_2 : w.heap.size + 1 + 1 < w3.heap.size := lt_below hb3 ltg; have hl3_2 := Nat.le_of_lt hz3_2; have hz3_3 : w.heap.size + 1 + 1 + 1 < w3.heap.size := lt_below hb3 ltg; have hl3_3 := Nat.le_of_lt hz3_3; have hA3 := bnext (w0 := w) bgo hb3; have hs3 := hA3.size; clear hb3))
      go_roundw
      case rel => exact ⟨i + 1, by omega, by go_num, hm3.put, below_put hbw3 (by omega), bgo⟩
      case measure => simp [intOf]; omega
    · obtain rfl : i = m := by omega
      have hq := hq2.out
      clear cq cu hq1 hq2
      generalize R i = Ri at *
      generalize qc i = Qi at *
      generalize (i : Int) = mi at *
      go_wp2_with (go_at_call 70; refine (dq _).mono ?_; rintro r w2 ⟨rfl, hb2⟩; clear dq; obtain ⟨hc2, hf2⟩ := bcell hb2; have hz2_0 : w.heap.size < w2.heap.size := lt_below hb2 ltg; have hl2_0 := Nat.le_of_lt hz2_0; have hz2_1 : w.heap.size + 1 < w2.heap.size := lt_below hb2 ltg; have hl2_1 := Nat.le_of_lt hz2_1; have hz2_2 : w.heap.size + 1 + 1 < w2.heap.size := lt_below hb2 ltg; have hl2_2 := Nat.le_of_lt hz2_2; have hz2_3 : w.heap.size + 1 + 1 + 1 < w2.heap.size := lt_below hb2 ltg; have hl2_3 := Nat.le_of_lt hz2_3; have hA2 := bnext (w0 := w) bgo hb2; have hs2 := hA2.size; clear hb2)
      refine wp_tail 16 (by kernel_rfl) (by kernel_rfl) (by kernel_rfl) (fun _ _ d _ _ h => by cases d <;> exact h) fun hne hcell => ?_
      simp only [List.take_succ_cons, List.take_zero, List.drop_succ_cons, List.drop_zero]
      repeat go_big_quiet_step (fail)
      go_big_quiet_step ((go_at_call 75; exact calls_wd _ bk_next (cn _)))
      repeat go_big_quiet_step (fail)
      go_big_quiet_step ((go_at_call 76; exact calls_wd _ bk_next (cw _)))
      repeat go_big_quiet_step (fail)
      go_big_quiet_step ((go_at_call 74; exact calls_wd _ bk_next (cj _)))
      repeat go_big_quiet_step (fail)
      refine wpQuiet_nil fun w3 hb3 => ?_
      obtain ⟨hc3, hf3⟩ := bcell hb3; have hz3_0 : w.heap.size < w3.heap.size := lt_below hb3 ltg; have hl3_0 := Nat.le_of_lt hz3_0; have hz3_1 : w.heap.size + 1 < w3.heap.size := lt_below hb3 ltg; have hl3_1 := Nat.le_of_lt hz3_1; have hz3_2 : w.heap.size + 1 + 1 < w3.heap.size := lt_below hb3 ltg; have hl3_2 := Nat.le_of_lt hz3_2; have hz3_3 : w.heap.size + 1 + 1 + 1 < w3.heap.size := lt_below hb3 ltg; have hl3_3 := Nat.le_of_lt hz3_3; have hA3 := bnext (w0 := w) bgo hb3; have hs3 := hA3.size; clear hb3
      go_wp2
      exact bodyPost_ret (v := .tuple #[A4 J, .int .i64 0]) (by simp only [results, Tryd.results44]; go_simp) rfl ⟨rfl, bgo⟩
end
end Go.Proofs.YtjjaamdgochilaaDoor

namespace Go.Proofs.YtjjaamdgochilaaDoor
open Go.RowKit
attribute [local irreducible] W4 NT NV
section
variable (n : Int) (nm : ByteArray) (wd pr ex le mo pa : Int) (G T J : Int) (Bb A Rr sN : Nat) (V : Int) (s : Bool) (wn : Nat) (w : World)
  (hG0 : 11 ≤ G) (hG1 : G ≤ 100) (hT0 : 0 ≤ T) (hT1 : T ≤ 200) (hJ0 : 0 ≤ J) (hJ1 : J ≤ 11) (hAb : (A : Int) ≤ 200000)
  (cF1 : ∀ W, Calls Tryd.prog 34 #[A4 Bb, .int .i64 T, .int .i64 G] W fun r w' => ∃ v, r = .returned v ∧ NT 19 A v w' ∧ Below W.heap.size W w')
  (cF2 : ∀ W, Calls Tryd.prog 34 #[A4 Bb, .int .i64 0, .int .i64 T] W fun r w' => ∃ v, r = .returned v ∧ NT 19 Rr v w' ∧ Below W.heap.size W w')
  (cF3 : ∀ W, Calls Tryd.prog 34 #[A4 Bb, .int .i64 (T + G), .int .i64 1] W fun r w' => ∃ v, r = .returned v ∧ NT 19 sN v w' ∧ Below W.heap.size W w')
  (cM1 : ∀ W v, NT 19 A v W → Calls Tryd.prog 32 #[v] W fun r w' => r = .returned (.int .i64 (A : Int)) ∧ W = w')
  (cM3 : ∀ W v, NT 19 sN v W → Calls Tryd.prog 32 #[v] W fun r w' => r = .returned (.int .i64 (sN : Int)) ∧ W = w')
  (cB2 : ∀ W v, NT 19 Rr v W → Calls Tryd.prog 31 #[v] W fun r w' => r = .returned (A4 Rr) ∧ Below W.heap.size W w')
  (hw : G - 5 = (wn : Int)) (hwn : wn ≤ 12) (hV : (A : Int) / 2 ^ wn = V) (hV0 : 0 ≤ V) (hV1 : V ≤ 31) (hsg : ((sN : Int) == 1) = s)
include hG0 hG1 hT0 hT1 hJ0 hJ1 hAb cF1 cF2 cF3 cM1 cM3 cB2 hw hwn hV hV0 hV1 hsg
set_option maxHeartbeats 4000000 in
theorem vmn_i (dn : Bool)
    (cO : ∀ W, Calls Tryd.prog 23 #[.int .i64 n] W fun r w' => r = .returned (.tuple #[IDec n nm wd pr ex le mo pa dn, .int .i64 0]) ∧ Below W.heap.size W w')
    (cS : ∀ W, Calls Tryd.prog 25 #[IDec n nm wd pr ex le mo pa dn] W fun r w' => r = .returned (.tuple #[.int .i64 G, .int .i64 T, .int .i64 J]) ∧ Below W.heap.size W w')
    (h30 : (V == 30) = true) :
    Calls Tryd.prog 20 #[.int .i64 n, A4 Bb] w fun r w' => r = .returned (.agg #[.int .i64 2, .bool s, .bool false, .int .i64 0, .int .u64 0, .int .u64 0, .int .u64 0, .int .u64 0]) ∧ Below w.heap.size w w' := by
  have hsm := cell_set_map
  unfold DV A4 at *
  go_enter Tryd.func20, Tryd.ntmps20
  go_wp2_with (first
    | (go_at_call 23; refine (cO _).mono ?_; rintro r w1 ⟨rfl, hb1⟩; obtain ⟨hc1, hf1⟩ := bcell hb1; have hz1_0 : w.heap.size < w1.heap.size := lt_below hb1 ltg; have hl1_0 := Nat.le_of_lt hz1_0; have hz1_1 : w.heap.size + 1 < w1.heap.size := lt_below hb1 ltg; have hl1_1 := Nat.le_of_lt hz1_1; have hA1 := bnext (w0 := w) bgo hb1; have hs1 := hA1.size; clear hb1)
    | (go_at_call 25; refine (cS _).mono ?_; rintro r w2 ⟨rfl, hb2⟩; obtain ⟨hc2, hf2⟩ := bcell hb2; have hz2_0 : w.heap.size < w2.heap.size := lt_below hb2 ltg; have hl2_0 := Nat.le_of_lt hz2_0; have hz2_1 : w.heap.size + 1 < w2.heap.size := lt_below hb2 ltg; have hl2_1 := Nat.le_of_lt hz2_1; have hz2_2 : w1.heap.size < w2.heap.size := lt_below hb2 ltg; have hl2_2 := Nat.le_of_lt hz2_2; have hA2 := bnext (w0 := w) bgo hb2; have hs2 := hA2.size; clear hb2)
    | (go_at_call 34; refine (cF1 _).mono ?_; rintro r w3 ⟨vA, rfl, uA, hb3⟩; clear cF1; obtain ⟨hc3, hf3⟩ := bcell hb3; have hz3_0 : w.heap.size < w3.heap.size := lt_below hb3 ltg; have hl3_0 := Nat.le_of_lt hz3_0; have hz3_1 : w.heap.size + 1 < w3.heap.size := lt_below hb3 ltg; have hl3_1 := Nat.le_of_lt hz3_1; have hz3_2 : w1.heap.size < w3.heap.size := lt_below hb3 ltg; have hl3_2 := Nat.le_of_lt hz3_2; have hA3 := bnext (w0 := w) bgo hb3; have hs3 := hA3.size; clear hb3)
    | (go_at_call 32; refine (cM1 _ _ uA).mono ?_; rintro r w0 ⟨rfl, rfl⟩; clear cM1 uA)
    | (go_at_call 34; refine (cF2 _).mono ?_; rintro r w4 ⟨vR, rfl, uR, hb4⟩; clear cF2; obtain ⟨hc4, hf4⟩ := bcell hb4; have hz4_0 : w.heap.size < w4.heap.size := lt_below hb4 ltg; have hl4_0 := Nat.le_of_lt hz4_0; have hz4_1 : w.heap.size + 1 < w4.heap.size := lt_below hb4 ltg; have hl4_1 := Nat.le_of_lt hz4_1; have hz4_2 : w1.heap.size < w4.heap.size := lt_below hb4 ltg; have hl4_2 := Nat.le_of_lt hz4_2; have hA4 := bnext (w0 := w) bgo hb4; have hs4 := hA4.size; clear hb4)
    | (go_at_call 31; refine (cB2 _ _ uR).mono ?_; rintro r w5 ⟨rfl, hb5⟩; clear cB2 uR; obtain ⟨hc5, hf5⟩ := bcell hb5; have hz5_0 : w.heap.size < w5.heap.size := lt_below hb5 ltg; have hl5_0 := Nat.le_of_lt hz5_0; have hz5_1 : w.heap.size + 1 < w5.heap.size := lt_below hb5 ltg; have hl5_1 := Nat.le_of_lt hz5_1; have hz5_2 : w1.heap.size < w5.heap.size := lt_below hb5 ltg; have hl5_2 := Nat.le_of_lt hz5_2; have hA5 := bnext (w0 := w) bgo hb5; have hs5 := hA5.size; clear hb5)
    | (go_at_call 34; refine (cF3 _).mono ?_; rintro r w6 ⟨vS, rfl, uS, hb6⟩; clear cF3; obtain ⟨hc6, hf6⟩ := bcell hb6; have hz6_0 : w.heap.size < w6.heap.size := lt_below hb6 ltg; have hl6_0 := Nat.le_of_lt hz6_0; have hz6_1 : w.heap.size + 1 < w6.heap.size := lt_below hb6 ltg; have hl6_1 := Nat.le_of_lt hz6_1; have hz6_2 : w1.heap.size < w6.heap.size := lt_below hb6 ltg; have hl6_2 := Nat.le_of_lt hz6_2; have hz6_3 : w5.heap.size < w6.heap.size := lt_below hb6 ltg; have hl6_3 := Nat.le_of_lt hz6_3; have hA6 := bnext (w0 := w) bgo hb6; have hs6 := hA6.size; clear hb6)
    | (go_at_call 32; refine (cM3 _ _ uS).mono ?_; rintro r w0 ⟨rfl, rfl⟩; clear cM3 uS))
  exact bodyPost_ret (by simp only [results, Tryd.results20]; go_simp) rfl ⟨rfl, bgo⟩
set_option maxHeartbeats 4000000 in
theorem vmn_nty (wm : Nat) (g : Bool) (U : Nat)
    (cO : ∀ W, Calls Tryd.prog 23 #[.int .i64 n] W fun r w' => r = .returned (.tuple #[IDec n nm wd pr ex le mo pa true, .int .i64 0]) ∧ Below W.heap.size W w')
    (cS : ∀ W, Calls Tryd.prog 25 #[IDec n nm wd pr ex le mo pa true] W fun r w' => r = .returned (.tuple #[.int .i64 G, .int .i64 T, .int .i64 J]) ∧ Below W.heap.size W w')
    (h30 : (V == 30) = false) (h31 : (V == 31) = true) (hw6 : G - 6 = (wm : Int)) (hwm : wm ≤ 12) (hgg : (bits .and .u64 ((A : Int) / 2 ^ wm) 1 == 1) = g)
    (cU : ∀ W, Calls Tryd.prog 48 #[A4 Rr, .int .i64 J] W fun r w' => r = .returned (.tuple #[A4 U, .int .i64 0]) ∧ Below W.heap.size W w')
    (cW : ∀ W, Calls Tryd.prog 49 #[A4 U, .int .i64 10, .int .i64 pa] W fun r w' => r = .returned (.bool true) ∧ Below W.heap.size W w') :
    Calls Tryd.prog 20 #[.int .i64 n, A4 Bb] w fun r w' => r = .returned (DV 3 s g 0 U) ∧ Below w.heap.size w w' := by
  have hsm := cell_set_map
  unfold DV A4 at *
  go_enter Tryd.func20, Tryd.ntmps20
  go_wp2_with (first
    | (go_at_call 23; refine (cO _).mono ?_; rintro r w1 ⟨rfl, hb1⟩; obtain ⟨hc1, hf1⟩ := bcell hb1; have hz1_0 : w.heap.size < w1.heap.size := lt_below hb1 ltg; have hl1_0 := Nat.le_of_lt hz1_0; have hz1_1 : w.heap.size + 1 < w1.heap.size := lt_below hb1 ltg; have hl1_1 := Nat.le_of_lt hz1_1; have hA1 := bnext (w0 := w) bgo hb1; have hs1 := hA1.size; clear hb1)
    | (go_at_call 25; refine (cS _).mono ?_; rintro r w2 ⟨rfl, hb2⟩; obtain ⟨hc2, hf2⟩ := bcell hb2; have hz2_0 : w.heap.size < w2.heap.size := lt_below hb2 ltg; have hl2_0 := Nat.le_of_lt hz2_0; have hz2_1 : w.heap.size + 1 < w2.heap.size := lt_below hb2 ltg; have hl2_1 := Nat.le_of_lt hz2_1; have hz2_2 : w1.heap.size < w2.heap.size := lt_below hb2 ltg; have hl2_2 := Nat.le_of_lt hz2_2; have hA2 := bnext (w0 := w) bgo hb2; have hs2 := hA2.size; clear hb2)
    | (go_at_call 34; refine (cF1 _).mono ?_; rintro r w3 ⟨vA, rfl, uA, hb3⟩; clear cF1; obtain ⟨hc3, hf3⟩ := bcell hb3; have hz3_0 : w.heap.size < w3.heap.size := lt_below hb3 ltg; have hl3_0 := Nat.le_of_lt hz3_0; have hz3_1 : w.heap.size + 1 < w3.heap.size := lt_below hb3 ltg; have hl3_1 := Nat.le_of_lt hz3_1; have hz3_2 : w1.heap.size < w3.heap.size := lt_below hb3 ltg; have hl3_2 := Nat.le_of_lt hz3_2; have hA3 := bnext (w0 := w) bgo hb3; have hs3 := hA3.size; clear hb3)
    | (go_at_call 32; refine (cM1 _ _ uA).mono ?_; rintro r w0 ⟨rfl, rfl⟩; clear cM1 uA)
    | (go_at_call 34; refine (cF2 _).mono ?_; rintro r w4 ⟨vR, rfl, uR, hb4⟩; clear cF2; obtain ⟨hc4, hf4⟩ := bcell hb4; have hz4_0 : w.heap.size < w4.heap.size := lt_below hb4 ltg; have hl4_0 := Nat.le_of_lt hz4_0; have hz4_1 : w.heap.size + 1 < w4.heap.size := lt_below hb4 ltg; have hl4_1 := Nat.le_of_lt hz4_1; have hz4_2 : w1.heap.size < w4.heap.size := lt_below hb4 ltg; have hl4_2 := Nat.le_of_lt hz4_2; have hA4 := bnext (w0 := w) bgo hb4; have hs4 := hA4.size; clear hb4)
    | (go_at_call 31; refine (cB2 _ _ uR).mono ?_; rintro r w5 ⟨rfl, hb5⟩; clear cB2 uR; obtain ⟨hc5, hf5⟩ := bcell hb5; have hz5_0 : w.heap.size < w5.heap.size := lt_below hb5 ltg; have hl5_0 := Nat.le_of_lt hz5_0; have hz5_1 : w.heap.size + 1 < w5.heap.size := lt_below hb5 ltg; have hl5_1 := Nat.le_of_lt hz5_1; have hz5_2 : w1.heap.size < w5.heap.size := lt_below hb5 ltg; have hl5_2 := Nat.le_of_lt hz5_2; have hA5 := bnext (w0 := w) bgo hb5; have hs5 := hA5.size; clear hb5)
    | (go_at_call 34; refine (cF3 _).mono ?_; rintro r w6 ⟨vS, rfl, uS, hb6⟩; clear cF3; obtain ⟨hc6, hf6⟩ := bcell hb6; have hz6_0 : w.heap.size < w6.heap.size := lt_below hb6 ltg; have hl6_0 := Nat.le_of_lt hz6_0; have hz6_1 : w.heap.size + 1 < w6.heap.size := lt_below hb6 ltg; have hl6_1 := Nat.le_of_lt hz6_1; have hz6_2 : w1.heap.size < w6.heap.size := lt_below hb6 ltg; have hl6_2 := Nat.le_of_lt hz6_2; have hz6_3 : w5.heap.size < w6.heap.size := lt_below hb6 ltg; have hl6_3 := Nat.le_of_lt hz6_3; have hA6 := bnext (w0 := w) bgo hb6; have hs6 := hA6.size; clear hb6; have q62_0 : w.heap.size < w6.heap.size + 1 + 1 := (by omega); have q62_1 : w.heap.size + 1 < w6.heap.size + 1 + 1 := (by omega); have q62_2 : w1.heap.size < w6.heap.size + 1 + 1 := (by omega); have q62_3 : w5.heap.size < w6.heap.size + 1 + 1 := (by omega); have q62_4 : w6.heap.size < w6.heap.size + 1 + 1 := (by omega); have q62_5 : w6.heap.size + 1 < w6.heap.size + 1 + 1 := (by omega))
    | (go_at_call 32; refine (cM3 _ _ uS).mono ?_; rintro r w0 ⟨rfl, rfl⟩; clear cM3 uS)
    | (go_at_call 48; refine (cU _).mono ?_; rintro r w7 ⟨rfl, hb7⟩; obtain ⟨hc7, hf7⟩ := bcell hb7; have hz7_0 : w.heap.size < w7.heap.size := lt_below hb7 ltg; have hl7_0 := Nat.le_of_lt hz7_0; have hz7_1 : w.heap.size + 1 < w7.heap.size := lt_below hb7 ltg; have hl7_1 := Nat.le_of_lt hz7_1; have hz7_2 : w1.heap.size < w7.heap.size := lt_below hb7 ltg; have hl7_2 := Nat.le_of_lt hz7_2; have hz7_3 : w5.heap.size < w7.heap.size := lt_below hb7 ltg; have hl7_3 := Nat.le_of_lt hz7_3; have hz7_4 : w6.heap.size < w7.heap.size := lt_below hb7 ltg; have hl7_4 := Nat.le_of_lt hz7_4; have hz7_5 : w6.heap.size + 1 < w7.heap.size := lt_below hb7 ltg; have hl7_5 := Nat.le_of_lt hz7_5; have hA7 := bnext (w0 := w) bgo hb7; have hs7 := hA7.size; clear hb7)
    | (go_at_call 49; refine (cW _).mono ?_; rintro r w8 ⟨rfl, hb8⟩; obtain ⟨hc8, hf8⟩ := bcell hb8; have hz8_0 : w.heap.size < w8.heap.size := lt_below hb8 ltg; have hl8_0 := Nat.le_of_lt hz8_0; have hz8_1 : w.heap.size + 1 < w8.heap.size := lt_below hb8 ltg; have hl8_1 := Nat.le_of_lt hz8_1; have hz8_2 : w1.heap.size < w8.heap.size := lt_below hb8 ltg; have hl8_2 := Nat.le_of_lt hz8_2; have hz8_3 : w5.heap.size < w8.heap.size := lt_below hb8 ltg; have hl8_3 := Nat.le_of_lt hz8_3; have hz8_4 : w6.heap.size < w8.heap.size := lt_below hb8 ltg; have hl8_4 := Nat.le_of_lt hz8_4; have hz8_5 : w6.heap.size + 1 < w8.heap.size := lt_below hb8 ltg; have hl8_5 := Nat.le_of_lt hz8_5; have hA8 := bnext (w0 := w) bgo hb8; have hs8 := hA8.size; clear hb8))
  exact bodyPost_ret (by simp only [results, Tryd.results20]; go_simp) rfl ⟨rfl, bgo⟩
set_option maxHeartbeats 4000000 in
theorem vmn_nfy (wm : Nat) (g : Bool)
    (cO : ∀ W, Calls Tryd.prog 23 #[.int .i64 n] W fun r w' => r = .returned (.tuple #[IDec n nm wd pr ex le mo pa false, .int .i64 0]) ∧ Below W.heap.size W w')
    (cS : ∀ W, Calls Tryd.prog 25 #[IDec n nm wd pr ex le mo pa false] W fun r w' => r = .returned (.tuple #[.int .i64 G, .int .i64 T, .int .i64 J]) ∧ Below W.heap.size W w')
    (h30 : (V == 30) = false) (h31 : (V == 31) = true) (hw6 : G - 6 = (wm : Int)) (hwm : wm ≤ 12) (hgg : (bits .and .u64 ((A : Int) / 2 ^ wm) 1 == 1) = g)
    (cW : ∀ W, Calls Tryd.prog 49 #[A4 Rr, .int .i64 10, .int .i64 pa] W fun r w' => r = .returned (.bool true) ∧ Below W.heap.size W w') :
    Calls Tryd.prog 20 #[.int .i64 n, A4 Bb] w fun r w' => r = .returned (DV 3 s g 0 Rr) ∧ Below w.heap.size w w' := by
  have hsm := cell_set_map
  unfold DV A4 at *
  go_enter Tryd.func20, Tryd.ntmps20
  go_wp2_with (first
    | (go_at_call 23; refine (cO _).mono ?_; rintro r w1 ⟨rfl, hb1⟩; obtain ⟨hc1, hf1⟩ := bcell hb1; have hz1_0 : w.heap.size < w1.heap.size := lt_below hb1 ltg; have hl1_0 := Nat.le_of_lt hz1_0; have hz1_1 : w.heap.size + 1 < w1.heap.size := lt_below hb1 ltg; have hl1_1 := Nat.le_of_lt hz1_1; have hA1 := bnext (w0 := w) bgo hb1; have hs1 := hA1.size; clear hb1)
    | (go_at_call 25; refine (cS _).mono ?_; rintro r w2 ⟨rfl, hb2⟩; obtain ⟨hc2, hf2⟩ := bcell hb2; have hz2_0 : w.heap.size < w2.heap.size := lt_below hb2 ltg; have hl2_0 := Nat.le_of_lt hz2_0; have hz2_1 : w.heap.size + 1 < w2.heap.size := lt_below hb2 ltg; have hl2_1 := Nat.le_of_lt hz2_1; have hz2_2 : w1.heap.size < w2.heap.size := lt_below hb2 ltg; have hl2_2 := Nat.le_of_lt hz2_2; have hA2 := bnext (w0 := w) bgo hb2; have hs2 := hA2.size; clear hb2)
    | (go_at_call 34; refine (cF1 _).mono ?_; rintro r w3 ⟨vA, rfl, uA, hb3⟩; clear cF1; obtain ⟨hc3, hf3⟩ := bcell hb3; have hz3_0 : w.heap.size < w3.heap.size := lt_below hb3 ltg; have hl3_0 := Nat.le_of_lt hz3_0; have hz3_1 : w.heap.size + 1 < w3.heap.size := lt_below hb3 ltg; have hl3_1 := Nat.le_of_lt hz3_1; have hz3_2 : w1.heap.size < w3.heap.size := lt_below hb3 ltg; have hl3_2 := Nat.le_of_lt hz3_2; have hA3 := bnext (w0 := w) bgo hb3; have hs3 := hA3.size; clear hb3)
    | (go_at_call 32; refine (cM1 _ _ uA).mono ?_; rintro r w0 ⟨rfl, rfl⟩; clear cM1 uA)
    | (go_at_call 34; refine (cF2 _).mono ?_; rintro r w4 ⟨vR, rfl, uR, hb4⟩; clear cF2; obtain ⟨hc4, hf4⟩ := bcell hb4; have hz4_0 : w.heap.size < w4.heap.size := lt_below hb4 ltg; have hl4_0 := Nat.le_of_lt hz4_0; have hz4_1 : w.heap.size + 1 < w4.heap.size := lt_below hb4 ltg; have hl4_1 := Nat.le_of_lt hz4_1; have hz4_2 : w1.heap.size < w4.heap.size := lt_below hb4 ltg; have hl4_2 := Nat.le_of_lt hz4_2; have hA4 := bnext (w0 := w) bgo hb4; have hs4 := hA4.size; clear hb4)
    | (go_at_call 31; refine (cB2 _ _ uR).mono ?_; rintro r w5 ⟨rfl, hb5⟩; clear cB2 uR; obtain ⟨hc5, hf5⟩ := bcell hb5; have hz5_0 : w.heap.size < w5.heap.size := lt_below hb5 ltg; have hl5_0 := Nat.le_of_lt hz5_0; have hz5_1 : w.heap.size + 1 < w5.heap.size := lt_below hb5 ltg; have hl5_1 := Nat.le_of_lt hz5_1; have hz5_2 : w1.heap.size < w5.heap.size := lt_below hb5 ltg; have hl5_2 := Nat.le_of_lt hz5_2; have hA5 := bnext (w0 := w) bgo hb5; have hs5 := hA5.size; clear hb5)
    | (go_at_call 34; refine (cF3 _).mono ?_; rintro r w6 ⟨vS, rfl, uS, hb6⟩; clear cF3; obtain ⟨hc6, hf6⟩ := bcell hb6; have hz6_0 : w.heap.size < w6.heap.size := lt_below hb6 ltg; have hl6_0 := Nat.le_of_lt hz6_0; have hz6_1 : w.heap.size + 1 < w6.heap.size := lt_below hb6 ltg; have hl6_1 := Nat.le_of_lt hz6_1; have hz6_2 : w1.heap.size < w6.heap.size := lt_below hb6 ltg; have hl6_2 := Nat.le_of_lt hz6_2; have hz6_3 : w5.heap.size < w6.heap.size := lt_below hb6 ltg; have hl6_3 := Nat.le_of_lt hz6_3; have hA6 := bnext (w0 := w) bgo hb6; have hs6 := hA6.size; clear hb6; have q62_0 : w.heap.size < w6.heap.size + 1 + 1 := (by omega); have q62_1 : w.heap.size + 1 < w6.heap.size + 1 + 1 := (by omega); have q62_2 : w1.heap.size < w6.heap.size + 1 + 1 := (by omega); have q62_3 : w5.heap.size < w6.heap.size + 1 + 1 := (by omega); have q62_4 : w6.heap.size < w6.heap.size + 1 + 1 := (by omega); have q62_5 : w6.heap.size + 1 < w6.heap.size + 1 + 1 := (by omega))
    | (go_at_call 32; refine (cM3 _ _ uS).mono ?_; rintro r w0 ⟨rfl, rfl⟩; clear cM3 uS)
    | (go_at_call 49; refine (cW _).mono ?_; rintro r w8 ⟨rfl, hb8⟩; obtain ⟨hc8, hf8⟩ := bcell hb8; have hz8_0 : w.heap.size < w8.heap.size := lt_below hb8 ltg; have hl8_0 := Nat.le_of_lt hz8_0; have hz8_1 : w.heap.size + 1 < w8.heap.size := lt_below hb8 ltg; have hl8_1 := Nat.le_of_lt hz8_1; have hz8_2 : w1.heap.size < w8.heap.size := lt_below hb8 ltg; have hl8_2 := Nat.le_of_lt hz8_2; have hz8_3 : w5.heap.size < w8.heap.size := lt_below hb8 ltg; have hl8_3 := Nat.le_of_lt hz8_3; have hz8_4 : w6.heap.size < w8.heap.size := lt_below hb8 ltg; have hl8_4 := Nat.le_of_lt hz8_4; have hz8_5 : w6.heap.size + 1 < w8.heap.size := lt_below hb8 ltg; have hl8_5 := Nat.le_of_lt hz8_5; have hA8 := bnext (w0 := w) bgo hb8; have hs8 := hA8.size; clear hb8))
  exact bodyPost_ret (by simp only [results, Tryd.results20]; go_simp) rfl ⟨rfl, bgo⟩
set_option maxHeartbeats 4000000 in
theorem vmn_nfn (wm : Nat) (g : Bool)
    (cO : ∀ W, Calls Tryd.prog 23 #[.int .i64 n] W fun r w' => r = .returned (.tuple #[IDec n nm wd pr ex le mo pa false, .int .i64 0]) ∧ Below W.heap.size W w')
    (cS : ∀ W, Calls Tryd.prog 25 #[IDec n nm wd pr ex le mo pa false] W fun r w' => r = .returned (.tuple #[.int .i64 G, .int .i64 T, .int .i64 J]) ∧ Below W.heap.size W w')
    (h30 : (V == 30) = false) (h31 : (V == 31) = true) (hw6 : G - 6 = (wm : Int)) (hwm : wm ≤ 12) (hgg : (bits .and .u64 ((A : Int) / 2 ^ wm) 1 == 1) = g)
    (cW : ∀ W, Calls Tryd.prog 49 #[A4 Rr, .int .i64 10, .int .i64 pa] W fun r w' => r = .returned (.bool false) ∧ Below W.heap.size W w') :
    Calls Tryd.prog 20 #[.int .i64 n, A4 Bb] w fun r w' => r = .returned (.agg #[.int .i64 3, .bool s, .bool g, .int .i64 0, .int .u64 0, .int .u64 0, .int .u64 0, .int .u64 0]) ∧ Below w.heap.size w w' := by
  have hsm := cell_set_map
  unfold DV A4 at *
  go_enter Tryd.func20, Tryd.ntmps20
  go_wp2_with (first
    | (go_at_call 23; refine (cO _).mono ?_; rintro r w1 ⟨rfl, hb1⟩; obtain ⟨hc1, hf1⟩ := bcell hb1; have hz1_0 : w.heap.size < w1.heap.size := lt_below hb1 ltg; have hl1_0 := Nat.le_of_lt hz1_0; have hz1_1 : w.heap.size + 1 < w1.heap.size := lt_below hb1 ltg; have hl1_1 := Nat.le_of_lt hz1_1; have hA1 := bnext (w0 := w) bgo hb1; have hs1 := hA1.size; clear hb1)
    | (go_at_call 25; refine (cS _).mono ?_; rintro r w2 ⟨rfl, hb2⟩; obtain ⟨hc2, hf2⟩ := bcell hb2; have hz2_0 : w.heap.size < w2.heap.size := lt_below hb2 ltg; have hl2_0 := Nat.le_of_lt hz2_0; have hz2_1 : w.heap.size + 1 < w2.heap.size := lt_below hb2 ltg; have hl2_1 := Nat.le_of_lt hz2_1; have hz2_2 : w1.heap.size < w2.heap.size := lt_below hb2 ltg; have hl2_2 := Nat.le_of_lt hz2_2; have hA2 := bnext (w0 := w) bgo hb2; have hs2 := hA2.size; clear hb2)
    | (go_at_call 34; refine (cF1 _).mono ?_; rintro r w3 ⟨vA, rfl, uA, hb3⟩; clear cF1; obtain ⟨hc3, hf3⟩ := bcell hb3; have hz3_0 : w.heap.size < w3.heap.size := lt_below hb3 ltg; have hl3_0 := Nat.le_of_lt hz3_0; have hz3_1 : w.heap.size + 1 < w3.heap.size := lt_below hb3 ltg; have hl3_1 := Nat.le_of_lt hz3_1; have hz3_2 : w1.heap.size < w3.heap.size := lt_below hb3 ltg; have hl3_2 := Nat.le_of_lt hz3_2; have hA3 := bnext (w0 := w) bgo hb3; have hs3 := hA3.size; clear hb3)
    | (go_at_call 32; refine (cM1 _ _ uA).mono ?_; rintro r w0 ⟨rfl, rfl⟩; clear cM1 uA)
    | (go_at_call 34; refine (cF2 _).mono ?_; rintro r w4 ⟨vR, rfl, uR, hb4⟩; clear cF2; obtain ⟨hc4, hf4⟩ := bcell hb4; have hz4_0 : w.heap.size < w4.heap.size := lt_below hb4 ltg; have hl4_0 := Nat.le_of_lt hz4_0; have hz4_1 : w.heap.size + 1 < w4.heap.size := lt_below hb4 ltg; have hl4_1 := Nat.le_of_lt hz4_1; have hz4_2 : w1.heap.size < w4.heap.size := lt_below hb4 ltg; have hl4_2 := Nat.le_of_lt hz4_2; have hA4 := bnext (w0 := w) bgo hb4; have hs4 := hA4.size; clear hb4)
    | (go_at_call 31; refine (cB2 _ _ uR).mono ?_; rintro r w5 ⟨rfl, hb5⟩; clear cB2 uR; obtain ⟨hc5, hf5⟩ := bcell hb5; have hz5_0 : w.heap.size < w5.heap.size := lt_below hb5 ltg; have hl5_0 := Nat.le_of_lt hz5_0; have hz5_1 : w.heap.size + 1 < w5.heap.size := lt_below hb5 ltg; have hl5_1 := Nat.le_of_lt hz5_1; have hz5_2 : w1.heap.size < w5.heap.size := lt_below hb5 ltg; have hl5_2 := Nat.le_of_lt hz5_2; have hA5 := bnext (w0 := w) bgo hb5; have hs5 := hA5.size; clear hb5)
    | (go_at_call 34; refine (cF3 _).mono ?_; rintro r w6 ⟨vS, rfl, uS, hb6⟩; clear cF3; obtain ⟨hc6, hf6⟩ := bcell hb6; have hz6_0 : w.heap.size < w6.heap.size := lt_below hb6 ltg; have hl6_0 := Nat.le_of_lt hz6_0; have hz6_1 : w.heap.size + 1 < w6.heap.size := lt_below hb6 ltg; have hl6_1 := Nat.le_of_lt hz6_1; have hz6_2 : w1.heap.size < w6.heap.size := lt_below hb6 ltg; have hl6_2 := Nat.le_of_lt hz6_2; have hz6_3 : w5.heap.size < w6.heap.size := lt_below hb6 ltg; have hl6_3 := Nat.le_of_lt hz6_3; have hA6 := bnext (w0 := w) bgo hb6; have hs6 := hA6.size; clear hb6; have q62_0 : w.heap.size < w6.heap.size + 1 + 1 := (by omega); have q62_1 : w.heap.size + 1 < w6.heap.size + 1 + 1 := (by omega); have q62_2 : w1.heap.size < w6.heap.size + 1 + 1 := (by omega); have q62_3 : w5.heap.size < w6.heap.size + 1 + 1 := (by omega); have q62_4 : w6.heap.size < w6.heap.size + 1 + 1 := (by omega); have q62_5 : w6.heap.size + 1 < w6.heap.size + 1 + 1 := (by omega))
    | (go_at_call 32; refine (cM3 _ _ uS).mono ?_; rintro r w0 ⟨rfl, rfl⟩; clear cM3 uS)
    | (go_at_call 49; refine (cW _).mono ?_; rintro r w8 ⟨rfl, hb8⟩; obtain ⟨hc8, hf8⟩ := bcell hb8; have hz8_0 : w.heap.size < w8.heap.size := lt_below hb8 ltg; have hl8_0 := Nat.le_of_lt hz8_0; have hz8_1 : w.heap.size + 1 < w8.heap.size := lt_below hb8 ltg; have hl8_1 := Nat.le_of_lt hz8_1; have hz8_2 : w1.heap.size < w8.heap.size := lt_below hb8 ltg; have hl8_2 := Nat.le_of_lt hz8_2; have hz8_3 : w5.heap.size < w8.heap.size := lt_below hb8 ltg; have hl8_3 := Nat.le_of_lt hz8_3; have hz8_4 : w6.heap.size < w8.heap.size := lt_below hb8 ltg; have hl8_4 := Nat.le_of_lt hz8_4; have hz8_5 : w6.heap.size + 1 < w8.heap.size := lt_below hb8 ltg; have hl8_5 := Nat.le_of_lt hz8_5; have hA8 := bnext (w0 := w) bgo hb8; have hs8 := hA8.size; clear hb8))
  exact bodyPost_ret (by simp only [results, Tryd.results20]; go_simp) rfl ⟨rfl, bgo⟩
end
end Go.Proofs.YtjjaamdgochilaaDoor
