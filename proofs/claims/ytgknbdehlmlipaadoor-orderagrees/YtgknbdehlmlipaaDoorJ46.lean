/-
  Texts that the proof leans on.
-/
import Derived.Test.YtgknbdehlmlipaaDoorJ40
import Derived.Test.YtgknbdehlmlipaaDoorJ28
import Derived.Test.YtgknbdehlmlipaaDoorJ3
set_option linter.unusedVariables false
set_option linter.unusedSectionVars false
set_option linter.unusedSimpArgs false
set_option maxRecDepth 20000
namespace Go.Proofs.YtgknbdehlmlipaaDoor
open Go.RowKit
attribute [local irreducible] W4 Nt Nz NT
set_option maxHeartbeats 2000000 in
theorem otm_l (k : Nat) (t f : Int) (w : World) (hk : k < 2 ^ 256) (hf : -12000 ≤ f ∧ f ≤ 12000) (ht : -40000 ≤ t ∧ t ≤ 40000) (P R : Nat)
    (c1 : ∀ W e, e = max f 0 → Calls Tryd.prog 39 #[.int .i64 5, .int .i64 e] W fun r w' => ∃ v, r = .returned (.tuple #[v, .int .i64 0]) ∧ NT 2001 P v w' ∧ Below W.heap.size W w')
    (c2 : ∀ W v v', Nt 4 k v W → NT 2001 P v' W → Calls Tryd.prog 40 #[v, v'] W fun r w' => ∃ q, r = .returned (.tuple #[q, .int .i64 0]) ∧ NT 2001 (k * P) q w' ∧ Below W.heap.size W w')
    (c3 : ∀ W v e, e = max t 0 → NT 2001 (k * P) v W → Calls Tryd.prog 41 #[v, .int .i64 e] W fun r w' => ∃ q, r = .returned (.tuple #[q, .int .i64 0]) ∧ NT 2001 R q w' ∧ Below W.heap.size W w') :
    Calls Tryd.prog 28 #[A4 k, .int .i64 t, .int .i64 f] w fun r w' => ∃ q, r = .returned q ∧ NT 2001 R q w' ∧ Below w.heap.size w w' := by
  have hbx := fun W hW => b4_new (w0 := w) (w := W) (k := k) (t := 24) hk hW
  have hsm := cell_set_map
  unfold A4
  go_enter Tryd.func28, Tryd.ntmps28
  go_wp2_with (first
    | (go_at_call 39; refine (c1 _ _ rfl).mono ?_; rintro r w1 ⟨v1, rfl, hv1, hb1⟩; have hv0 := hbx _ hb1; obtain ⟨hc1, hf1⟩ := bcell hb1; have hz1_0 : w.heap.size < w1.heap.size := lt_below hb1 ltg; have hl1_0 := Nat.le_of_lt hz1_0; have hA1 := bnext (w0 := w) bgo hb1; have hs1 := hA1.size; clear hb1)
    | (go_at_call 40; refine (c2 _ _ _ hv0 hv1).mono ?_; rintro r w2 ⟨v2, rfl, hv2, hb2⟩; obtain ⟨hc2, hf2⟩ := bcell hb2; have hz2_0 : w.heap.size < w2.heap.size := lt_below hb2 ltg; have hl2_0 := Nat.le_of_lt hz2_0; have hA2 := bnext (w0 := w) bgo hb2; have hs2 := hA2.size; clear hb2)
    | (go_at_call 41; refine (c3 _ _ _ rfl hv2).mono ?_; rintro r w3 ⟨v3, rfl, hv3, hb3⟩; obtain ⟨hc3, hf3⟩ := bcell hb3; have hz3_0 : w.heap.size < w3.heap.size := lt_below hb3 ltg; have hl3_0 := Nat.le_of_lt hz3_0; have hA3 := bnext (w0 := w) bgo hb3; have hs3 := hA3.size; clear hb3))
  go_ret
  exact ⟨v3, rfl, hv3, bgo⟩
theorem tmV_eq (k : Nat) (t f : Int) : tmV k t f = k * 5 ^ (max f 0).toNat * 2 ^ (max t 0).toNat := by
  unfold tmV
  rw [show (max f 0).toNat = f.toNat by omega, show (max t 0).toNat = t.toNat by omega]
theorem otm_v (k : Nat) (t f : Int) (w : World) (hk : k < 2 ^ 256) (hf : -12000 ≤ f ∧ f ≤ 12000) (ht : -40000 ≤ t ∧ t ≤ 40000) :
    Calls Tryd.prog 28 #[A4 k, .int .i64 t, .int .i64 f] w fun r w' => ∃ q, r = .returned q ∧ NT 2001 (tmV k t f) q w' ∧ Below w.heap.size w w' := by
  have hA : bl k ≤ 256 := bl_le.2 hk
  have hm := five_bl (max f 0).toNat
  have hbm := bl_mul k (5 ^ (max f 0).toNat)
  rw [tmV_eq]
  refine otm_l k t f w hk hf ht (5 ^ (max f 0).toNat) _ (fun W e he => ?_) (fun W v v' hv hv' => nmul_w (by decide) (by decide) hv hv'.nt (by omega)) (fun W v e he hv => ?_)
  · have := npow5z (max f 0).toNat W (by omega)
    rw [show (((max f 0).toNat : Nat) : Int) = e by omega] at this
    exact this
  · have := nshl_w (w := W) (max t 0).toNat (by decide) hv.nt (by omega)
    rw [show (((max t 0).toNat : Nat) : Int) = e by omega] at this
    exact this
section
variable (c x b : Int) (s g : Bool) (k : Nat) (c' x' b' : Int) (s' g' : Bool) (k' : Nat) (w : World)
set_option maxHeartbeats 4000000 in
theorem onr_l (hx : -20000 ≤ x ∧ x ≤ 20000) (hx' : -20000 ≤ x' ∧ x' ≤ 20000) (F F' : Int) (hF : -20000 ≤ F ∧ F ≤ 20000) (hF' : -20000 ≤ F' ∧ F' ≤ 20000) (T T' : Nat) (R : Int)
    (c1 : ∀ W, Calls Tryd.prog 27 #[OV c s g x k b] W fun r w' => r = .returned (.int .i64 F) ∧ Below W.heap.size W w')
    (c2 : ∀ W, Calls Tryd.prog 27 #[OV c' s' g' x' k' b'] W fun r w' => r = .returned (.int .i64 F') ∧ Below W.heap.size W w')
    (c3 : ∀ W, Calls Tryd.prog 28 #[A4 k, .int .i64 (x - x'), .int .i64 (F - F')] W fun r w' => ∃ q, r = .returned q ∧ NT 2001 T q w' ∧ Below W.heap.size W w')
    (c4 : ∀ W, Calls Tryd.prog 28 #[A4 k', .int .i64 (-(x - x')), .int .i64 (-(F - F'))] W fun r w' => ∃ q, r = .returned q ∧ NT 2001 T' q w' ∧ Below W.heap.size W w')
    (c5 : ∀ W v v', NT 2001 T v W → NT 2001 T' v' W → Calls Tryd.prog 16 #[v, v'] W fun r w' => r = .returned (.int .i64 R) ∧ Below W.heap.size W w') :
    Calls Tryd.prog 19 #[OV c s g x k b, OV c' s' g' x' k' b'] w fun r w' => r = .returned (.int .i64 R) ∧ Below w.heap.size w w' := by
  have hsm := cell_set_map
  go_enter Tryd.func19, Tryd.ntmps19
  go_wp2
  refine wp_whole (by kernel_rfl) (by kernel_rfl) fun hne hcell => ?_
  repeat go_big_quiet_step (fail)
  go_big_quiet_step ((go_at_call 27; exact calls_wd _ bk_next (c1 _)))
  repeat go_big_quiet_step (fail)
  go_big_quiet_step ((go_at_call 27; exact calls_wd _ bk_next (c2 _)))
  repeat go_big_quiet_step (fail)
  refine wpQuiet_nil fun w1 hb1 => ?_
  obtain ⟨hc1, hf1⟩ := bcell hb1; have hz1_0 : w.heap.size < w1.heap.size := lt_below hb1 ltg; have hl1_0 := Nat.le_of_lt hz1_0; have hz1_1 : w.heap.size + 1 < w1.heap.size := lt_below hb1 ltg; have hl1_1 := Nat.le_of_lt hz1_1; have hA1 := bnext (w0 := w) bgo hb1; have hs1 := hA1.size; clear hb1
  go_wp2
  refine regNr2 (h := w.heap.size) (j := w.heap.size + 1) (k := k) (k' := k') (D := x - x') (G := F - F') (T := T) (T' := T') (R := R) (by omega) (by omega) (fun _ _ d _ _ h => by cases d <;> exact h) rfl rfl rfl rfl rfl (by first | omega | (simp; omega) | simp) (by go_simp) (by go_simp) (by go_simp) (by go_simp) (by first | omega | (simp; omega) | simp) (by go_simp) (by go_simp) (by go_simp) (by go_simp) c3 c4 c5 ?_
  intro a' w4 h4 hsz hdf hF2 hb4
  have ha := act_of slotsANr2 16 rfl hsz hdf hF2
  rw [ha]
  simp only [slotsANr2, List.foldl_cons, List.foldl_nil, Act.put, List.setIfInBounds_toArray, List.set_cons_succ, List.set_cons_zero, h4]
  generalize slot a' 19 = s19
  generalize slot a' 20 = s20
  generalize slot a' 21 = s21
  generalize slot a' 22 = s22
  generalize slot a' 23 = s23
  generalize slot a' 24 = s24
  generalize slot a' 25 = s25
  generalize slot a' 26 = s26
  generalize slot a' 27 = s27
  generalize slot a' 28 = s28
  generalize slot a' 29 = s29
  generalize slot a' 30 = s30
  generalize slot a' 31 = s31
  generalize slot a' 32 = s32
  generalize slot a' 33 = s33
  clear ha h4 hsz hdf hF2
  obtain ⟨hc4, hf4⟩ := bcell hb4; have hz4_0 : w.heap.size < w4.heap.size := lt_below hb4 ltg; have hl4_0 := Nat.le_of_lt hz4_0; have hz4_1 : w.heap.size + 1 < w4.heap.size := lt_below hb4 ltg; have hl4_1 := Nat.le_of_lt hz4_1; have hA4 := bnext (w0 := w) bgo hb4; have hs4 := hA4.size; clear hb4
  go_wp2
  go_ret
  exact ⟨by first | rfl | simp, bgo⟩
end
theorem ofv_v {b : Int} {X : Nat} (hX : X = 2 ∨ X = 10) (hb : b = (X : Int)) (c x : Int) (s g : Bool) (k : Nat) (hk : k < 2 ^ 256) (w : World) : Calls Tryd.prog 27 #[OV c s g x k b] w fun r w' => r = .returned (.int .i64 (fvE X x)) ∧ Below w.heap.size w w' := by
  subst hb
  rcases hX with rfl | rfl
  · exact fives_2 c x s g k hk w
  · exact fives_10 c x s g k hk w
theorem fvE_bd {X : Nat} {x : Int} (h : -20000 ≤ x ∧ x ≤ 20000) : -20000 ≤ fvE X x ∧ fvE X x ≤ 20000 := by
  unfold fvE
  split <;> omega
/-- near, of numbers whose reaches meet -/
theorem onr_v {X Y : Nat} (hX : X = 2 ∨ X = 10) (hY : Y = 2 ∨ Y = 10) {c x b : Int} {s g : Bool} {k : Nat} {c' x' b' : Int} {s' g' : Bool} {k' : Nat} (hb : b = (X : Int)) (hb' : b' = (Y : Int)) (hk : k < 2 ^ 256) (hk' : k' < 2 ^ 256)
    (hx : -20000 ≤ x ∧ x ≤ 20000) (hx' : -20000 ≤ x' ∧ x' ≤ 20000) (hf : -12000 ≤ fvE X x - fvE Y x' ∧ fvE X x - fvE Y x' ≤ 12000) (w : World) :
    Calls Tryd.prog 19 #[OV c s g x k b, OV c' s' g' x' k' b'] w fun r w' => r = .returned (.int .i64 (sgn ((k * X ^ x.toNat * (1 * Y ^ (-x').toNat) : Nat) : Int) ((k' * Y ^ x'.toNat * (1 * X ^ (-x).toNat) : Nat) : Int))) ∧ Below w.heap.size w w' := by
  rw [← rc_near hX hY k k' x x']
  exact onr_l c x b s g k c' x' b' s' g' k' w hx hx' _ _ (fvE_bd hx) (fvE_bd hx') _ _ _ (fun W => ofv_v hX hb c x s g k hk W) (fun W => ofv_v hY hb' c' x' s' g' k' hk' W)
    (fun W => otm_v k _ _ W hk hf (by omega)) (fun W => otm_v k' _ _ W hk' (by omega) (by omega)) (fun W v v' hv hv' => ncmp_v (by decide) (by decide) hv.nt hv'.nt)
end Go.Proofs.YtgknbdehlmlipaaDoor

namespace Go.Proofs.YtgknbdehlmlipaaDoor
open Go.RowKit
attribute [local irreducible] W4 Nt Nz NT
section
variable (c x b : Int) (s g : Bool) (k : Nat) (hk : k < 2 ^ 256) (c' x' b' : Int) (s' g' : Bool) (k' : Nat) (hk' : k' < 2 ^ 256) (w : World)
set_option maxHeartbeats 4000000 in
theorem sz_inf (h : (c == 2) = true ∨ ((c == 2) = false ∧ (c' == 2) = true)) :
    Calls Tryd.prog 12 #[OV c s g x k b, OV c' s' g' x' k' b'] w fun r w' => r = .returned (.int .i64 (sgn c c')) ∧ Below w.heap.size w w' := by
  have hsm := cell_set_map
  have c9 := fun W => compare_int c c' W
  rcases h with h | ⟨h, h'⟩
  all_goals
    go_enter Tryd.func12, Tryd.ntmps12
    go_wp2_with (go_at_call 14; refine (c9 _).mono ?_; rintro r w1 ⟨rfl, rfl⟩)
    go_ret
    exact ⟨by first | rfl | simp, bgo⟩
variable (hc : (c == 2) = false) (hc' : (c' == 2) = false)
include hk hk' hc hc'
set_option maxHeartbeats 4000000 in
theorem sz_nought (n1 n2 : Bool) (h : n1 = true ∨ (n1 = false ∧ n2 = true))
    (c1 : ∀ W, Calls Tryd.prog 11 #[OV c s g x k b] W fun r w' => r = .returned (.bool n1) ∧ Below W.heap.size W w')
    (c2 : ∀ W, Calls Tryd.prog 11 #[OV c' s' g' x' k' b'] W fun r w' => r = .returned (.bool n2) ∧ Below W.heap.size W w')
    (R : Int) (c3 : ∀ W v v', Nt 4 k v W → Nt 4 k' v' W → Calls Tryd.prog 16 #[v, v'] W fun r w' => r = .returned (.int .i64 R) ∧ Below W.heap.size W w') :
    Calls Tryd.prog 12 #[OV c s g x k b, OV c' s' g' x' k' b'] w fun r w' => r = .returned (.int .i64 R) ∧ Below w.heap.size w w' := by
  have hbx := fun W hW => op_new (w0 := w) (w := W) (c := c) (s := s) (g := g) (x := x) (b := b) (t := 36) hk hW
  have hby : ∀ W, Below ((w.alloc (.cells (OCs c s g x k b) 36)).alloc (.cells (OCs c' s' g' x' k' b') 36)).heap.size ((w.alloc (.cells (OCs c s g x k b) 36)).alloc (.cells (OCs c' s' g' x' k' b') 36)) W → Nt 4 k' (.slice (some ⟨w.heap.size + 1, 4, none⟩) 4 4) W := fun W hW => by
    have := op_new (w0 := w.alloc (.cells (OCs c s g x k b) 36)) (w := W) (c := c') (s := s') (g := g') (x := x') (b := b') (t := 36) hk' hW
    rwa [show (w.alloc (.cells (OCs c s g x k b) 36)).heap.size = w.heap.size + 1 by simp] at this
  clear hk hk'
  have hsm := cell_set_map
  rcases h with rfl | ⟨rfl, rfl⟩
  · go_enter Tryd.func12, Tryd.ntmps12
    go_wp2_with (go_at_call 11; refine (c1 _).mono ?_; rintro r w1 ⟨rfl, hb1⟩; have hq0 := hbx _ (bnx (below1 _ _) hb1); have hq1 := hby _ hb1; obtain ⟨hc1, hf1⟩ := bcell hb1; have hz1_0 : w.heap.size < w1.heap.size := lt_below hb1 ltg; have hl1_0 := Nat.le_of_lt hz1_0; have hz1_1 : w.heap.size + 1 < w1.heap.size := lt_below hb1 ltg; have hl1_1 := Nat.le_of_lt hz1_1; have hA1 := bnext (w0 := w) bgo hb1; have hs1 := hA1.size; clear hb1)
    refine wp_tail 6 (by kernel_rfl) (by kernel_rfl) (by kernel_rfl) (fun _ _ d _ _ h => by cases d <;> exact h) fun hne hcell => ?_
    simp only [List.take_succ_cons, List.take_zero, List.drop_succ_cons, List.drop_zero]
    repeat go_big_quiet_step (fail)
    refine wpQuiet_nil fun w2 hb2 => ?_
    have hv0 := hq0.next hb2
    have hv1 := hq1.next hb2
    obtain ⟨hc2, hf2⟩ := bcell hb2; have hz2_0 : w.heap.size < w2.heap.size := lt_below hb2 ltg; have hl2_0 := Nat.le_of_lt hz2_0; have hz2_1 : w.heap.size + 1 < w2.heap.size := lt_below hb2 ltg; have hl2_1 := Nat.le_of_lt hz2_1; have hA2 := bnext (w0 := w) bgo hb2; have hs2 := hA2.size; clear hb2
    go_wp2_with (go_at_call 16; refine (c3 _ _ _ hv0 hv1).mono ?_; rintro r w3 ⟨rfl, hb3⟩; obtain ⟨hc3, hf3⟩ := bcell hb3; have hz3_0 : w.heap.size < w3.heap.size := lt_below hb3 ltg; have hl3_0 := Nat.le_of_lt hz3_0; have hz3_1 : w.heap.size + 1 < w3.heap.size := lt_below hb3 ltg; have hl3_1 := Nat.le_of_lt hz3_1; have hA3 := bnext (w0 := w) bgo hb3; have hs3 := hA3.size; clear hb3)
    go_ret
    exact ⟨by first | rfl | simp, bgo⟩
  · go_enter Tryd.func12, Tryd.ntmps12
    go_wp2_with (first
      | (have := hA1; go_at_call 11; refine (c2 _).mono ?_; rintro r w4 ⟨rfl, hb4⟩; have hq0 := hp0.next hb4; have hq1 := hp1.next hb4; obtain ⟨hc4, hf4⟩ := bcell hb4; have hz4_0 : w.heap.size < w4.heap.size := lt_below hb4 ltg; have hl4_0 := Nat.le_of_lt hz4_0; have hz4_1 : w.heap.size + 1 < w4.heap.size := lt_below hb4 ltg; have hl4_1 := Nat.le_of_lt hz4_1; have hA4 := bnext (w0 := w) bgo hb4; have hs4 := hA4.size; clear hb4)
      | (go_at_call 11; refine (c1 _).mono ?_; rintro r w1 ⟨rfl, hb1⟩; have hp0 := hbx _ (bnx (below1 _ _) hb1); have hp1 := hby _ hb1; obtain ⟨hc1, hf1⟩ := bcell hb1; have hz1_0 : w.heap.size < w1.heap.size := lt_below hb1 ltg; have hl1_0 := Nat.le_of_lt hz1_0; have hz1_1 : w.heap.size + 1 < w1.heap.size := lt_below hb1 ltg; have hl1_1 := Nat.le_of_lt hz1_1; have hA1 := bnext (w0 := w) bgo hb1; have hs1 := hA1.size; clear hb1))
    refine wp_tail 6 (by kernel_rfl) (by kernel_rfl) (by kernel_rfl) (fun _ _ d _ _ h => by cases d <;> exact h) fun hne hcell => ?_
    simp only [List.take_succ_cons, List.take_zero, List.drop_succ_cons, List.drop_zero]
    repeat go_big_quiet_step (fail)
    refine wpQuiet_nil fun w2 hb2 => ?_
    have hv0 := hq0.next hb2
    have hv1 := hq1.next hb2
    obtain ⟨hc2, hf2⟩ := bcell hb2; have hz2_0 : w.heap.size < w2.heap.size := lt_below hb2 ltg; have hl2_0 := Nat.le_of_lt hz2_0; have hz2_1 : w.heap.size + 1 < w2.heap.size := lt_below hb2 ltg; have hl2_1 := Nat.le_of_lt hz2_1; have hA2 := bnext (w0 := w) bgo hb2; have hs2 := hA2.size; clear hb2
    go_wp2_with (go_at_call 16; refine (c3 _ _ _ hv0 hv1).mono ?_; rintro r w3 ⟨rfl, hb3⟩; obtain ⟨hc3, hf3⟩ := bcell hb3; have hz3_0 : w.heap.size < w3.heap.size := lt_below hb3 ltg; have hl3_0 := Nat.le_of_lt hz3_0; have hz3_1 : w.heap.size + 1 < w3.heap.size := lt_below hb3 ltg; have hl3_1 := Nat.le_of_lt hz3_1; have hA3 := bnext (w0 := w) bgo hb3; have hs3 := hA3.size; clear hb3)
    go_ret
    exact ⟨by first | rfl | simp, bgo⟩
set_option maxHeartbeats 4000000 in
theorem sz_far (L U L' U' R : Int) (h : (U ≤ L' ∧ R = -1) ∨ (¬ U ≤ L' ∧ U' ≤ L ∧ R = 1))
    (c1 : ∀ W, Calls Tryd.prog 11 #[OV c s g x k b] W fun r w' => r = .returned (.bool false) ∧ Below W.heap.size W w')
    (c2 : ∀ W, Calls Tryd.prog 11 #[OV c' s' g' x' k' b'] W fun r w' => r = .returned (.bool false) ∧ Below W.heap.size W w')
    (c3 : ∀ W, Calls Tryd.prog 18 #[OV c s g x k b] W fun r w' => r = .returned (.tuple #[.int .i64 L, .int .i64 U]) ∧ Below W.heap.size W w')
    (c4 : ∀ W, Calls Tryd.prog 18 #[OV c' s' g' x' k' b'] W fun r w' => r = .returned (.tuple #[.int .i64 L', .int .i64 U']) ∧ Below W.heap.size W w') :
    Calls Tryd.prog 12 #[OV c s g x k b, OV c' s' g' x' k' b'] w fun r w' => r = .returned (.int .i64 R) ∧ Below w.heap.size w w' := by
  have hsm := cell_set_map
  rcases h with ⟨h, rfl⟩ | ⟨h, h', rfl⟩
  all_goals
    go_enter Tryd.func12, Tryd.ntmps12
    go_wp2_with (first
      | (have := hA1; go_at_call 11; refine (c2 _).mono ?_; rintro r w2 ⟨rfl, hb2⟩; obtain ⟨hc2, hf2⟩ := bcell hb2; have hz2_0 : w.heap.size < w2.heap.size := lt_below hb2 ltg; have hl2_0 := Nat.le_of_lt hz2_0; have hz2_1 : w.heap.size + 1 < w2.heap.size := lt_below hb2 ltg; have hl2_1 := Nat.le_of_lt hz2_1; have hA2 := bnext (w0 := w) bgo hb2; have hs2 := hA2.size; clear hb2)
      | (go_at_call 11; refine (c1 _).mono ?_; rintro r w1 ⟨rfl, hb1⟩; obtain ⟨hc1, hf1⟩ := bcell hb1; have hz1_0 : w.heap.size < w1.heap.size := lt_below hb1 ltg; have hl1_0 := Nat.le_of_lt hz1_0; have hz1_1 : w.heap.size + 1 < w1.heap.size := lt_below hb1 ltg; have hl1_1 := Nat.le_of_lt hz1_1; have hA1 := bnext (w0 := w) bgo hb1; have hs1 := hA1.size; clear hb1)
      | (have := hA3; go_at_call 18; refine (c4 _).mono ?_; rintro r w4 ⟨rfl, hb4⟩; obtain ⟨hc4, hf4⟩ := bcell hb4; have hz4_0 : w.heap.size < w4.heap.size := lt_below hb4 ltg; have hl4_0 := Nat.le_of_lt hz4_0; have hz4_1 : w.heap.size + 1 < w4.heap.size := lt_below hb4 ltg; have hl4_1 := Nat.le_of_lt hz4_1; have hA4 := bnext (w0 := w) bgo hb4; have hs4 := hA4.size; clear hb4)
      | (go_at_call 18; refine (c3 _).mono ?_; rintro r w3 ⟨rfl, hb3⟩; obtain ⟨hc3, hf3⟩ := bcell hb3; have hz3_0 : w.heap.size < w3.heap.size := lt_below hb3 ltg; have hl3_0 := Nat.le_of_lt hz3_0; have hz3_1 : w.heap.size + 1 < w3.heap.size := lt_below hb3 ltg; have hl3_1 := Nat.le_of_lt hz3_1; have hA3 := bnext (w0 := w) bgo hb3; have hs3 := hA3.size; clear hb3))
    go_ret
    exact ⟨by first | rfl | simp, bgo⟩
set_option maxHeartbeats 4000000 in
theorem sz_meet (L U L' U' R : Int) (h : ¬ U ≤ L') (h' : ¬ U' ≤ L)
    (c1 : ∀ W, Calls Tryd.prog 11 #[OV c s g x k b] W fun r w' => r = .returned (.bool false) ∧ Below W.heap.size W w')
    (c2 : ∀ W, Calls Tryd.prog 11 #[OV c' s' g' x' k' b'] W fun r w' => r = .returned (.bool false) ∧ Below W.heap.size W w')
    (c3 : ∀ W, Calls Tryd.prog 18 #[OV c s g x k b] W fun r w' => r = .returned (.tuple #[.int .i64 L, .int .i64 U]) ∧ Below W.heap.size W w')
    (c4 : ∀ W, Calls Tryd.prog 18 #[OV c' s' g' x' k' b'] W fun r w' => r = .returned (.tuple #[.int .i64 L', .int .i64 U']) ∧ Below W.heap.size W w')
    (c5 : ∀ W, Calls Tryd.prog 19 #[OV c s g x k b, OV c' s' g' x' k' b'] W fun r w' => r = .returned (.int .i64 R) ∧ Below W.heap.size W w') :
    Calls Tryd.prog 12 #[OV c s g x k b, OV c' s' g' x' k' b'] w fun r w' => r = .returned (.int .i64 R) ∧ Below w.heap.size w w' := by
  have hsm := cell_set_map
  go_enter Tryd.func12, Tryd.ntmps12
  go_wp2_with (first
    | (have := hA1; go_at_call 11; refine (c2 _).mono ?_; rintro r w2 ⟨rfl, hb2⟩; obtain ⟨hc2, hf2⟩ := bcell hb2; have hz2_0 : w.heap.size < w2.heap.size := lt_below hb2 ltg; have hl2_0 := Nat.le_of_lt hz2_0; have hz2_1 : w.heap.size + 1 < w2.heap.size := lt_below hb2 ltg; have hl2_1 := Nat.le_of_lt hz2_1; have hA2 := bnext (w0 := w) bgo hb2; have hs2 := hA2.size; clear hb2)
    | (go_at_call 11; refine (c1 _).mono ?_; rintro r w1 ⟨rfl, hb1⟩; obtain ⟨hc1, hf1⟩ := bcell hb1; have hz1_0 : w.heap.size < w1.heap.size := lt_below hb1 ltg; have hl1_0 := Nat.le_of_lt hz1_0; have hz1_1 : w.heap.size + 1 < w1.heap.size := lt_below hb1 ltg; have hl1_1 := Nat.le_of_lt hz1_1; have hA1 := bnext (w0 := w) bgo hb1; have hs1 := hA1.size; clear hb1)
    | (have := hA3; go_at_call 18; refine (c4 _).mono ?_; rintro r w4 ⟨rfl, hb4⟩; obtain ⟨hc4, hf4⟩ := bcell hb4; have hz4_0 : w.heap.size < w4.heap.size := lt_below hb4 ltg; have hl4_0 := Nat.le_of_lt hz4_0; have hz4_1 : w.heap.size + 1 < w4.heap.size := lt_below hb4 ltg; have hl4_1 := Nat.le_of_lt hz4_1; have hA4 := bnext (w0 := w) bgo hb4; have hs4 := hA4.size; clear hb4)
    | (go_at_call 18; refine (c3 _).mono ?_; rintro r w3 ⟨rfl, hb3⟩; obtain ⟨hc3, hf3⟩ := bcell hb3; have hz3_0 : w.heap.size < w3.heap.size := lt_below hb3 ltg; have hl3_0 := Nat.le_of_lt hz3_0; have hz3_1 : w.heap.size + 1 < w3.heap.size := lt_below hb3 ltg; have hl3_1 := Nat.le_of_lt hz3_1; have hA3 := bnext (w0 := w) bgo hb3; have hs3 := hA3.size; clear hb3)
    | (go_at_call 19; refine (c5 _).mono ?_; rintro r w5 ⟨rfl, hb5⟩; obtain ⟨hc5, hf5⟩ := bcell hb5; have hz5_0 : w.heap.size < w5.heap.size := lt_below hb5 ltg; have hl5_0 := Nat.le_of_lt hz5_0; have hz5_1 : w.heap.size + 1 < w5.heap.size := lt_below hb5 ltg; have hl5_1 := Nat.le_of_lt hz5_1; have hA5 := bnext (w0 := w) bgo hb5; have hs5 := hA5.size; clear hb5))
  go_ret
  exact ⟨by first | rfl | simp, bgo⟩
end
theorem orc_v {b : Int} {X : Nat} (hX : X = 2 ∨ X = 10) (hb : b = (X : Int)) (c x : Int) (s g : Bool) (k : Nat) (hk : k < 2 ^ 256) (hx : -20000 ≤ x ∧ x ≤ 20000) (hx10 : X = 10 → -10000 ≤ x ∧ x ≤ 10000) (w : World) : Calls Tryd.prog 18 #[OV c s g x k b] w fun r w' => r = .returned (.tuple #[.int .i64 (rcL X x k), .int .i64 (rcU X x k)]) ∧ Below w.heap.size w w' := by
  subst hb
  rcases hX with rfl | rfl
  · exact reach_2 c x s g k hk w hx
  · exact reach_10 c x s g k hk w (hx10 rfl)
/-- sizes, by value -/
theorem osz_v {X Y : Nat} (hX : X = 2 ∨ X = 10) (hY : Y = 2 ∨ Y = 10) {c x b : Int} {s g : Bool} {k : Nat} {c' x' b' : Int} {s' g' : Bool} {k' : Nat} (hb : b = (X : Int)) (hb' : b' = (Y : Int)) (hc : c = 1 ∨ c = 2) (hc' : c' = 1 ∨ c' = 2) (hk : k < 2 ^ 256) (hk' : k' < 2 ^ 256)
    (hx : -20000 ≤ x ∧ x ≤ 20000) (hx' : -20000 ≤ x' ∧ x' ≤ 20000) (hx10 : X = 10 → -10000 ≤ x ∧ x ≤ 10000) (hy10 : Y = 10 → -10000 ≤ x' ∧ x' ≤ 10000) (w : World) :
    Calls Tryd.prog 12 #[OV c s g x k b, OV c' s' g' x' k' b'] w fun r w' => r = .returned (.int .i64 (szV c k X x c' k' Y x')) ∧ Below w.heap.size w w' := by
  unfold szV
  by_cases h2 : c = 2 ∨ c' = 2
  · rw [if_pos h2]
    refine sz_inf c x b s g k c' x' b' s' g' k' w ?_
    rcases hc with rfl | rfl
    · rcases h2 with h | rfl
      · omega
      · exact Or.inr ⟨rfl, rfl⟩
    · exact Or.inl rfl
  · rw [if_neg h2]
    obtain rfl : c = 1 := by omega
    obtain rfl : c' = 1 := by omega
    have c1 := fun W => ont_v 1 x b s g k hk W
    have c2 := fun W => ont_v 1 x' b' s' g' k' hk' W
    have e1 : decide ((1 : Int) = 1 ∧ k = 0) = decide (k = 0) := by simp
    have e2 : decide ((1 : Int) = 1 ∧ k' = 0) = decide (k' = 0) := by simp
    rw [e1] at c1
    rw [e2] at c2
    by_cases h0 : k = 0 ∨ k' = 0
    · rw [if_pos h0]
      refine sz_nought 1 x b s g k hk 1 x' b' s' g' k' hk' w rfl rfl _ _ ?_ c1 c2 _ (fun W v v' hv hv' => ncmp_v (by decide) (by decide) hv hv')
      by_cases hk0 : k = 0
      · exact Or.inl (decide_eq_true hk0)
      · exact Or.inr ⟨decide_eq_false hk0, decide_eq_true (by omega)⟩
    · rw [if_neg h0]
      have hk0 : k ≠ 0 := fun h => h0 (Or.inl h)
      have hk0' : k' ≠ 0 := fun h => h0 (Or.inr h)
      rw [decide_eq_false hk0] at c1
      rw [decide_eq_false hk0'] at c2
      have c3 := fun W => orc_v hX hb 1 x s g k hk hx hx10 W
      have c4 := fun W => orc_v hY hb' 1 x' s' g' k' hk' hx' hy10 W
      by_cases hf : rcU X x k ≤ rcL Y x' k'
      · have := rc_far hX hY hk0 hk0' hf
        rw [show sgn ((k * X ^ x.toNat * (1 * Y ^ (-x').toNat) : Nat) : Int) ((k' * Y ^ x'.toNat * (1 * X ^ (-x).toNat) : Nat) : Int) = -1 by unfold sgn; rw [if_pos (by omega)]]
        exact sz_far 1 x b s g k hk 1 x' b' s' g' k' hk' w rfl rfl _ _ _ _ _ (Or.inl ⟨hf, rfl⟩) c1 c2 c3 c4
      · by_cases hf' : rcU Y x' k' ≤ rcL X x k
        · have := rc_far hY hX hk0' hk0 hf'
          rw [show sgn ((k * X ^ x.toNat * (1 * Y ^ (-x').toNat) : Nat) : Int) ((k' * Y ^ x'.toNat * (1 * X ^ (-x).toNat) : Nat) : Int) = 1 by unfold sgn; rw [if_neg (by omega), if_pos (by omega)]]
          exact sz_far 1 x b s g k hk 1 x' b' s' g' k' hk' w rfl rfl _ _ _ _ _ (Or.inr ⟨hf, hf', rfl⟩) c1 c2 c3 c4
        · exact sz_meet 1 x b s g k hk 1 x' b' s' g' k' hk' w rfl rfl _ _ _ _ _ hf hf' c1 c2 c3 c4 (fun W => onr_v hX hY hb hb' hk hk' hx hx' (rc_meet hX hY hk hk' hx hx' hx10 hy10 hf hf') W)
end Go.Proofs.YtgknbdehlmlipaaDoor
