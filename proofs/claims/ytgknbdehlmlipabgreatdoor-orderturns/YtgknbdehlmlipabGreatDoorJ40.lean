/-
  Texts that the proof leans on.
-/
import Derived.Test.YtgknbdehlmlipabGreatDoorJ38
import Derived.Test.YtgknbdehlmlipabGreatDoorJ26
import Derived.Test.YtgknbdehlmlipabGreatDoorJ3
import Derived.Test.YtgknbdehlmlipabGreatDoorJ37
import Derived.Test.YtgknbdehlmlipabGreatDoorJ35
import Derived.Test.YtgknbdehlmlipabGreatDoorJ22
import Derived.Test.YtgknbdehlmlipabGreatDoorJ19
import Derived.Test.YtgknbdehlmlipabGreatDoorJ20
import Derived.Deep.Cut
import Derived.Deep.CutRange
import Derived.Laws.IdiomCopy
import Derived.Test.YtgknbdehlmlipabGreatDoorJ24
import Derived.Test.YtgknbdehlmlipabGreatDoorJ23
set_option linter.unusedVariables false
set_option linter.unusedSectionVars false
set_option linter.unusedSimpArgs false
set_option maxRecDepth 20000
namespace Go.Proofs.YtgknbdehlmlipabGreatDoor
open Go.RowKit
attribute [local irreducible] W4 Nt Nz NT
set_option maxHeartbeats 2000000 in
theorem otm_l (k : Nat) (t f : Int) (w : World) (hk : k < 2 ^ 256) (hf : -12000 ≤ f ∧ f ≤ 12000) (ht : -40000 ≤ t ∧ t ≤ 40000) (P R : Nat)
    (c1 : ∀ W e, e = max f 0 → Calls Tryz.prog 81 #[.int .i64 5, .int .i64 e] W fun r w' => ∃ v, r = .returned (.tuple #[v, .int .i64 0]) ∧ NT 2001 P v w' ∧ Below W.heap.size W w')
    (c2 : ∀ W v v', Nt 4 k v W → NT 2001 P v' W → Calls Tryz.prog 82 #[v, v'] W fun r w' => ∃ q, r = .returned (.tuple #[q, .int .i64 0]) ∧ NT 2001 (k * P) q w' ∧ Below W.heap.size W w')
    (c3 : ∀ W v e, e = max t 0 → NT 2001 (k * P) v W → Calls Tryz.prog 83 #[v, .int .i64 e] W fun r w' => ∃ q, r = .returned (.tuple #[q, .int .i64 0]) ∧ NT 2001 R q w' ∧ Below W.heap.size W w') :
    Calls Tryz.prog 61 #[A4 k, .int .i64 t, .int .i64 f] w fun r w' => ∃ q, r = .returned q ∧ NT 2001 R q w' ∧ Below w.heap.size w w' := by
  have hbx := fun W hW => b4_new (w0 := w) (w := W) (k := k) (t := 24) hk hW
  have hsm := cell_set_map
  unfold A4
  go_enter Tryz.func61, Tryz.ntmps61
  go_wp2_with (first
    | (go_at_call 81; refine (c1 _ _ rfl).mono ?_; rintro r w1 ⟨v1, rfl, hv1, hb1⟩; have hv0 := hbx _ hb1; obtain ⟨hc1, hf1⟩ := bcell hb1; have hz1_0 : w.heap.size < w1.heap.size := lt_below hb1 ltg; have hl1_0 := Nat.le_of_lt hz1_0; have hA1 := bnext (w0 := w) bgo hb1; have hs1 := hA1.size; clear hb1)
    | (go_at_call 82; refine (c2 _ _ _ hv0 hv1).mono ?_; rintro r w2 ⟨v2, rfl, hv2, hb2⟩; obtain ⟨hc2, hf2⟩ := bcell hb2; have hz2_0 : w.heap.size < w2.heap.size := lt_below hb2 ltg; have hl2_0 := Nat.le_of_lt hz2_0; have hA2 := bnext (w0 := w) bgo hb2; have hs2 := hA2.size; clear hb2)
    | (go_at_call 83; refine (c3 _ _ _ rfl hv2).mono ?_; rintro r w3 ⟨v3, rfl, hv3, hb3⟩; obtain ⟨hc3, hf3⟩ := bcell hb3; have hz3_0 : w.heap.size < w3.heap.size := lt_below hb3 ltg; have hl3_0 := Nat.le_of_lt hz3_0; have hA3 := bnext (w0 := w) bgo hb3; have hs3 := hA3.size; clear hb3))
  go_ret
  exact ⟨v3, rfl, hv3, bgo⟩
theorem tmV_eq (k : Nat) (t f : Int) : tmV k t f = k * 5 ^ (max f 0).toNat * 2 ^ (max t 0).toNat := by
  unfold tmV
  rw [show (max f 0).toNat = f.toNat by omega, show (max t 0).toNat = t.toNat by omega]
theorem otm_v (k : Nat) (t f : Int) (w : World) (hk : k < 2 ^ 256) (hf : -12000 ≤ f ∧ f ≤ 12000) (ht : -40000 ≤ t ∧ t ≤ 40000) :
    Calls Tryz.prog 61 #[A4 k, .int .i64 t, .int .i64 f] w fun r w' => ∃ q, r = .returned q ∧ NT 2001 (tmV k t f) q w' ∧ Below w.heap.size w w' := by
  have hA : bl k ≤ 256 := bl_le.2 hk
  have hm := five_bl (max f 0).toNat
  have hbm := bl_mul k (5 ^ (max f 0).toNat)
  rw [tmV_eq]
  refine otm_l k t f w hk hf ht (5 ^ (max f 0).toNat) _ (fun W e he => ?_) (fun W v v' hv hv' => nmul_w (by decide) (by decide) hv hv'.nt (by omega)) (fun W v e he hv => ?_)
  · have := npow5z (max f 0).toNat W (by omega)
    rw [show (((max f 0).toNat : Nat) : Int) = e by omega] at this
    exact this
  · have := nshl_w (w := W) (max t 0).toNat (by decide) hv.nt (by omega)
    rw [show (((max t 0).toNat : Nat) : Int) = e by omega] at this
    exact this
section
variable (c x b : Int) (s g : Bool) (k : Nat) (c' x' b' : Int) (s' g' : Bool) (k' : Nat) (w : World)
set_option maxHeartbeats 4000000 in
theorem onr_l (hx : -20000 ≤ x ∧ x ≤ 20000) (hx' : -20000 ≤ x' ∧ x' ≤ 20000) (F F' : Int) (hF : -20000 ≤ F ∧ F ≤ 20000) (hF' : -20000 ≤ F' ∧ F' ≤ 20000) (T T' : Nat) (R : Int)
    (c1 : ∀ W, Calls Tryz.prog 60 #[OV c s g x k b] W fun r w' => r = .returned (.int .i64 F) ∧ Below W.heap.size W w')
    (c2 : ∀ W, Calls Tryz.prog 60 #[OV c' s' g' x' k' b'] W fun r w' => r = .returned (.int .i64 F') ∧ Below W.heap.size W w')
    (c3 : ∀ W, Calls Tryz.prog 61 #[A4 k, .int .i64 (x - x'), .int .i64 (F - F')] W fun r w' => ∃ q, r = .returned q ∧ NT 2001 T q w' ∧ Below W.heap.size W w')
    (c4 : ∀ W, Calls Tryz.prog 61 #[A4 k', .int .i64 (-(x - x')), .int .i64 (-(F - F'))] W fun r w' => ∃ q, r = .returned q ∧ NT 2001 T' q w' ∧ Below W.heap.size W w')
    (c5 : ∀ W v v', NT 2001 T v W → NT 2001 T' v' W → Calls Tryz.prog 29 #[v, v'] W fun r w' => r = .returned (.int .i64 R) ∧ Below W.heap.size W w') :
    Calls Tryz.prog 42 #[OV c s g x k b, OV c' s' g' x' k' b'] w fun r w' => r = .returned (.int .i64 R) ∧ Below w.heap.size w w' := by
  have hsm := cell_set_map
  go_enter Tryz.func42, Tryz.ntmps42
  go_wp2
  refine wp_whole (by kernel_rfl) (by kernel_rfl) fun hne hcell => ?_
  repeat go_big_quiet_step (fail)
  go_big_quiet_step ((go_at_call 60; exact calls_wd _ bk_next (c1 _)))
  repeat go_big_quiet_step (fail)
  go_big_quiet_step ((go_at_call 60; exact calls_wd _ bk_next (c2 _)))
  repeat go_big_quiet_step (fail)
  refine wpQuiet_nil fun w1 hb1 => ?_
  obtain ⟨hc1, hf1⟩ := bcell hb1; have hz1_0 : w.heap.size < w1.heap.size := lt_below hb1 ltg; have hl1_0 := Nat.le_of_lt hz1_0; have hz1_1 : w.heap.size + 1 < w1.heap.size := lt_below hb1 ltg; have hl1_1 := Nat.le_of_lt hz1_1; have hA1 := bnext (w0 := w) bgo hb1; have hs1 := hA1.size; clear hb1
  go_wp2
  refine regNr2 (h := w.heap.size) (j := w.heap.size + 1) (k := k) (k' := k') (D := x - x') (G := F - F') (T := T) (T' := T') (R := R) (by omega) (by omega) (fun _ _ d _ _ h => by cases d <;> exact h) rfl rfl rfl rfl rfl (by first | omega | (simp; omega) | simp) (by go_simp) (by go_simp) (by go_simp) (by go_simp) (by first | omega | (simp; omega) | simp) (by go_simp) (by go_simp) (by go_simp) (by go_simp) c3 c4 c5 ?_
  intro a' w4 h4 hsz hdf hF2 hb4
  have ha := act_of slotsANr2 16 rfl hsz hdf hF2
  rw [ha]
  simp only [slotsANr2, List.foldl_cons, List.foldl_nil, Act.put, List.setIfInBounds_toArray, List.set_cons_succ, List.set_cons_zero, h4]
  generalize slot a' 19 = s19
  generalize slot a' 20 = s20
  generalize slot a' 21 = s21
  generalize slot a' 22 = s22
  generalize slot a' 23 = s23
  generalize slot a' 24 = s24
  generalize slot a' 25 = s25
  generalize slot a' 26 = s26
  generalize slot a' 27 = s27
  generalize slot a' 28 = s28
  generalize slot a' 29 = s29
  generalize slot a' 30 = s30
  generalize slot a' 31 = s31
  generalize slot a' 32 = s32
  generalize slot a' 33 = s33
  clear ha h4 hsz hdf hF2
  obtain ⟨hc4, hf4⟩ := bcell hb4; have hz4_0 : w.heap.size < w4.heap.size := lt_below hb4 ltg; have hl4_0 := Nat.le_of_lt hz4_0; have hz4_1 : w.heap.size + 1 < w4.heap.size := lt_below hb4 ltg; have hl4_1 := Nat.le_of_lt hz4_1; have hA4 := bnext (w0 := w) bgo hb4; have hs4 := hA4.size; clear hb4
  go_wp2
  go_ret
  exact ⟨by first | rfl | simp, bgo⟩
end
theorem ofv_v {b : Int} {X : Nat} (hX : X = 2 ∨ X = 10) (hb : b = (X : Int)) (c x : Int) (s g : Bool) (k : Nat) (hk : k < 2 ^ 256) (w : World) : Calls Tryz.prog 60 #[OV c s g x k b] w fun r w' => r = .returned (.int .i64 (fvE X x)) ∧ Below w.heap.size w w' := by
  subst hb
  rcases hX with rfl | rfl
  · exact fives_2 c x s g k hk w
  · exact fives_10 c x s g k hk w
theorem fvE_bd {X : Nat} {x : Int} (h : -20000 ≤ x ∧ x ≤ 20000) : -20000 ≤ fvE X x ∧ fvE X x ≤ 20000 := by
  unfold fvE
  split <;> omega
/-- near, of numbers whose reaches meet -/
theorem onr_v {X Y : Nat} (hX : X = 2 ∨ X = 10) (hY : Y = 2 ∨ Y = 10) {c x b : Int} {s g : Bool} {k : Nat} {c' x' b' : Int} {s' g' : Bool} {k' : Nat} (hb : b = (X : Int)) (hb' : b' = (Y : Int)) (hk : k < 2 ^ 256) (hk' : k' < 2 ^ 256)
    (hx : -20000 ≤ x ∧ x ≤ 20000) (hx' : -20000 ≤ x' ∧ x' ≤ 20000) (hf : -12000 ≤ fvE X x - fvE Y x' ∧ fvE X x - fvE Y x' ≤ 12000) (w : World) :
    Calls Tryz.prog 42 #[OV c s g x k b, OV c' s' g' x' k' b'] w fun r w' => r = .returned (.int .i64 (sgn ((k * X ^ x.toNat * (1 * Y ^ (-x').toNat) : Nat) : Int) ((k' * Y ^ x'.toNat * (1 * X ^ (-x).toNat) : Nat) : Int))) ∧ Below w.heap.size w w' := by
  rw [← rc_near hX hY k k' x x']
  exact onr_l c x b s g k c' x' b' s' g' k' w hx hx' _ _ (fvE_bd hx) (fvE_bd hx') _ _ _ (fun W => ofv_v hX hb c x s g k hk W) (fun W => ofv_v hY hb' c' x' s' g' k' hk' W)
    (fun W => otm_v k _ _ W hk hf (by omega)) (fun W => otm_v k' _ _ W hk' (by omega) (by omega)) (fun W v v' hv hv' => ncmp_v (by decide) (by decide) hv.nt hv'.nt)
end Go.Proofs.YtgknbdehlmlipabGreatDoor

namespace Go.Proofs.YtgknbdehlmlipabGreatDoor
open Go.RowKit
theorem tnX_eq {N D : Nat} {E : Int} (hN : 0 < N) (hD : 0 < D) (h : TnE N D E) : tnX N D = E := (tnX_is hN hD).only h
theorem third : rqD 7 0 false 1 3 0 0 = ⟨1, false, false, -7, 3333333⟩ ∧ rqF 7 0 false 1 3 0 = 8 ∧ rqE 7 0 1 3 = 0 := by
  have e0 : rqE 7 0 1 3 = 0 := by
    have b1 : bl 1 ≤ 2 := bl_le.2 (by decide)
    have b3 : bl 3 ≤ 2 := bl_le.2 (by decide)
    unfold rqE
    rw [if_pos ⟨by unfold decN; omega, by unfold knB; omega, by decide⟩, if_neg (by omega)]
  have eX : tnX (1 * 10 ^ (clT 0).toNat) (3 * 10 ^ (-(clT 0)).toNat) = -1 := tnX_eq (by decide) (by decide) ⟨by decide, by decide⟩
  refine ⟨?_, ?_, e0⟩
  · unfold rqD
    rw [if_pos e0, if_neg (by decide), eX]
    have h1 : (dkD (fD 7) 0 false (1 * 10 ^ (clT 0).toNat) (3 * 10 ^ (-(clT 0)).toNat) (-1) 0).c = 1 ∧ (dkD (fD 7) 0 false (1 * 10 ^ (clT 0).toNat) (3 * 10 ^ (-(clT 0)).toNat) (-1) 0).s = false ∧ (dkD (fD 7) 0 false (1 * 10 ^ (clT 0).toNat) (3 * 10 ^ (-(clT 0)).toNat) (-1) 0).g = false ∧ (dkD (fD 7) 0 false (1 * 10 ^ (clT 0).toNat) (3 * 10 ^ (-(clT 0)).toNat) (-1) 0).x = -7 ∧ (dkD (fD 7) 0 false (1 * 10 ^ (clT 0).toNat) (3 * 10 ^ (-(clT 0)).toNat) (-1) 0).k = 3333333 := by decide +kernel
    generalize dkD (fD 7) 0 false (1 * 10 ^ (clT 0).toNat) (3 * 10 ^ (-(clT 0)).toNat) (-1) 0 = R at h1 ⊢
    obtain ⟨c, s, g, x, k⟩ := R
    simp only at h1
    obtain ⟨rfl, rfl, rfl, rfl, rfl⟩ := h1
    rfl
  · unfold rqF
    rw [if_pos e0, if_neg (by decide), eX]
    decide +kernel
attribute [local irreducible] W4 Nt
end Go.Proofs.YtgknbdehlmlipabGreatDoor

namespace Go.Proofs.YtgknbdehlmlipabGreatDoor
open Go.RowKit
attribute [local irreducible] W4
/-- Unpack's answers of a good pattern and of another one -/
theorem vU_good {n : Int} {B : Nat} (h : goodD n B) : vUD n B = vM (fD n) B ∧ vUC n B = decide (vP (fD n) (vM (fD n) B) = B) ∧ vUE n B = 0 := by
  unfold vUD vUC vUE
  exact ⟨if_pos h, decide_eq_decide.2 ⟨fun q => q.2, fun q => ⟨h, q⟩⟩, if_pos h⟩
theorem vU_bad {n : Int} {B : Nat} (h : ¬ goodD n B) : vUD n B = ⟨0, false, false, 0, 0⟩ ∧ vUC n B = false ∧ vUE n B = 1 := by
  unfold vUD vUC vUE
  exact ⟨if_neg h, decide_eq_false fun q => h q.1, if_neg h⟩
end Go.Proofs.YtgknbdehlmlipabGreatDoor
