/-
  Texts that the proof leans on, joined: Vm, Vn, Uh, Uj, Eg, Uk, Ul.
-/
import Derived.Test.YtmommdhnogogdaaGreatDoorJ45
import Derived.Test.YtmommdhnogogdaaGreatDoorJ1
import Derived.Test.YtmommdhnogogdaaGreatDoorJ30
import Derived.Test.YtmommdhnogogdaaGreatDoorJ17
import Derived.Test.YtmommdhnogogdaaGreatDoorJ37
set_option linter.unusedVariables false
set_option linter.unusedSectionVars false
set_option linter.unusedSimpArgs false
set_option maxRecDepth 20000
namespace Go.Proofs.YtmommdhnogogdaaGreatDoor
open Go.RowKit
/-- Unpack's answer -/
def vUD (n : Int) (B : Nat) : Dat := if goodD n B then vM (fD n) B else ⟨0, false, false, 0, 0⟩
def vUC (n : Int) (B : Nat) : Bool := decide (goodD n B ∧ vP (fD n) (vM (fD n) B) = B)
def vUE (n : Int) (B : Nat) : Int := if goodD n B then 0 else 1
theorem vUD_256 (n : Int) (B : Nat) : (vUD n B).k < 2 ^ 256 := by
  unfold vUD
  split
  · exact vM_256 (fD_ok n) B
  · decide
theorem eq_words {X Y : Nat} (hX : X < 2 ^ 256) (hY : Y < 2 ^ 256) : decide (W4 X 0 = W4 Y 0 ∧ W4 X 1 = W4 Y 1 ∧ W4 X 2 = W4 Y 2 ∧ W4 X 3 = W4 Y 3) = decide (X = Y) := by
  refine decide_eq_decide.2 ⟨fun ⟨h0, h1, h2, h3⟩ => A4_inj hX hY fun i hi => ?_, fun h => by rw [h]; exact ⟨rfl, rfl, rfl, rfl⟩⟩
  have : i = 0 ∨ i = 1 ∨ i = 2 ∨ i = 3 := by omega
  rcases this with rfl | rfl | rfl | rfl
  · exact h0
  · exact h1
  · exact h2
  · exact h3
attribute [local irreducible] W4
section
variable (n : Int) (B : Nat) (w : World)
set_option maxHeartbeats 1000000 in
theorem vun_n (c16 : ∀ W, Calls Tryz.prog 20 #[.int .i64 n, A4 B] W fun r w' => r = .returned (.bool false) ∧ Below W.heap.size W w') :
    Calls Tryz.prog 8 #[.int .i64 n, A4 B] w fun r w' => r = .returned (.tuple #[.agg #[.int .i64 0, .bool false, .bool false, .int .i64 0, .int .u64 0, .int .u64 0, .int .u64 0, .int .u64 0], .bool false, .int .i64 1]) ∧ Below w.heap.size w w' := by
  have hsm := cell_set_map
  go_enter Tryz.func8, Tryz.ntmps8
  go_wp2_with (go_at_call 20; refine (c16 _).mono ?_; rintro r w1 ⟨rfl, hb1⟩; obtain ⟨hc1, hf1⟩ := bcell hb1; have hz1_0 : w.heap.size < w1.heap.size := lt_below hb1 ltg; have hl1_0 := Nat.le_of_lt hz1_0; have hz1_1 : w.heap.size + 1 < w1.heap.size := lt_below hb1 ltg; have hl1_1 := Nat.le_of_lt hz1_1; have hA1 := bnext (w0 := w) bgo hb1; have hs1 := hA1.size; clear hb1)
  exact bodyPost_ret (by simp only [results, Tryz.results8]; go_simp) rfl ⟨rfl, bgo⟩
set_option maxHeartbeats 4000000 in
theorem vun_y (c x : Int) (s g : Bool) (k P : Nat) (E : Int) (R : Bool) (hR : decide (W4 P 0 = W4 B 0 ∧ W4 P 1 = W4 B 1 ∧ W4 P 2 = W4 B 2 ∧ W4 P 3 = W4 B 3) = R)
    (c16 : ∀ W, Calls Tryz.prog 20 #[.int .i64 n, A4 B] W fun r w' => r = .returned (.bool true) ∧ Below W.heap.size W w')
    (c17 : ∀ W, Calls Tryz.prog 21 #[.int .i64 n, A4 B] W fun r w' => r = .returned (DV c s g x k) ∧ Below W.heap.size W w')
    (c13 : ∀ W, Calls Tryz.prog 22 #[.int .i64 n, DV c s g x k] W fun r w' => r = .returned (.tuple #[A4 P, .int .i64 E]) ∧ Below W.heap.size W w') :
    Calls Tryz.prog 8 #[.int .i64 n, A4 B] w fun r w' => r = .returned (.tuple #[DV c s g x k, .bool R, .int .i64 0]) ∧ Below w.heap.size w w' := by
  have h24 := eq24 (W4 P 0) (W4 P 1) (W4 P 2) (W4 P 3) (W4 B 0) (W4 B 1) (W4 B 2) (W4 B 3)
  rw [hR] at h24
  clear hR
  have hsm := cell_set_map
  unfold DV A4 at *
  go_enter Tryz.func8, Tryz.ntmps8
  go_wp2_with (first
    | (go_at_call 20; refine (c16 _).mono ?_; rintro r w1 ⟨rfl, hb1⟩; obtain ⟨hc1, hf1⟩ := bcell hb1; have hz1_0 : w.heap.size < w1.heap.size := lt_below hb1 ltg; have hl1_0 := Nat.le_of_lt hz1_0; have hz1_1 : w.heap.size + 1 < w1.heap.size := lt_below hb1 ltg; have hl1_1 := Nat.le_of_lt hz1_1; have hA1 := bnext (w0 := w) bgo hb1; have hs1 := hA1.size; clear hb1)
    | (go_at_call 21; refine (c17 _).mono ?_; rintro r w2 ⟨rfl, hb2⟩; obtain ⟨hc2, hf2⟩ := bcell hb2; have hz2_0 : w.heap.size < w2.heap.size := lt_below hb2 ltg; have hl2_0 := Nat.le_of_lt hz2_0; have hz2_1 : w.heap.size + 1 < w2.heap.size := lt_below hb2 ltg; have hl2_1 := Nat.le_of_lt hz2_1; have hA2 := bnext (w0 := w) bgo hb2; have hs2 := hA2.size; clear hb2)
    | (go_at_call 22; refine (c13 _).mono ?_; rintro r w3 ⟨rfl, hb3⟩; obtain ⟨hc3, hf3⟩ := bcell hb3; have hz3_0 : w.heap.size < w3.heap.size := lt_below hb3 ltg; have hl3_0 := Nat.le_of_lt hz3_0; have hz3_1 : w.heap.size + 1 < w3.heap.size := lt_below hb3 ltg; have hl3_1 := Nat.le_of_lt hz3_1; have hz3_2 : w2.heap.size < w3.heap.size := lt_below hb3 ltg; have hl3_2 := Nat.le_of_lt hz3_2; have hA3 := bnext (w0 := w) bgo hb3; have hs3 := hA3.size; clear hb3))
  go_region_with (fail)
  all_goals go_wp2
  all_goals exact bodyPost_ret (by simp only [results, Tryz.results8]; go_simp) rfl ⟨rfl, bgo⟩
end
theorem zero_v : (Dat.mk 0 false false 0 0).v = .agg #[.int .i64 0, .bool false, .bool false, .int .i64 0, .int .u64 0, .int .u64 0, .int .u64 0, .int .u64 0] := by unfold Dat.v DV; simp only [W4_zero]
theorem vPV_of {n : Int} {B : Nat} (h : goodD n B) : vPV n (vM (fD n) B) = vP (fD n) (vM (fD n) B) ∧ vPE n (vM (fD n) B) = 0 := by
  have hi := vM_is (fD_ok n) B
  unfold vPV vPE
  exact ⟨if_pos ⟨h.1, hi⟩, by rw [if_pos h.1, if_pos hi]⟩
theorem runp14 (n : Int) (B : Nat) (w : World) (hB : B < 2 ^ 256) :
    Calls Tryz.prog 8 #[.int .i64 n, A4 B] w fun r w' => r = .returned (.tuple #[(vUD n B).v, .bool (vUC n B), .int .i64 (vUE n B)]) ∧ Below w.heap.size w w' := by
  have c16 := fun W => rgood14 n B hB W
  unfold vUD vUC vUE
  by_cases h : goodD n B
  · rw [if_pos h, if_pos h]
    rw [decide_eq_true h] at c16
    obtain ⟨e1, e2⟩ := vPV_of h
    have c13 := fun W => rpk14 n (vM (fD n) B) W (vM_256 (fD_ok n) B)
    rw [e1] at c13
    refine vun_y n B w _ _ _ _ _ _ _ _ ?_ c16 (fun W => rmean14 h.1 B W hB) c13
    rw [eq_words (vP_256 (fD_ok n) (vM_is (fD_ok n) B)) hB]
    exact decide_eq_decide.2 ⟨fun q => ⟨h, q⟩, fun q => q.2⟩
  · rw [if_neg h, if_neg h, decide_eq_false (fun q => h q.1), zero_v]
    rw [decide_eq_false h] at c16
    exact vun_n n B w c16
end Go.Proofs.YtmommdhnogogdaaGreatDoor

namespace Go.Proofs.YtmommdhnogogdaaGreatDoor
open Go.RowKit
theorem DV_same (c x : Int) (s g : Bool) (k : Nat) (w : World) : Sem.run Tryz.prog (Op.equalIn 10000 28 (.agg #[.int .i64 c, .bool s, .bool g, .int .i64 x, .int .u64 (W4 k 0), .int .u64 (W4 k 1), .int .u64 (W4 k 2), .int .u64 (W4 k 3)]) (.agg #[.int .i64 c, .bool s, .bool g, .int .i64 x, .int .u64 (W4 k 0), .int .u64 (W4 k 1), .int .u64 (W4 k 2), .int .u64 (W4 k 3)])) w = .ok true w := by
  have := eq27 c c s s g g x x (W4 k 0) (W4 k 1) (W4 k 2) (W4 k 3) (W4 k 0) (W4 k 1) (W4 k 2) (W4 k 3) w
  rw [decide_eq_true ⟨rfl, rfl, rfl, rfl, rfl, rfl, rfl, rfl⟩] at this
  exact this
attribute [local irreducible] W4
end Go.Proofs.YtmommdhnogogdaaGreatDoor

namespace Go.Proofs.YtmommdhnogogdaaGreatDoor
open Go.RowKit
theorem tnX_eq {N D : Nat} {E : Int} (hN : 0 < N) (hD : 0 < D) (h : TnE N D E) : tnX N D = E := (tnX_is hN hD).only h
theorem third : rqD 7 0 false 1 3 0 0 = ⟨1, false, false, -7, 3333333⟩ ∧ rqF 7 0 false 1 3 0 = 8 ∧ rqE 7 0 1 3 = 0 := by
  have e0 : rqE 7 0 1 3 = 0 := by
    have b1 : bl 1 ≤ 2 := bl_le.2 (by decide)
    have b3 : bl 3 ≤ 2 := bl_le.2 (by decide)
    unfold rqE
    rw [if_pos ⟨by unfold decN; omega, by unfold knB; omega, by decide⟩, if_neg (by omega)]
  have eX : tnX (1 * 10 ^ (clT 0).toNat) (3 * 10 ^ (-(clT 0)).toNat) = -1 := tnX_eq (by decide) (by decide) ⟨by decide, by decide⟩
  refine ⟨?_, ?_, e0⟩
  · unfold rqD
    rw [if_pos e0, if_neg (by decide), eX]
    have h1 : (dkD (fD 7) 0 false (1 * 10 ^ (clT 0).toNat) (3 * 10 ^ (-(clT 0)).toNat) (-1) 0).c = 1 ∧ (dkD (fD 7) 0 false (1 * 10 ^ (clT 0).toNat) (3 * 10 ^ (-(clT 0)).toNat) (-1) 0).s = false ∧ (dkD (fD 7) 0 false (1 * 10 ^ (clT 0).toNat) (3 * 10 ^ (-(clT 0)).toNat) (-1) 0).g = false ∧ (dkD (fD 7) 0 false (1 * 10 ^ (clT 0).toNat) (3 * 10 ^ (-(clT 0)).toNat) (-1) 0).x = -7 ∧ (dkD (fD 7) 0 false (1 * 10 ^ (clT 0).toNat) (3 * 10 ^ (-(clT 0)).toNat) (-1) 0).k = 3333333 := by decide +kernel
    generalize dkD (fD 7) 0 false (1 * 10 ^ (clT 0).toNat) (3 * 10 ^ (-(clT 0)).toNat) (-1) 0 = R at h1 ⊢
    obtain ⟨c, s, g, x, k⟩ := R
    simp only at h1
    obtain ⟨rfl, rfl, rfl, rfl, rfl⟩ := h1
    rfl
  · unfold rqF
    rw [if_pos e0, if_neg (by decide), eX]
    decide +kernel
attribute [local irreducible] W4 Nt
section
variable (TT : World → Prop) (hTT : ∀ w w', TT w → Below w.heap.size w w' → TT w')
include hTT
set_option maxHeartbeats 1000000 in
theorem awake15 (w : World) (hT : TT w) (dD : ∀ W vn vd, TT W → Nt 2001 1 vn W → Nt 2001 3 vd W → Calls Tryz.prog 11 #[.int .i64 7, .int .i64 0, .bool false, vn, vd, .int .i64 0, .int .i64 0] W fun r w' => r = .returned (.tuple #[(rqD 7 0 false 1 3 0 0).v, .int .i64 (rqF 7 0 false 1 3 0), .int .i64 (rqE 7 0 1 3)]) ∧ Below W.heap.size W w') :
    Calls Tryz.prog 5 #[] w fun r w' => r = .returned (.bool true) ∧ Below w.heap.size w w' := by
  obtain ⟨e1, e2, e3⟩ := third
  rw [e1, e2, e3] at dD
  have hr : (Dat.mk 1 false false (-7) 3333333).v = .agg #[.int .i64 1, .bool false, .bool false, .int .i64 (-7), .int .u64 3333333, .int .u64 0, .int .u64 0, .int .u64 0] := by
    unfold Dat.v DV; rw [show W4 3333333 0 = 3333333 by unfold W4; decide +kernel, show W4 3333333 1 = 0 by unfold W4; decide +kernel, show W4 3333333 2 = 0 by unfold W4; decide +kernel, show W4 3333333 3 = 0 by unfold W4; decide +kernel]
  rw [hr] at dD
  have hq := eq24 3333333 0 0 0 3333333 0 0 0
  simp only [and_self, decide_true] at hq
  have hsm := cell_set_map
  go_enter Tryz.func5, Tryz.ntmps5
  go_wp2_with (go_at_call 11; refine (dD _ _ _ (hTT _ _ hT bgo) (nt_one2 (by simp) rfl (by decide)) ((nt_one (by simp) rfl (by decide)).more (by decide))).mono ?_; rintro r w1 ⟨rfl, hb1⟩; obtain ⟨hc1, hf1⟩ := bcell hb1; have hz1_0 : w.heap.size < w1.heap.size := lt_below hb1 ltg; have hl1_0 := Nat.le_of_lt hz1_0; have hz1_1 : w.heap.size + 1 < w1.heap.size := lt_below hb1 ltg; have hl1_1 := Nat.le_of_lt hz1_1; have hA1 := bnext (w0 := w) bgo hb1; have hs1 := hA1.size; clear hb1)
  go_ret
  exact ⟨by first | rfl | simp, bgo⟩
variable (n d x y : Int) (s : Bool) (an ad : Option Addr) (kn cn kd cd : Nat) (w : World) (hT : TT w)
  (c9 : ∀ W, TT W → Calls Tryz.prog 5 #[] W fun r w' => r = .returned (.bool true) ∧ Below W.heap.size W w')
include hT c9
end
end Go.Proofs.YtmommdhnogogdaaGreatDoor

namespace Go.Proofs.YtmommdhnogogdaaGreatDoor
open Go.RowKit
/-- a word of the program's integers -/
def i6 (x : Int) : Prop := -9223372036854775808 ≤ x ∧ x ≤ 9223372036854775807
/-- what the package's calls answer, in a class of worlds -/
structure DrdC (TT : World → Prop) : Prop where
  next : ∀ w w', TT w → Below w.heap.size w w' → TT w'
  dec : ∀ n d x y s N D vn vd W, i6 n → i6 d → i6 x → i6 y → TT W → Nt 2001 N vn W → Nt 2001 D vd W → Calls Tryz.prog 11 #[.int .i64 n, .int .i64 d, .bool s, vn, vd, .int .i64 x, .int .i64 y] W fun r w' => r = .returned (.tuple #[(rqD n d s N D x y).v, .int .i64 (rqF n d s N D x), .int .i64 (rqE n d N D)]) ∧ Below W.heap.size W w'
theorem DrdC.awk {TT : World → Prop} (h : DrdC TT) (W : World) (hT : TT W) : Calls Tryz.prog 5 #[] W fun r w' => r = .returned (.bool true) ∧ Below W.heap.size W w' :=
  awake15 TT h.next W hT fun W vn vd hT' h1 h2 => h.dec 7 0 0 0 false 1 3 vn vd W (by unfold i6; omega) (by unfold i6; omega) (by unfold i6; omega) (by unfold i6; omega) hT' h1 h2
theorem num_Nt {w : World} {a : Option Addr} {k c : Nat} {z : Nat → Int} (h : Num w a k c z) (hk : k ≤ 2001) : Nt 2001 (val z k).toNat (.slice a k c) w :=
  ⟨a, k, c, z, rfl, hk, h, by have := (val_bd h.2.2.1 k).1; omega⟩
end Go.Proofs.YtmommdhnogogdaaGreatDoor

namespace Go.Proofs.YtmommdhnogogdaaGreatDoor
open Go.RowKit
theorem dof_dec {n : Int} (h : decN n) (w : World) (hT : Tab w) : Calls Tryz.prog 60 #[.int .i64 n] w fun x w' => x = .returned (.tuple #[IDec n (nameN n) (widthN n) (3 * ((fD n).j : Int) + 1) (expN n) (fD n).l (fD n).m (payN n) (denseN n), .int .i64 0]) ∧ Below w.heap.size w w' := by
  obtain ⟨hok, h1, h2, h3, h4, h5, h6, h7, h8⟩ := dec_fields h
  have c := ofv_any n w hT
  rw [show infoE n = 0 from if_pos hok, h1, h2, h4, h5, h6] at c
  exact c
theorem not_decE {n : Int} (hok : okN n) (h : ¬ decN n) : (baseN n != 10) = true := by
  unfold okN at hok
  unfold decN at h
  have : n = 1 ∨ n = 2 ∨ n = 3 ∨ n = 4 ∨ n = 5 ∨ n = 6 := by omega
  rcases this with rfl | rfl | rfl | rfl | rfl | rfl <;> decide
section
variable {n d : Int} {N D : Nat} {vn vd : Value} {w : World} (hT : Tab w) (hn : Nt 2001 N vn w) (hd : Nt 2001 D vd w)
include hT hn hd
theorem dchk_bad (hE : rqE n d N D ≠ 0) : Calls Tryz.prog 23 #[.int .i64 n, .int .i64 d, vn, vd] w fun r w' => r = .returned (.tuple #[IZ, .int .i64 (rqE n d N D)]) ∧ Below w.heap.size w w' := by
  have c66 := fun W (hb : Below w.heap.size w W) => nlen_v (by decide) (hn.next hb)
  have c66d := fun W (hb : Below w.heap.size w W) => nlen_v (by decide) (hd.next hb)
  unfold rqE at hE ⊢
  by_cases h1 : decN n
  · by_cases h2 : knB d
    · by_cases h3 : D = 0
      · rw [if_neg (fun h => h.2.2 h3)]
        exact dcheck_z n d _ _ _ _ _ _ _ _ N D vn vd w hT c66 c66d (decide_eq_true h2) (by rw [h3]; rfl) (fun W hT' => dof_dec h1 W hT')
      · rw [if_pos ⟨h1, h2, h3⟩] at hE ⊢
        have hD0 : (((bl D : Nat) : Int) == 0) = false := by rw [bl_nought]; exact decide_eq_false h3
        by_cases h4 : 25600 < bl N
        · rw [if_pos (Or.inl h4)]
          exact dcheck_n n d _ _ _ _ _ _ _ _ N D vn vd w hT c66 c66d (decide_eq_true h2) hD0 (by omega) (fun W hT' => dof_dec h1 W hT')
        · by_cases h5 : 25600 < bl D
          · rw [if_pos (Or.inr h5)]
            exact dcheck_l n d _ _ _ _ _ _ _ _ N D vn vd w hT c66 c66d (decide_eq_true h2) hD0 (by omega) (by omega) (fun W hT' => dof_dec h1 W hT')
          · exact absurd (if_neg (fun h => h.elim h4 h5)) hE
    · rw [if_neg (fun h => h2 h.2.1)]
      exact dcheck_d n d _ _ _ _ _ _ _ _ N D vn vd w hT c66 c66d (decide_eq_false h2) (fun W hT' => dof_dec h1 W hT')
  · rw [if_neg (fun h => h1 h.1)]
    by_cases hok : okN n
    · refine dcheck_b n d (nameN n) (widthN n) (precN n) (expN n) (leastN n) (mostN n) (payN n) (baseN n) (denseN n) N D vn vd w hT c66 c66d (numN n) (not_decE hok h1) (fun W hT' => ?_)
      have c := ofv_any n W hT'
      rw [show infoE n = 0 from if_pos hok] at c
      exact c
    · refine dcheck_e n d (nameN n) (widthN n) (precN n) (expN n) (leastN n) (mostN n) (payN n) (baseN n) (denseN n) N D vn vd w hT c66 c66d (numN n) 1 (by decide) (fun W hT' => ?_)
      have c := ofv_any n W hT'
      rw [show infoE n = 1 from if_neg hok] at c
      exact c
theorem dchk_ok (hE : rqE n d N D = 0) : Calls Tryz.prog 23 #[.int .i64 n, .int .i64 d, vn, vd] w fun r w' => r = .returned (.tuple #[IDec n (nameN n) (widthN n) (3 * ((fD n).j : Int) + 1) (expN n) (fD n).l (fD n).m (payN n) (denseN n), .int .i64 0]) ∧ Below w.heap.size w w' := by
  have c66 := fun W (hb : Below w.heap.size w W) => nlen_v (by decide) (hn.next hb)
  have c66d := fun W (hb : Below w.heap.size w W) => nlen_v (by decide) (hd.next hb)
  obtain ⟨h1, h2, h3, h4, h5⟩ := rq_zero hE
  exact dcheck_k n d _ _ _ _ _ _ _ _ N D vn vd w hT c66 c66d (decide_eq_true h2) (by rw [bl_nought]; exact decide_eq_false h3) (by omega) (by omega) (fun W hT' => dof_dec h1 W hT')
end
theorem ten_256 {f : DF} (hf : f.ok) : (10 : Nat) ^ (3 * f.j + 1) < 2 ^ 256 := by
  obtain ⟨m0, m1, l0, l1, lm, j0, j1⟩ := ok_m hf
  exact Nat.lt_of_le_of_lt (Nat.pow_le_pow_right (by decide) (show 3 * f.j + 1 ≤ 34 by omega)) (by decide)
theorem drd_v {n d x y : Int} {s : Bool} {N D : Nat} {vn vd : Value} {w : World} (hT : Tab w) (hn : Nt 2001 N vn w) (hd : Nt 2001 D vd w) :
    Calls Tryz.prog 11 #[.int .i64 n, .int .i64 d, .bool s, vn, vd, .int .i64 x, .int .i64 y] w fun r w' => r = .returned (.tuple #[(rqD n d s N D x y).v, .int .i64 (rqF n d s N D x), .int .i64 (rqE n d N D)]) ∧ Below w.heap.size w w' := by
  by_cases hE : rqE n d N D = 0
  · have c17 := fun W (hb : Below w.heap.size w W) => dchk_ok (hT.go hb) (hn.next hb) (hd.next hb) hE
    have c18 := fun W (hb : Below w.heap.size w W) => nlen_v (by decide) (hn.next hb)
    obtain ⟨h1, h2, h3, h4, h5⟩ := rq_zero hE
    have hf := fD_ok n
    obtain ⟨m0, m1, l0, l1, lm, j0, j1⟩ := ok_m hf
    by_cases hN : N = 0
    · have e1 : rqD n d s N D x y = ⟨1, s, false, min (max y (fD n).l) (fD n).m, 0⟩ := by unfold rqD; rw [if_pos hE, if_pos hN]
      have e2 : rqF n d s N D x = 0 := by unfold rqF; rw [if_pos hE, if_pos hN]
      rw [e1, e2, hE]
      have ev : (Dat.mk 1 s false (min (max y (fD n).l) (fD n).m) 0).v = .agg #[.int .i64 1, .bool s, .bool false, .int .i64 (min (max y (fD n).l) (fD n).m), .int .u64 0, .int .u64 0, .int .u64 0, .int .u64 0] := by
        unfold Dat.v DV
        simp only [W4_zero]
      rw [ev]
      exact ddec_z n d x y s vn vd w _ _ _ _ _ _ _ _ N _ _ _ _ _ _ _ _ c17 c18 (by rw [hN]; rfl) _ rfl (fun W => dfin_n s _ W)
    · obtain ⟨L, hL, _⟩ := dlead_v hn hd hN h3 h4 h5
      have c20 : ∀ W, Below w.heap.size w W → Calls Tryz.prog 26 #[vn, vd] W fun r w' => r = .returned (.int .i64 L) ∧ Below W.heap.size W w' := fun W hb => by
        obtain ⟨L', hL', c⟩ := dlead_v (hn.next hb) (hd.next hb) hN h3 h4 h5
        rw [hL'.only hL] at c
        exact c
      obtain ⟨b1, b2⟩ := tn_bd (by omega) (by omega) h4 h5 hL
      obtain ⟨r1, r2⟩ := drd_num (s := s) (x := x) (y := y) hE hN hL
      have hTn := TnE_sh hL (pX (fD n) L x)
      have c21 : ∀ W, Calls Tryz.prog 27 #[IDec n (nameN n) (widthN n) (3 * ((fD n).j : Int) + 1) (expN n) (fD n).l (fD n).m (payN n) (denseN n), .int .i64 L, .int .i64 x] W fun r w' => r = .returned (.int .i64 (pX (fD n) L x)) ∧ Below W.heap.size W w' := fun W =>
        dwithin_v n _ _ _ _ _ _ _ _ L x W (by omega) (by omega) (by omega) (by omega)
      have hXb : (fD n).l - 2 - L ≤ pX (fD n) L x ∧ pX (fD n) L x ≤ (fD n).m + (3 * (fD n).j + 1) - L := by unfold pX; omega
      have hC0 := dkC0_at (fD n) d s N D (pX (fD n) L x) (L + pX (fD n) L x)
      have hX0 := dkX_at (fD n) N D (pX (fD n) L x) (L + pX (fD n) L x)
      have hle := dkC0_le (f := fD n) (d := d) (s := s) (Nat.mul_pos (show 0 < D by omega) (ten_pos (-(pX (fD n) L x)).toNat)) hTn
      have hCl := dkC_lt (f := fD n) (d := d) (s := s) (Nat.mul_pos (show 0 < D by omega) (ten_pos (-(pX (fD n) L x)).toNat)) hTn
      have h256 := ten_256 hf
      have hql := dkE_ge (fD n) d s (N * 10 ^ (pX (fD n) L x).toNat) (D * 10 ^ (-(pX (fD n) L x)).toNat) (L + pX (fD n) L x)
      have hqq : max (fD n).l (L + pX (fD n) L x - (3 * ((fD n).j : Int) + 1) + 1) = dkQ (fD n) (L + pX (fD n) L x) := by unfold dkQ; omega
      have hqb : -20000 ≤ dkQ (fD n) (L + pX (fD n) L x) ∧ dkQ (fD n) (L + pX (fD n) L x) ≤ 20000 := by unfold dkQ; omega
      have hdf : -9100 ≤ pX (fD n) L x - dkQ (fD n) (L + pX (fD n) L x) ∧ pX (fD n) L x - dkQ (fD n) (L + pX (fD n) L x) ≤ 9100 := by unfold dkQ; omega
      rw [r1, r2, hE]
      clear r1 r2 hL
      unfold dkD dkF
      unfold dkM at *
      generalize hEq : dkE (fD n) d s (N * 10 ^ (pX (fD n) L x).toNat) (D * 10 ^ (-(pX (fD n) L x)).toNat) (L + pX (fD n) L x) = qe at *
      generalize hCq : dkC (fD n) d s (N * 10 ^ (pX (fD n) L x).toNat) (D * 10 ^ (-(pX (fD n) L x)).toNat) (L + pX (fD n) L x) = ce at *
      unfold dkE at hEq
      unfold dkC at hCq
      rw [hX0]
      generalize dkC0 (fD n) d s (N * 10 ^ (pX (fD n) L x).toNat) (D * 10 ^ (-(pX (fD n) L x)).toNat) (L + pX (fD n) L x) = C at *
      clear hX0 hTn
      generalize dkQ (fD n) (L + pX (fD n) L x) = q0 at *
      generalize pX (fD n) L x = X at *
      have c22 : ∀ W, Below w.heap.size w W → Calls Tryz.prog 28 #[vn, vd, .int .i64 (X - q0)] W fun r w' => ∃ va vb, r = .returned (.tuple #[va, vb]) ∧ Below W.heap.size W w' ∧ (Calls Tryz.prog 29 #[.int .i64 d, .bool s, va, vb] w' fun r w'' => ∃ v, r = .returned (.tuple #[v, .bool (decide (N * 10 ^ (X - q0).toNat % (D * 10 ^ (-(X - q0)).toNat) = 0))]) ∧ Nz 2003 C v w'' ∧ Below w'.heap.size w' w'') := fun W hb => by
        refine (dscaled_v (X - q0) (hn.next hb) (hd.next hb) (by omega) (by omega) (by omega)).mono ?_
        rintro r w' ⟨va, vb, e1, e2, e3, e4⟩
        refine ⟨va, vb, e1, e4, ?_⟩
        rw [hC0]
        have t1 := bl_mul N (10 ^ (X - q0).toNat)
        have t2 := bl_mul D (10 ^ (-(X - q0)).toNat)
        have t3 := ten_bl (X - q0).toNat
        have t4 := ten_bl (-(X - q0)).toNat
        exact whole_cv d s e2 e3 (Nat.ne_of_gt (Nat.mul_pos (by omega) (ten_pos _))) (by omega) (by omega)
      have c25 : ∀ W, Calls Tryz.prog 31 #[.int .i64 (3 * ((fD n).j : Int) + 1)] W fun r w' => ∃ v, r = .returned v ∧ NT 2001 (10 ^ (3 * (fD n).j + 1)) v w' ∧ Below W.heap.size W w' := fun W => by
        have := drten_v (3 * (fD n).j + 1) W (by omega)
        rw [show ((3 * (fD n).j + 1 : Nat) : Int) = 3 * ((fD n).j : Int) + 1 by omega] at this
        exact this
      have c25b : ∀ W, Calls Tryz.prog 31 #[.int .i64 (3 * ((fD n).j : Int) + 1 - 1)] W fun r w' => ∃ v, r = .returned v ∧ NT 2001 (10 ^ (3 * (fD n).j)) v w' ∧ Below W.heap.size W w' := fun W => by
        have := drten_v (3 * (fD n).j) W (by omega)
        rw [show ((3 * (fD n).j : Nat) : Int) = 3 * ((fD n).j : Int) + 1 - 1 by omega] at this
        exact this
      have c24 : ∀ W v u, Nz 2003 C v W → NT 2001 (10 ^ (3 * (fD n).j + 1)) u W → Calls Tryz.prog 30 #[v, u] W fun r w' => r = .returned (.int .i64 (sgn (C : Int) ((10 ^ (3 * (fD n).j + 1) : Nat) : Int))) ∧ Below W.heap.size W w' := fun W v u hv hu => ncmp_v (by decide) (by decide) hv.nt hu.nt
      have hcm : (sgn (C : Int) ((10 ^ (3 * (fD n).j + 1) : Nat) : Int) == 0) = decide (10 ^ (3 * (fD n).j + 1) ≤ C) := by
        rcases sgn_ways (C : Int) ((10 ^ (3 * (fD n).j + 1) : Nat) : Int) with ⟨a, e⟩ | ⟨a, e⟩ | ⟨a, e⟩
        · rw [e, decide_eq_false (by omega)]; rfl
        · rw [e, decide_eq_true (by omega)]; rfl
        · exact absurd a (by omega)
      have c26 : ∀ W, Calls Tryz.prog 32 #[IDec n (nameN n) (widthN n) (3 * ((fD n).j : Int) + 1) (expN n) (fD n).l (fD n).m (payN n) (denseN n), .int .i64 d, .bool s] W fun r w' => r = .returned ((if inB d s then (⟨2, s, false, 0, 0⟩ : Dat) else ⟨1, s, false, (fD n).m, 10 ^ (3 * (fD n).j + 1) - 1⟩).v) ∧ Below W.heap.size W w' := fun W => by
        by_cases hi : inB d s = true
        · rw [if_pos hi]
          have := dover_i n (nameN n) (widthN n) (3 * ((fD n).j : Int) + 1) (expN n) (fD n).l (fD n).m (payN n) (denseN n) d s W hi
          unfold Dat.v DV
          simp only [W4_zero]
          exact this
        · rw [if_neg hi]
          exact dover_l n (nameN n) (widthN n) (3 * ((fD n).j : Int) + 1) (expN n) (fD n).l (fD n).m (payN n) (denseN n) d s W (by simpa using hi) _ (10 ^ (3 * (fD n).j + 1) - 1) _ _ _ _ _ _ _ _ c25 (fun W v u hv hu => nsub_vd (by decide) (by decide) hv hu (ten_pos _)) (fun W v hv => dfin_v (C := 10 ^ (3 * (fD n).j + 1) - 1) s (fD n).m hv (by omega))
      have hN0 : (((bl N : Nat) : Int) == 0) = false := by rw [bl_nought]; exact decide_eq_false hN
      have hfl : ∀ ex : Bool, ∀ W, Calls Tryz.prog 34 #[.bool ex, .bool (decide (L + X < 3 * ((fD n).j : Int) + 1 - 1 + (fD n).l))] W fun r w' => r = .returned (.int .i64 (if ex then 0 else if L + X < (fD n).l + 3 * (fD n).j then 12 else 8)) ∧ W = w' := fun ex W => by
        have := raised_any ex (decide (L + X < 3 * ((fD n).j : Int) + 1 - 1 + (fD n).l)) W
        have e : (L + X < 3 * ((fD n).j : Int) + 1 - 1 + (fD n).l) ↔ (L + X < (fD n).l + 3 * (fD n).j) := by omega
        simp only [decide_eq_true_eq, e] at this
        simpa only [e] using this
      generalize hxa : decide (N * 10 ^ (X - q0).toNat % (D * 10 ^ (-(X - q0)).toNat) = 0) = exa at *
      have hfx := hfl exa
      clear hfl hxa hC0
      by_cases hu : 10 ^ (3 * (fD n).j + 1) ≤ C
      · rw [if_pos hu] at hEq hCq
        subst hEq hCq
        rw [decide_eq_true hu] at hcm
        by_cases ho : (fD n).m < q0 + 1
        · rw [if_pos ho, if_pos ho]
          exact ddec_uo n d x y s vn vd w _ _ _ _ _ _ _ _ N _ _ _ _ _ _ _ _ c17 c18 (by omega) (by omega) (by omega) hN0 L X q0 (by omega) (by omega) hqq (by omega) C _ _ _ c20 c21 c22 c25 c24 hcm _ c25b ho c26
        · rw [if_neg ho, if_neg ho]
          cases exa
          · exact ddec_ui n d x y s vn vd w _ _ _ _ _ _ _ _ N _ _ _ _ _ _ _ _ c17 c18 (by omega) (by omega) (by omega) hN0 L X q0 (by omega) (by omega) hqq (by omega) C _ _ _ c20 c21 c22 c25 c24 hcm _ c25b ho rfl _ (fun W v hv => dfin_v (C := 10 ^ (3 * (fD n).j)) s (q0 + 1) hv (by omega)) hfx
          · obtain ⟨k1, k2, k3, k4⟩ := mbr_all (want := y) ((fD n).m - (q0 + 1)).toNat (10 ^ (3 * (fD n).j)) (q0 + 1) (show q0 + 1 ≤ (fD n).m by omega)
            exact ddec_ux n d x y s vn vd w _ _ _ _ _ _ _ _ N _ _ _ _ _ _ _ _ c17 c18 (by omega) (by omega) (by omega) hN0 L X q0 (by omega) (by omega) hqq (by omega) C _ _ _ c20 c21 c22 c25 c24 hcm _ c25b ho rfl _ _ _ rfl (fun W v hv => dmember_v (fD n).m y (by omega) (by omega) hv (by omega)) (fun W v hv => dfin_v (C := (mbr (fD n).m y ((fD n).m - (q0 + 1)).toNat (10 ^ (3 * (fD n).j)) (q0 + 1)).1) s _ hv (by omega)) hfx
      · rw [if_neg hu] at hEq hCq
        subst hEq hCq
        rw [decide_eq_false hu] at hcm
        by_cases ho : (fD n).m < q0
        · rw [if_pos ho, if_pos ho]
          exact ddec_no n d x y s vn vd w _ _ _ _ _ _ _ _ N _ _ _ _ _ _ _ _ c17 c18 (by omega) (by omega) (by omega) hN0 L X q0 (by omega) (by omega) hqq (by omega) C _ _ _ c20 c21 c22 c25 c24 hcm ho c26
        · rw [if_neg ho, if_neg ho]
          cases exa
          · exact ddec_ni n d x y s vn vd w _ _ _ _ _ _ _ _ N _ _ _ _ _ _ _ _ c17 c18 (by omega) (by omega) (by omega) hN0 L X q0 (by omega) (by omega) hqq (by omega) C _ _ _ c20 c21 c22 c25 c24 hcm ho rfl _ (fun W v hv => dfin_v (C := C) s q0 hv (by omega)) hfx
          · obtain ⟨k1, k2, k3, k4⟩ := mbr_all (want := y) ((fD n).m - q0).toNat C q0 (show q0 ≤ (fD n).m by omega)
            exact ddec_nx n d x y s vn vd w _ _ _ _ _ _ _ _ N _ _ _ _ _ _ _ _ c17 c18 (by omega) (by omega) (by omega) hN0 L X q0 (by omega) (by omega) hqq (by omega) C _ _ _ c20 c21 c22 c25 c24 hcm ho rfl _ _ _ rfl (fun W v hv => dmember_v (fD n).m y (by omega) (by omega) hv (by omega)) (fun W v hv => dfin_v (C := (mbr (fD n).m y ((fD n).m - q0).toNat C q0).1) s _ hv (by omega)) hfx
  · obtain ⟨q1, q2⟩ := rq_not (s := s) (x := x) (y := y) hE
    rw [q1, q2]
    exact ddec_e n d x y s vn vd w _ (by simpa using hE) (fun W hb => dchk_bad (hT.go hb) (hn.next hb) (hd.next hb) hE)
theorem drdC : DrdC Tab where
  next := fun w w' hT hb => hT.go hb
  dec := fun n d x y s N D vn vd W _ _ _ _ hT hn hd => drd_v hT hn hd
theorem drk_v {n d x : Int} {s : Bool} {N : Nat} {vn : Value} {w : World} (hT : Tab w) (hn : Nt 2001 N vn w) :
    Calls Tryz.prog 6 #[.int .i64 n, .int .i64 d, .bool s, vn, .int .i64 x] w fun r w' => r = .returned (.tuple #[(rqD n d s N 1 x x).v, .int .i64 (rqF n d s N 1 x), .int .i64 (rqE n d N 1)]) ∧ Below w.heap.size w w' :=
  dkeep_w n d x s vn w _ _ _ _ _ _ _ _ _ _ fun W v hb hv => drd_v (hT.go hb) (hn.next hb) (hv.more (by decide))
end Go.Proofs.YtmommdhnogogdaaGreatDoor

namespace Go.Proofs.YtmommdhnogogdaaGreatDoor
open Go.RowKit
theorem rq_keep {n d : Int} {v : Dat} (h : decN n) (hd : knB d) (hv : vI (fD n) v) (hc : v.c = 1) :
    rqE n d v.k 1 = 0 ∧ rqD n d v.s v.k 1 v.x v.x = v ∧ rqF n d v.s v.k 1 v.x = 0 := by
  obtain ⟨m0, m1, l0, l1, lm, j0, j1⟩ := ok_m (fD_ok n)
  obtain ⟨c, s, g, x, k⟩ := v
  simp only at hc ⊢
  subst hc
  have hv' : g = false ∧ k < 10 ^ (3 * (fD n).j + 1) ∧ (fD n).l ≤ x ∧ x ≤ (fD n).m := by
    rcases hv with ⟨_, a, b, c, e⟩ | ⟨a, _⟩ | ⟨a, _⟩
    · exact ⟨a, b, c, e⟩
    · exact absurd (show (1 : Int) = 2 from a) (by decide)
    · exact absurd (show (1 : Int) = 3 from a) (by decide)
  obtain ⟨rfl, hk, hx0, hx1⟩ := hv'
  have b1 : bl 1 ≤ 2 := bl_le.2 (by decide)
  have bk : bl k ≤ 200 := bl_le.2 (Nat.lt_of_lt_of_le hk (Nat.le_trans (Nat.pow_le_pow_right (by decide) (show 3 * (fD n).j + 1 ≤ 34 by omega)) (by decide)))
  have e0 : rqE n d k 1 = 0 := by
    unfold rqE
    rw [if_pos ⟨h, hd, by decide⟩, if_neg (by omega)]
  refine ⟨e0, ?_⟩
  unfold rqD rqF
  rw [if_pos e0, if_pos e0]
  by_cases hk0 : k = 0
  · rw [if_pos hk0, if_pos hk0]
    subst hk0
    rw [show min (max x (fD n).l) (fD n).m = x by omega]
    exact ⟨rfl, rfl⟩
  · rw [if_neg hk0, if_neg hk0, show clT x = x by unfold clT; omega, Nat.one_mul]
    have hp := Nat.pos_of_ne_zero hk0
    exact dk_keep (fD_ok n) d s hp hk hx0 hx1 (tnX_is (Nat.mul_pos hp (ten_pos _)) (ten_pos _))
end Go.Proofs.YtmommdhnogogdaaGreatDoor

namespace Go.Proofs.YtmommdhnogogdaaGreatDoor
open Go.RowKit
theorem dat_box {w0 w : World} {c x : Int} {s g : Bool} {k : Nat} {t : TypeId} (hk : k < 2 ^ 256)
    (hb : Below (w0.alloc (.cells #[.int .i64 c, .bool s, .bool g, .int .i64 x, .int .u64 (W4 k 0), .int .u64 (W4 k 1), .int .u64 (W4 k 2), .int .u64 (W4 k 3)] t)).heap.size (w0.alloc (.cells #[.int .i64 c, .bool s, .bool g, .int .i64 x, .int .u64 (W4 k 0), .int .u64 (W4 k 1), .int .u64 (W4 k 2), .int .u64 (W4 k 3)] t)) w) :
    Nt 4 k (.slice (some ⟨w0.heap.size, 4, none⟩) 4 4) w := by
  have hs : w0.heap.size < (w0.alloc (.cells #[.int .i64 c, .bool s, .bool g, .int .i64 x, .int .u64 (W4 k 0), .int .u64 (W4 k 1), .int .u64 (W4 k 2), .int .u64 (W4 k 3)] t)).heap.size := by simp
  refine ⟨_, 4, 4, lowW (W4 k) 4, rfl, Nat.le_refl _, ⟨Nat.le_refl _, by unfold maxLen; omega, ?_, ?_, Or.inr ⟨w0.heap.size, 4, rfl, Nat.lt_of_lt_of_le hs hb.size, ?_⟩⟩, ?_⟩
  · intro i
    by_cases hi : i < 4
    · rw [lowW_lt hi]; exact W4_words k i
    · rw [show lowW (W4 k) 4 i = 0 from if_neg hi]; exact ⟨Int.le_refl _, by decide⟩
  · intro i hi
    exact if_neg (by omega)
  · intro i hi
    rw [lowW_lt hi, hb.cell (p := ⟨w0.heap.size, 4 + i, none⟩) hs]
    have : i = 0 ∨ i = 1 ∨ i = 2 ∨ i = 3 := by omega
    rw [World.cell?_alloc_new]
    rcases this with rfl | rfl | rfl | rfl <;> rfl
  · rw [val_congr (x := lowW (W4 k) 4) (y := W4 k) 4 (fun i hi => lowW_lt hi), W4_val4 hk]
attribute [local irreducible] W4 Nt
section
variable (TT : World → Prop) (hTT : ∀ w w', TT w → Below w.heap.size w w' → TT w')
variable (n d x : Int) (B : Nat) (an : Option Addr) (kn cn : Nat) (w : World) (hT : TT w)
  (c9 : ∀ W, TT W → Calls Tryz.prog 5 #[] W fun r w' => r = .returned (.bool true) ∧ Below W.heap.size W w')
include hTT hT c9
set_option maxHeartbeats 2000000 in
theorem keeps15_l (h : (500 : Int) < (kn : Int)) :
    Calls Tryz.prog 3 #[.int .i64 n, .int .i64 d, A4 B, .slice an kn cn, .int .i64 x] w fun r w' => r = .returned (.bool true) ∧ Below w.heap.size w w' := by
  have hsm := cell_set_map
  unfold A4 at *
  go_enter Tryz.func3, Tryz.ntmps3
  go_wp2_with (first
    | (go_at_call 5; refine (c9 _ (hTT _ _ hT bgo)).mono ?_; rintro r w1 ⟨rfl, hb1⟩; obtain ⟨hc1, hf1⟩ := bcell hb1; have hz1_0 : w.heap.size < w1.heap.size := lt_below hb1 ltg; have hl1_0 := Nat.le_of_lt hz1_0; have hA1 := bnext (w0 := w) bgo hb1; have hs1 := hA1.size; clear hb1)
    | (go_at_call 5; refine (c9 _ (hTT _ _ hT bgo)).mono ?_; rintro r w2 ⟨rfl, hb2⟩; obtain ⟨hc2, hf2⟩ := bcell hb2; have hz2_0 : w.heap.size < w2.heap.size := lt_below hb2 ltg; have hl2_0 := Nat.le_of_lt hz2_0; have hA2 := bnext (w0 := w) bgo hb2; have hs2 := hA2.size; clear hb2))
  go_ret
  exact ⟨by first | rfl | simp, bgo⟩
variable (h : ¬ (500 : Int) < (kn : Int)) (vc vx : Int) (vs vg : Bool) (vk : Nat) (F E : Int)
    (c10 : ∀ W, TT W → Below w.heap.size w W → Calls Tryz.prog 6 #[.int .i64 n, .int .i64 d, .bool false, .slice an kn cn, .int .i64 x] W fun r w' => r = .returned (.tuple #[DV vc vs vg vx vk, .int .i64 F, .int .i64 E]) ∧ Below W.heap.size W w')
    (c11 : ∀ W, Below w.heap.size w W → Calls Tryz.prog 7 #[.int .i64 n, .int .i64 d, .bool false, .slice an kn cn, .int .i64 x] W fun r w' => r = .returned (.tuple #[DV vc vs vg vx vk, .int .i64 F, .int .i64 E]) ∧ Below W.heap.size W w')
    (uc ux : Int) (us ug R : Bool) (uk : Nat) (G : Int)
    (c12 : ∀ W, Calls Tryz.prog 8 #[.int .i64 n, A4 B] W fun r w' => r = .returned (.tuple #[DV uc us ug ux uk, .bool R, .int .i64 G]) ∧ Below W.heap.size W w')
include h c10 c11 c12
set_option maxHeartbeats 2000000 in
theorem keeps15_g (hG : (G != 0) = true) :
    Calls Tryz.prog 3 #[.int .i64 n, .int .i64 d, A4 B, .slice an kn cn, .int .i64 x] w fun r w' => r = .returned (.bool true) ∧ Below w.heap.size w w' := by
  have hQ := DV_same vc vx vs vg vk
  have hQ2 := DV_same uc ux us ug uk
  have hsm := cell_set_map
  unfold DV A4 at *
  go_enter Tryz.func3, Tryz.ntmps3
  go_wp2_with (first
    | (go_at_call 5; refine (c9 _ (hTT _ _ hT bgo)).mono ?_; rintro r w1 ⟨rfl, hb1⟩; obtain ⟨hc1, hf1⟩ := bcell hb1; have hz1_0 : w.heap.size < w1.heap.size := lt_below hb1 ltg; have hl1_0 := Nat.le_of_lt hz1_0; have hA1 := bnext (w0 := w) bgo hb1; have hs1 := hA1.size; clear hb1)
    | (go_at_call 6; refine (c10 _ (hTT _ _ hT bgo) bgo).mono ?_; rintro r w2 ⟨rfl, hb2⟩; clear c10; obtain ⟨hc2, hf2⟩ := bcell hb2; have hz2_0 : w.heap.size < w2.heap.size := lt_below hb2 ltg; have hl2_0 := Nat.le_of_lt hz2_0; have hA2 := bnext (w0 := w) bgo hb2; have hs2 := hA2.size; clear hb2)
    | (go_at_call 7; refine (c11 _ bgo).mono ?_; rintro r w3 ⟨rfl, hb3⟩; obtain ⟨hc3, hf3⟩ := bcell hb3; have hz3_0 : w.heap.size < w3.heap.size := lt_below hb3 ltg; have hl3_0 := Nat.le_of_lt hz3_0; have hz3_1 : w2.heap.size < w3.heap.size := lt_below hb3 ltg; have hl3_1 := Nat.le_of_lt hz3_1; have hA3 := bnext (w0 := w) bgo hb3; have hs3 := hA3.size; clear hb3)
    | (go_at_call 8; refine (c12 _).mono ?_; rintro r w4 ⟨rfl, hb4⟩; obtain ⟨hc4, hf4⟩ := bcell hb4; have hz4_0 : w.heap.size < w4.heap.size := lt_below hb4 ltg; have hl4_0 := Nat.le_of_lt hz4_0; have hz4_1 : w2.heap.size < w4.heap.size := lt_below hb4 ltg; have hl4_1 := Nat.le_of_lt hz4_1; have hz4_2 : w3.heap.size < w4.heap.size := lt_below hb4 ltg; have hl4_2 := Nat.le_of_lt hz4_2; have hA4 := bnext (w0 := w) bgo hb4; have hs4 := hA4.size; clear hb4))
  go_ret
  exact ⟨by first | rfl | simp, bgo⟩
set_option maxHeartbeats 2000000 in
theorem keeps15_c (hG : G = 0) (hc : (uc != 1) = true) :
    Calls Tryz.prog 3 #[.int .i64 n, .int .i64 d, A4 B, .slice an kn cn, .int .i64 x] w fun r w' => r = .returned (.bool true) ∧ Below w.heap.size w w' := by
  subst hG
  have hQ := DV_same vc vx vs vg vk
  have hQ2 := DV_same uc ux us ug uk
  have hsm := cell_set_map
  unfold DV A4 at *
  go_enter Tryz.func3, Tryz.ntmps3
  go_wp2_with (first
    | (go_at_call 5; refine (c9 _ (hTT _ _ hT bgo)).mono ?_; rintro r w1 ⟨rfl, hb1⟩; obtain ⟨hc1, hf1⟩ := bcell hb1; have hz1_0 : w.heap.size < w1.heap.size := lt_below hb1 ltg; have hl1_0 := Nat.le_of_lt hz1_0; have hA1 := bnext (w0 := w) bgo hb1; have hs1 := hA1.size; clear hb1)
    | (go_at_call 6; refine (c10 _ (hTT _ _ hT bgo) bgo).mono ?_; rintro r w2 ⟨rfl, hb2⟩; clear c10; obtain ⟨hc2, hf2⟩ := bcell hb2; have hz2_0 : w.heap.size < w2.heap.size := lt_below hb2 ltg; have hl2_0 := Nat.le_of_lt hz2_0; have hA2 := bnext (w0 := w) bgo hb2; have hs2 := hA2.size; clear hb2)
    | (go_at_call 7; refine (c11 _ bgo).mono ?_; rintro r w3 ⟨rfl, hb3⟩; obtain ⟨hc3, hf3⟩ := bcell hb3; have hz3_0 : w.heap.size < w3.heap.size := lt_below hb3 ltg; have hl3_0 := Nat.le_of_lt hz3_0; have hz3_1 : w2.heap.size < w3.heap.size := lt_below hb3 ltg; have hl3_1 := Nat.le_of_lt hz3_1; have hA3 := bnext (w0 := w) bgo hb3; have hs3 := hA3.size; clear hb3)
    | (go_at_call 8; refine (c12 _).mono ?_; rintro r w4 ⟨rfl, hb4⟩; obtain ⟨hc4, hf4⟩ := bcell hb4; have hz4_0 : w.heap.size < w4.heap.size := lt_below hb4 ltg; have hl4_0 := Nat.le_of_lt hz4_0; have hz4_1 : w2.heap.size < w4.heap.size := lt_below hb4 ltg; have hl4_1 := Nat.le_of_lt hz4_1; have hz4_2 : w3.heap.size < w4.heap.size := lt_below hb4 ltg; have hl4_2 := Nat.le_of_lt hz4_2; have hA4 := bnext (w0 := w) bgo hb4; have hs4 := hA4.size; clear hb4))
  go_ret
  exact ⟨by first | rfl | simp, bgo⟩
set_option maxHeartbeats 2000000 in
theorem keeps15_d (hG : G = 0) (hc : uc = 1) (c13 : ∀ W, Calls Tryz.prog 9 #[.int .i64 d] W fun r w' => r = .returned (.bool false) ∧ W = w') :
    Calls Tryz.prog 3 #[.int .i64 n, .int .i64 d, A4 B, .slice an kn cn, .int .i64 x] w fun r w' => r = .returned (.bool true) ∧ Below w.heap.size w w' := by
  have hQ := DV_same vc vx vs vg vk
  have hQ2 := DV_same uc ux us ug uk
  subst hG hc
  have hsm := cell_set_map
  unfold DV A4 at *
  go_enter Tryz.func3, Tryz.ntmps3
  go_wp2_with (first
    | (go_at_call 5; refine (c9 _ (hTT _ _ hT bgo)).mono ?_; rintro r w1 ⟨rfl, hb1⟩; obtain ⟨hc1, hf1⟩ := bcell hb1; have hz1_0 : w.heap.size < w1.heap.size := lt_below hb1 ltg; have hl1_0 := Nat.le_of_lt hz1_0; have hA1 := bnext (w0 := w) bgo hb1; have hs1 := hA1.size; clear hb1)
    | (go_at_call 6; refine (c10 _ (hTT _ _ hT bgo) bgo).mono ?_; rintro r w2 ⟨rfl, hb2⟩; clear c10; obtain ⟨hc2, hf2⟩ := bcell hb2; have hz2_0 : w.heap.size < w2.heap.size := lt_below hb2 ltg; have hl2_0 := Nat.le_of_lt hz2_0; have hA2 := bnext (w0 := w) bgo hb2; have hs2 := hA2.size; clear hb2)
    | (go_at_call 7; refine (c11 _ bgo).mono ?_; rintro r w3 ⟨rfl, hb3⟩; obtain ⟨hc3, hf3⟩ := bcell hb3; have hz3_0 : w.heap.size < w3.heap.size := lt_below hb3 ltg; have hl3_0 := Nat.le_of_lt hz3_0; have hz3_1 : w2.heap.size < w3.heap.size := lt_below hb3 ltg; have hl3_1 := Nat.le_of_lt hz3_1; have hA3 := bnext (w0 := w) bgo hb3; have hs3 := hA3.size; clear hb3)
    | (go_at_call 8; refine (c12 _).mono ?_; rintro r w4 ⟨rfl, hb4⟩; obtain ⟨hc4, hf4⟩ := bcell hb4; have hz4_0 : w.heap.size < w4.heap.size := lt_below hb4 ltg; have hl4_0 := Nat.le_of_lt hz4_0; have hz4_1 : w2.heap.size < w4.heap.size := lt_below hb4 ltg; have hl4_1 := Nat.le_of_lt hz4_1; have hz4_2 : w3.heap.size < w4.heap.size := lt_below hb4 ltg; have hl4_2 := Nat.le_of_lt hz4_2; have hA4 := bnext (w0 := w) bgo hb4; have hs4 := hA4.size; clear hb4)
    | (go_at_call 9; refine (c13 _).mono ?_; rintro r w5 ⟨rfl, rfl⟩))
  go_ret
  exact ⟨by first | rfl | simp, bgo⟩
end
end Go.Proofs.YtmommdhnogogdaaGreatDoor
