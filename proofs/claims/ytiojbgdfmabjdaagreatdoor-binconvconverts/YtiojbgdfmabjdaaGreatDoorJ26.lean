/-
  Texts that the proof leans on.
-/
import Derived.Test.YtiojbgdfmabjdaaGreatDoorJ22
import Derived.Test.YtiojbgdfmabjdaaGreatDoorJ16
import Derived.Test.YtiojbgdfmabjdaaGreatDoorJ24
import Derived.Test.YtiojbgdfmabjdaaGreatDoorJ17
import Derived.Test.YtiojbgdfmabjdaaGreatDoorJ4
import Derived.Test.YtiojbgdfmabjdaaGreatDoorJ12
set_option linter.unusedVariables false
set_option linter.unusedSectionVars false
set_option linter.unusedSimpArgs false
set_option maxRecDepth 20000
namespace Go.Proofs.YtiojbgdfmabjdaaGreatDoor
open Go.RowKit
/-- the exponent within reach, the unit's exponent, the coefficient, and both behind the carry -/
def rX (n : Int) (N D : Nat) (x : Int) : Int := wiZ (fN n) (leastN n) (mostN n) (ld N D) x
def rQ (n : Int) (N D : Nat) (x : Int) : Int := max (leastN n) (ld N D + rX n N D x - ((fN n : Int) + 1) + 1)
def rC (n d : Int) (s : Bool) (N D : Nat) (x : Int) : Nat := nrC d s N D (rX n N D x - rQ n N D x)
def rC' (n d : Int) (s : Bool) (N D : Nat) (x : Int) : Nat := if (fN n : Int) + 1 < (bl (rC n d s N D x) : Int) then rC n d s N D x / 2 else rC n d s N D x
def rQ' (n d : Int) (s : Bool) (N D : Nat) (x : Int) : Int := if (fN n : Int) + 1 < (bl (rC n d s N D x) : Int) then rQ n N D x + 1 else rQ n N D x
/-- the pattern and the flags -/
def rdV (n d : Int) (s : Bool) (N D : Nat) (x : Int) : Nat := if N = 0 then pkV n ⟨1, s, false, leastN n, 0⟩ else if mostN n < rQ' n d s N D x then (if inB d s then pkV n ⟨2, s, false, 0, 0⟩ else lgV n s) else pkV n ⟨1, s, false, rQ' n d s N D x, rC' n d s N D x⟩
def rdF (n d : Int) (s : Bool) (N D : Nat) (x : Int) : Int := if N = 0 then 0 else if mostN n < rQ' n d s N D x then 10 else if decide (nrR N D (rX n N D x - rQ n N D x) = 0) then 0 else if decide (ld N D + rX n N D x < (fN n : Int) + leastN n) then 12 else 8
theorem bin_more' {n : Int} (h : binN n) : numN n = n ∧ denseN n = false := by
  rcases bin_cases h with rfl | rfl | rfl | rfl | rfl | rfl <;> exact ⟨by decide, by decide⟩
theorem dof_bin {n : Int} (hb : binN n) (w : World) (hT : Tab w) : Calls Tryz.prog 23 #[.int .i64 n] w fun x w' => x = .returned (.tuple #[DI n (nameN n) (widthN n) (fN n) (eN n) (leastN n) (mostN n), .int .i64 0]) ∧ Below w.heap.size w w' := by
  obtain ⟨hok, hb2, hpr, hex, hwd, hpy⟩ := bin_fields hb
  obtain ⟨hnum, hden⟩ := bin_more' hb
  have c := ofv_any n w hT
  rw [show infoE n = 0 from if_pos hok, hnum, hb2, hpr, hex, hden, hpy] at c
  exact c
theorem nz_nil (w : World) : Nz 0 0 (.slice none 0 0) w :=
  ⟨none, 0, 0, fun _ => 0, rfl, Nat.le_refl _, ⟨Nat.le_refl _, by unfold maxLen; omega, fun i => ⟨Int.le_refl _, (by decide : (0 : Int) ≤ 18446744073709551615)⟩, fun _ _ => rfl, Or.inl ⟨rfl, rfl⟩⟩, rfl, rfl⟩
/-- the datum that comes out is the format's -/
theorem r_isD {n d : Int} {s : Bool} {N D : Nat} {x : Int} (hb : binN n) (hN : N ≠ 0) (hD : D ≠ 0) (ho : ¬ mostN n < rQ' n d s N D x) : isD (fN n) (leastN n) (mostN n) ⟨1, s, false, rQ' n d s N D x, rC' n d s N D x⟩ := by
  have hq : leastN n ≤ rQ n N D x := Int.le_max_left _ _
  have hq2 : ld N D + (rX n N D x - rQ n N D x) ≤ (fN n : Int) := by unfold rQ; omega
  have hlt := nrQ_lt hN hD hq2
  have hge : rQ n N D x ≠ leastN n → 2 ^ fN n ≤ nrQ N D (rX n N D x - rQ n N D x) := fun h => nrQ_ge hN hD (by unfold rQ at h ⊢; omega)
  have hC : rC n d s N D x = nrQ N D (rX n N D x - rQ n N D x) ∨ rC n d s N D x = nrQ N D (rX n N D x - rQ n N D x) + 1 := by
    unfold rC nrC
    cases nrF d s N D (rX n N D x - rQ n N D x)
    · exact Or.inl rfl
    · exact Or.inr rfl
  have hs : 2 ^ (fN n + 1) = 2 ^ fN n + 2 ^ fN n := by rw [Nat.pow_succ]; omega
  have hu : (fN n : Int) + 1 < (bl (rC n d s N D x) : Int) ↔ 2 ^ (fN n + 1) ≤ rC n d s N D x := by
    rw [← bl_ge]; omega
  unfold rQ' rC' at *
  by_cases h : (fN n : Int) + 1 < (bl (rC n d s N D x) : Int)
  · rw [if_pos h] at ho
    have h2 := hu.1 h
    have e : rC n d s N D x = 2 ^ (fN n + 1) := by omega
    rw [if_pos h, if_pos h]
    exact Or.inl ⟨rfl, rfl, by show rC n d s N D x / 2 < _; omega, by show leastN n ≤ rQ n N D x + 1; omega, by show rQ n N D x + 1 ≤ _; omega, Or.inl (by show 2 ^ fN n ≤ rC n d s N D x / 2; omega)⟩
  · rw [if_neg h] at ho
    have h2 := mt hu.2 h
    rw [if_neg h, if_neg h]
    refine Or.inl ⟨rfl, rfl, by show rC n d s N D x < _; omega, hq, by show rQ n N D x ≤ _; omega, ?_⟩
    by_cases h3 : rQ n N D x = leastN n
    · exact Or.inr h3
    · have := hge h3
      exact Or.inl (by show 2 ^ fN n ≤ rC n d s N D x; omega)
theorem wi_bd {n : Int} {L x : Int} (hb : binN n) (hL : -60000 ≤ L ∧ L ≤ 60000) : -300000 ≤ wiZ (fN n) (leastN n) (mostN n) L x ∧ wiZ (fN n) (leastN n) (mostN n) L x ≤ 300000 ∧ -100000 ≤ leastN n ∧ leastN n ≤ 100000 ∧ -100000 ≤ mostN n ∧ mostN n ≤ 100000 ∧ L + wiZ (fN n) (leastN n) (mostN n) L x ≤ 100000 ∧ -100000 ≤ L + wiZ (fN n) (leastN n) (mostN n) L x := by
  unfold wiZ
  rcases bin_cases hb with rfl | rfl | rfl | rfl | rfl | rfl
  all_goals
    simp [leastN, mostN, fN, precN]
    omega
theorem ld_ab {N D : Nat} (h1 : bl N ≤ 51200) (h2 : bl D ≤ 51200) : -60000 ≤ ld N D ∧ ld N D ≤ 60000 := by
  unfold ld
  dsimp only
  split <;> omega
theorem rnd_good (n d x : Int) (s : Bool) {N D : Nat} {vn vd : Value} {w : World} (hT : Tab w) (hn : Nt 2001 N vn w) (hd : Nt 2001 D vd w) (hb : binN n) (hk : knB d) (hD : D ≠ 0) (h1 : bl N ≤ 51200) (h2 : bl D ≤ 51200) :
    Calls Tryz.prog 25 #[.int .i64 n, .int .i64 d, .bool s, vn, vd, .int .i64 x] w fun r w' => r = .returned (.tuple #[A4 (rdV n d s N D x), .int .i64 (rdF n d s N D x), .int .i64 0]) ∧ Below w.heap.size w w' := by
  have hF := bin_fm hb
  have hf240 := hF.f240
  have c26 := fun W (hb' : Below w.heap.size w W) => nlen_v (by decide) (hn.next hb')
  have c26d := fun W (hb' : Below w.heap.size w W) => nlen_v (by decide) (hd.next hb')
  have hDb : (((bl D : Nat) : Int) == 0) = false := by
    have : bl D ≠ 0 := fun e => hD (bl_zero.1 e)
    rw [beq_eq_false_iff_ne]; omega
  have c25 : ∀ W, Below w.heap.size w W → Calls Tryz.prog 53 #[.int .i64 n, .int .i64 d, vn, vd] W fun r w' => r = .returned (.tuple #[DI n (nameN n) (widthN n) (fN n) (eN n) (leastN n) (mostN n), .int .i64 0]) ∧ Below W.heap.size W w' := fun W hW =>
    check_k n d _ _ _ _ _ _ N D vn vd W (hT.go hW) (fun W' h' => c26 W' (bnx hW h')) (fun W' h' => c26d W' (bnx hW h')) (decide_eq_true hk) hDb (by omega) (by omega) (fun W' hT' => dof_bin hb W' hT')
  unfold rdV rdF
  by_cases hz : N = 0
  · rw [if_pos hz, if_pos hz]
    have hp := pow_e hF.e2 hF.e15
    have hm := hF.m
    have hi : isD (fN n) (leastN n) (mostN n) ⟨1, s, false, leastN n, 0⟩ := Or.inl ⟨rfl, rfl, Nat.two_pow_pos _, Int.le_refl _, by show leastN n ≤ mostN n; omega, Or.inr rfl⟩
    have e : pkE n ⟨1, s, false, leastN n, 0⟩ = 0 := by unfold pkE; rw [if_pos hb, if_pos hi]
    refine binary_z n d x s vn vd w hT _ _ _ _ _ _ N _ _ c25 c26 (by rw [hz]; decide) fun W hT' => ?_
    have := finite_v n (nameN n) (widthN n) (fN n) (eN n) (leastN n) (mostN n) s (leastN n) 0 hT' (nz_nil W) (by decide)
    rw [e] at this
    exact this
  · rw [if_neg hz, if_neg hz]
    have hN0 : (((bl N : Nat) : Int) == 0) = false := by
      have : bl N ≠ 0 := fun e => hz (bl_zero.1 e)
      rw [beq_eq_false_iff_ne]; omega
    have hL := ld_ab h1 h2
    obtain ⟨w1, w2, w3, w4, w5, w6, w7, w8⟩ := wi_bd (x := x) hb hL
    have hq0 : rQ n N D x = max (leastN n) (ld N D + rX n N D x - ((fN n : Int) + 1) + 1) := rfl
    have c28 := fun W (hb' : Below w.heap.size w W) => leading_v (hn.next hb') (hd.next hb') h1 h2
    have c29 := fun W => within_any n (nameN n) (widthN n) (fN n) (eN n) (leastN n) (mostN n) (ld N D) x W (by omega) ⟨w3, w4⟩ ⟨w5, w6⟩ (by omega)
    have hX : rX n N D x = wiZ (fN n) (leastN n) (mostN n) (ld N D) x := rfl
    rw [← hX] at w1 w2 w7 w8
    have hbn : (bl N : Int) + (rX n N D x - rQ n N D x) ≤ 127000 ∧ (bl D : Int) - (rX n N D x - rQ n N D x) ≤ 127000 := by
      have hl2 : (bl N : Int) - bl D - 1 ≤ ld N D ∧ ld N D ≤ (bl N : Int) - bl D := by
        unfold ld; dsimp only; split <;> omega
      have hp := pow_e hF.e2 hF.e15
      have hm := hF.m
      have hr : leastN n - 2 - ld N D ≤ rX n N D x := by rw [hX]; unfold wiZ; omega
      rw [hq0]; omega
    have c30 : ∀ W k, k = rX n N D x - rQ n N D x → Below w.heap.size w W → Calls Tryz.prog 58 #[vn, vd, .int .i64 k] W fun r w' => ∃ va vb, r = .returned (.tuple #[va, vb]) ∧ Below W.heap.size W w' ∧ (Calls Tryz.prog 59 #[.int .i64 d, .bool s, va, vb] w' fun r w'' => ∃ v, r = .returned (.tuple #[v, .bool (decide (nrR N D (rX n N D x - rQ n N D x) = 0))]) ∧ Nz 2003 (rC n d s N D x) v w'' ∧ Below w'.heap.size w' w'') := fun W k hk' hb' => by
      subst hk'
      exact near_sv d _ s (hn.next hb') (hd.next hb') hD hbn.1 hbn.2 (by omega) (by omega)
    have hup : (fN n : Int) + 1 < (bl (rC n d s N D x) : Int) → rC' n d s N D x = rC n d s N D x / 2 ∧ rQ' n d s N D x = rQ n N D x + 1 := fun h => ⟨if_pos h, if_pos h⟩
    have hno : ¬ (fN n : Int) + 1 < (bl (rC n d s N D x) : Int) → rC' n d s N D x = rC n d s N D x ∧ rQ' n d s N D x = rQ n N D x := fun h => ⟨if_neg h, if_neg h⟩
    have c26c := fun W v (h : Nz 2003 (rC n d s N D x) v W) => nlen_v (by decide) h.nt
    have c31 := fun W v (h : Nz 2003 (rC n d s N D x) v W) => nshr_v (by decide) h.nt
    by_cases ho : mostN n < rQ' n d s N D x
    · rw [if_pos ho, if_pos ho]
      refine binary_o n d x s vn vd w hT _ _ _ _ _ _ N (rC n d s N D x) _ _ _ (ld N D) (rX n N D x) (rQ n N D x) _ c25 c26 (by omega) ⟨w3, w4⟩ ⟨w5, w6⟩ (by omega) ⟨w1, w2⟩ hq0 hN0 c28 c29 c30 c26c c31 _ _ hup hno ho ?_
      intro W hT'
      by_cases hi : inB d s = true
      · rw [if_pos hi]
        have hd2 : isD (fN n) (leastN n) (mostN n) ⟨2, s, false, 0, 0⟩ := Or.inr (Or.inl ⟨rfl, rfl, rfl, rfl⟩)
        have e : pkE n ⟨2, s, false, 0, 0⟩ = 0 := by unfold pkE; rw [if_pos hb, if_pos hd2]
        refine overflow_i n _ _ _ _ _ _ d s _ _ W hT' hi fun W' hT2 => ?_
        have := pack_any n ⟨2, s, false, 0, 0⟩ W' hT2 (by show 0 < 2 ^ 256; decide)
        rw [e] at this
        unfold Dat.v DV at this
        simp only [W4_zero] at this
        exact this
      · rw [if_neg hi]
        refine overflow_l n _ _ _ _ _ _ d s _ _ W hT' (by simpa using hi) fun W' hT2 => ?_
        have := largest_any n s W' hT2
        rw [show lgE n = 0 from if_pos hb] at this
        exact this
    · rw [if_neg ho, if_neg ho]
      have hi := r_isD (s := s) hb hz hD ho
      have e : pkE n ⟨1, s, false, rQ' n d s N D x, rC' n d s N D x⟩ = 0 := by unfold pkE; rw [if_pos hb, if_pos hi]
      have hC : rC' n d s N D x < 2 ^ 256 := by
        rcases hi with ⟨_, _, hk1, _⟩ | ⟨hc, _⟩ | ⟨hc, _⟩
        · exact Nat.lt_of_lt_of_le hk1 (Nat.pow_le_pow_right (by decide) (by omega))
        · exact absurd (show (1 : Int) = 2 from hc) (by decide)
        · exact absurd (show (1 : Int) = 3 from hc) (by decide)
      refine binary_f n d x s vn vd w hT _ _ _ _ _ _ N (rC n d s N D x) _ _ _ (ld N D) (rX n N D x) (rQ n N D x) _ c25 c26 (by omega) ⟨w3, w4⟩ ⟨w5, w6⟩ (by omega) ⟨w1, w2⟩ hq0 hN0 c28 c29 c30 c26c c31 _ _ hup hno ho 0 rfl ?_
      intro W v hT' hv
      have := finite_v n (nameN n) (widthN n) (fN n) (eN n) (leastN n) (mostN n) s (rQ' n d s N D x) (if decide (nrR N D (rX n N D x - rQ n N D x) = 0) then 0 else if decide (ld N D + rX n N D x < (fN n : Int) + leastN n) then 12 else 8) hT' hv hC
      rw [e] at this
      exact this
section
theorem nv_nt {K V : Nat} {v : Value} {w : World} (h : NV K V v w) : Nt K V v w := by
  obtain ⟨g, k, cap, z, h1, h2, h3, h4⟩ := h
  exact ⟨_, k, cap, z, h1, h2, h3, h4⟩
theorem bl_256 {B : Nat} (hB : B < 2 ^ 256) : bl B ≤ 51200 := Nat.le_trans (bl_le.2 hB) (by decide)
attribute [local irreducible] W4 Nt
end
theorem A4_zero : A4 0 = Z4 := by
  unfold A4
  simp only [W4_zero]
def sgN (n : Int) (s : Bool) : Nat := if s then 2 ^ (fN n + eN n) else 0
theorem pk_fin {n : Int} {s : Bool} {q : Int} {c : Nat} (hb : binN n) (h : isD (fN n) (leastN n) (mostN n) ⟨1, s, false, q, c⟩) : pkV n ⟨1, s, false, q, c⟩ = (q - leastN n).toNat * 2 ^ fN n + c + sgN n s := by
  unfold pkV sgN
  rw [if_pos ⟨hb, h⟩]
  unfold pk
  simp
theorem r_zero {n : Int} (d : Int) (s : Bool) (D : Nat) (x : Int) (hb : binN n) : rdV n d s 0 D x = sgN n s ∧ rdF n d s 0 D x = 0 := by
  have hF := bin_fm hb
  have hp := pow_e hF.e2 hF.e15
  have hm := hF.m
  have hz : isD (fN n) (leastN n) (mostN n) ⟨1, s, false, leastN n, 0⟩ := Or.inl ⟨rfl, rfl, Nat.two_pow_pos _, Int.le_refl _, by show leastN n ≤ mostN n; omega, Or.inr rfl⟩
  unfold rdV rdF
  rw [if_pos rfl, if_pos rfl, pk_fin hb hz]
  simp
section
attribute [local irreducible] W4 Nt
set_option maxHeartbeats 1000000 in
theorem scaled_good (n d x : Int) (s : Bool) (B : Nat) (w : World) (hT : Tab w) (hb : binN n) (hk : knB d) (hB : B < 2 ^ 256) :
    Calls Tryz.prog 9 #[.int .i64 n, .int .i64 d, .bool s, A4 B, .int .i64 x] w fun r w' => r = .returned (.tuple #[A4 (rdV n d s B 1 x), .int .i64 (rdF n d s B 1 x), .int .i64 0]) ∧ Below w.heap.size w w' := by
  have c11 := fun W (vn vd : Value) (hT : Tab W) (h1 : Nt 2001 B vn W) (h2 : Nt 2001 1 vd W) => rnd_good n d x s hT h1 h2 hb hk (by decide) (bl_256 hB) (by decide)
  have hbx := fun W hW => (nv_nt (box_nv (w0 := w) (w := W) (B := B) (t := 24) hB hW)).more (show 4 ≤ 2001 by decide)
  generalize rdV n d s B 1 x = R at *
  generalize rdF n d s B 1 x = F at *
  have hsm := cell_set_map
  go_enter Tryz.func9, Tryz.ntmps9
  go_wp2_with (go_at_call 25; refine (c11 _ _ _ (hT.go bgo) (hbx _ bgo) ((nt_one (by simp) rfl (by decide)).more (by decide))).mono ?_; rintro r w1 ⟨rfl, hb1⟩; obtain ⟨hc1, hf1⟩ := bcell hb1; have hz1_0 : w.heap.size < w1.heap.size := lt_below hb1 ltg; have hl1_0 := Nat.le_of_lt hz1_0; have hz1_1 : w.heap.size + 1 < w1.heap.size := lt_below hb1 ltg; have hl1_1 := Nat.le_of_lt hz1_1; have hA1 := bnext (w0 := w) bgo hb1; have hs1 := hA1.size; clear hb1)
  exact bodyPost_ret (v := .tuple #[A4 R, .int .i64 F, .int .i64 0]) (by simp only [results, Tryz.results9]; go_simp) rfl ⟨rfl, bgo⟩
end
theorem NT.more {K K' V : Nat} {v : Value} {w : World} (h : NT K V v w) (hk : K ≤ K') : NT K' V v w := by
  obtain ⟨g, k, cap, z, h1, h2, h3, h4, h5⟩ := h
  exact ⟨g, k, cap, z, h1, by omega, h3, h4, h5⟩
theorem rtimes_nt {K K' A B : Nat} {v v' : Value} {w : World} (hK : K < 1000000) (hK' : K' < 1000000) (h : NV K A v w) (h' : NV K' B v' w) :
    Calls Tryz.prog 76 #[v, v'] w fun e w' => ∃ r, e = .returned r ∧ NT (K + K' + 1) (A * B) r w' ∧ Below w.heap.size w w' := by
  obtain ⟨g, k, c, z, rfl, hk, hN, hz⟩ := h
  obtain ⟨g2, k2, c2, z2, rfl, hk2, hN2, hz2⟩ := h'
  refine (times_tr g 0 k c g2 0 k2 c2 z z2 w (by omega) (by omega) hN hN2).mono fun e w' ⟨g3, k3, cap3, z3, e1, hk3, hN3, hv3, hB, ht⟩ => ⟨_, e1, ⟨g3, k3, cap3, z3, rfl, by omega, hN3, ?_, ht⟩, hB⟩
  rw [← val_more hN3.2.2.2.1 _ hk3, hv3, hz, hz2]; simp
theorem rleft_nt {K A : Nat} {v : Value} {w : World} (s : Nat) (hK : K < 1000000) (hs : s ≤ 6300000) (h : NV K A v w) :
    Calls Tryz.prog 73 #[v, .int .i64 s] w fun e w' => ∃ r, e = .returned r ∧ NT (K + s / 64 + 1) (A * 2 ^ s) r w' ∧ Below w.heap.size w w' := by
  obtain ⟨g, k, c, z, rfl, hk, hN, hz⟩ := h
  refine (fleft_val g 0 k c s z w (by omega) (by omega) (by omega) hN).mono fun e w' ⟨g3, k3, cap3, z3, e1, hk3, hN3, hv3, hB, hf, ht⟩ => ⟨_, e1, ⟨g3, k3, cap3, z3, rfl, by rw [Int.toNat_natCast] at hk3; omega, hN3, ?_, ht⟩, hB⟩
  rw [hv3, hz, Int.toNat_natCast]; simp
theorem rcmp_nv {K K' A B : Nat} {v v' : Value} {w : World} (hK : K < 1000000) (hK' : K' < 1000000) (h : NV K A v w) (h' : NV K' B v' w) :
    Calls Tryz.prog 101 #[v, v'] w fun e w' => e = .returned (.int .i64 (sgn (A : Int) B)) ∧ w = w' := by
  obtain ⟨g, k, c, z, rfl, hk, hN, hz⟩ := h
  obtain ⟨g2, k2, c2, z2, rfl, hk2, hN2, hz2⟩ := h'
  have := rcmp_any _ _ k c k2 c2 z z2 w (by omega) (by omega) hN hN2
  rw [hz, hz2] at this
  exact this
theorem rlen_nv {K V : Nat} {v : Value} {w : World} (hK : K < 1000000) (h : NV K V v w) :
    Calls Tryz.prog 70 #[v] w fun e w' => e = .returned (.int .i64 (bl V : Int)) ∧ w = w' := by
  obtain ⟨g, k, c, z, rfl, hk, hN, hz⟩ := h
  have := rlen_num _ k c z w (by omega) hN
  rw [len_bl hN.2.2.1 hz] at this
  exact this
theorem rtrim_nt {K V : Nat} {v : Value} {w : World} (hK : K < 1000000) (h : Nt K V v w) :
    Calls Tryz.prog 75 #[v] w fun e w' => ∃ r, e = .returned r ∧ NT K V r w' ∧ Below w.heap.size w w' := by
  obtain ⟨a, k, c, z, rfl, hk, hN, hz⟩ := h
  refine (trim_any a k c z w (by omega) hN).mono fun e w' ⟨g, cap, e1, hN', hB⟩ => ⟨_, e1, ⟨g, _, cap, z, rfl, Nat.le_trans (sizeL_le z k) hk, hN', ?_, sizeL_sizeL _ _⟩, hB⟩
  rw [val_bare, hz]
theorem rright1_nv {K A : Nat} {v : Value} {w : World} (hK : K < 1000000) (h : NV K A v w) :
    Calls Tryz.prog 71 #[v, .int .i64 1] w fun e w' => ∃ v' b, e = .returned (.tuple #[v', .bool b]) ∧ NV K (A / 2) v' w' ∧ Below w.heap.size w w' := by
  obtain ⟨g, k, cap, z, rfl, hk, hN, hv⟩ := h
  refine (right_p g 0 k cap 0 1 1 z w (by omega) (by omega) (by omega) (by omega) (by decide) (by decide) (by decide) hN).mono ?_
  rintro e w' ⟨g', k', cap', b, rfl, hk', hN', hb⟩
  refine ⟨_, b, rfl, ⟨g', k', cap', _, rfl, by omega, hN', ?_⟩, hb⟩
  rw [← val_more hN'.2.2.2.1 k hk']
  have := shrW_val hN.2.2.1 hN.2.2.2.1 (r := 1) (q := 0) (by omega) k (Nat.le_refl _) hv
  simpa using this
section
def decN (n : Int) : Prop := 7 ≤ n ∧ n ≤ 12
instance (n : Int) : Decidable (decN n) := inferInstanceAs (Decidable (_ ∧ _))
/-- a decimal format's numbers -/
def fD (n : Int) : DF := if n = 7 ∨ n = 10 then ⟨20, 6, 2, -101, denseN n⟩ else if n = 8 ∨ n = 11 then ⟨50, 8, 5, -398, denseN n⟩ else ⟨110, 12, 11, -6176, denseN n⟩
/-- a pattern is a decimal format's -/
def goodD (n : Int) (B : Nat) : Prop := decN n ∧ B < 2 ^ ((fD n).t + ((fD n).w + 6))
instance (n : Int) (B : Nat) : Decidable (goodD n B) := inferInstanceAs (Decidable (_ ∧ _))
attribute [local irreducible] W4 NT NV
end
end Go.Proofs.YtiojbgdfmabjdaaGreatDoor
