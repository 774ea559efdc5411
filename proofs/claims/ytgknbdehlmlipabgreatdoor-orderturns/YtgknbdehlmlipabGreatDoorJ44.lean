/-
  Texts that the proof leans on.
-/
import Derived.Test.YtgknbdehlmlipabGreatDoorJ39
import Derived.Test.YtgknbdehlmlipabGreatDoorJ3
import Derived.Test.YtgknbdehlmlipabGreatDoorJ35
import Derived.Test.YtgknbdehlmlipabGreatDoorJ41
import Derived.Test.YtgknbdehlmlipabGreatDoorJ42
import Derived.Test.YtgknbdehlmlipabGreatDoorJ40
import Derived.Test.YtgknbdehlmlipabGreatDoorJ26
set_option linter.unusedVariables false
set_option linter.unusedSectionVars false
set_option linter.unusedSimpArgs false
set_option maxRecDepth 20000
namespace Go.Proofs.YtgknbdehlmlipabGreatDoor
open Go.RowKit
attribute [local irreducible] W4
attribute [local go_sem ↓] ld18_eq
attribute [local go_sem] ld18_got
section
variable (n : Int) (w : World) (hT : Tab w)
include hT
variable (dn : Bool) (g t bl : Int) (wo co pa : Nat) (le mo : Int)
variable (B : Nat) (c1 : ∀ W, Tab W → Calls Tryz.prog 51 #[.int .i64 n, A4 B] W fun r w' => r = .returned (.tuple #[LD dn g t bl wo co pa le mo, .int .i64 0]) ∧ Below W.heap.size W w')
  (c x E : Int) (s q : Bool) (k P : Nat)
  (c2 : ∀ W, Calls Tryz.prog 52 #[LD dn g t bl wo co pa le mo, A4 B] W fun r w' => r = .returned (DV c s q x k) ∧ Below W.heap.size W w')
  (c3 : ∀ W, Calls Tryz.prog 53 #[LD dn g t bl wo co pa le mo, DV c s q x k] W fun r w' => r = .returned (.tuple #[A4 P, .int .i64 E]) ∧ Below W.heap.size W w')
include c1 c2 c3
set_option maxHeartbeats 4000000 in
theorem dunp_y (R : Bool) (hR : decide (W4 P 0 = W4 B 0 ∧ W4 P 1 = W4 B 1 ∧ W4 P 2 = W4 B 2 ∧ W4 P 3 = W4 B 3) = R) : Calls Tryz.prog 32 #[.int .i64 n, A4 B] w fun r w' => r = .returned (.tuple #[DV c s q x k, .bool R, .int .i64 0]) ∧ Below w.heap.size w w' := by
  have hsm := cell_set_map
  have hq := eq24 (W4 P 0) (W4 P 1) (W4 P 2) (W4 P 3) (W4 B 0) (W4 B 1) (W4 B 2) (W4 B 3)
  rw [hR] at hq
  go_enter Tryz.func32, Tryz.ntmps32
  go_wp2_with (first
    | (go_at_call 51; refine (c1 _ ((hT.alloc _).alloc _)).mono ?_; rintro r w1 ⟨rfl, hb1⟩; obtain ⟨hc1, hf1⟩ := bcell hb1; have hz1_0 : w.heap.size < w1.heap.size := lt_below hb1 ltg; have hl1_0 := Nat.le_of_lt hz1_0; have hz1_1 : w.heap.size + 1 < w1.heap.size := lt_below hb1 ltg; have hl1_1 := Nat.le_of_lt hz1_1; have hA1 := bnext (w0 := w) bgo hb1; have hs1 := hA1.size; clear hb1)
    | (go_at_call 52; refine (c2 _).mono ?_; rintro r w2 ⟨rfl, hb2⟩; obtain ⟨hc2, hf2⟩ := bcell hb2; have hz2_0 : w.heap.size < w2.heap.size := lt_below hb2 ltg; have hl2_0 := Nat.le_of_lt hz2_0; have hz2_1 : w.heap.size + 1 < w2.heap.size := lt_below hb2 ltg; have hl2_1 := Nat.le_of_lt hz2_1; have hz2_2 : w1.heap.size < w2.heap.size := lt_below hb2 ltg; have hl2_2 := Nat.le_of_lt hz2_2; have hA2 := bnext (w0 := w) bgo hb2; have hs2 := hA2.size; clear hb2)
    | (go_at_call 53; refine (c3 _).mono ?_; rintro r w3 ⟨rfl, hb3⟩; obtain ⟨hc3, hf3⟩ := bcell hb3; have hz3_0 : w.heap.size < w3.heap.size := lt_below hb3 ltg; have hl3_0 := Nat.le_of_lt hz3_0; have hz3_1 : w.heap.size + 1 < w3.heap.size := lt_below hb3 ltg; have hl3_1 := Nat.le_of_lt hz3_1; have hz3_2 : w1.heap.size < w3.heap.size := lt_below hb3 ltg; have hl3_2 := Nat.le_of_lt hz3_2; have hz3_3 : w2.heap.size < w3.heap.size := lt_below hb3 ltg; have hl3_3 := Nat.le_of_lt hz3_3; have hA3 := bnext (w0 := w) bgo hb3; have hs3 := hA3.size; clear hb3))
  go_region_with (fail)
  all_goals
    go_wp2
    exact bodyPost_ret (v := .tuple #[DV c s q x k, .bool R, .int .i64 0]) (by simp only [results, Tryz.results32]; go_simp) rfl ⟨rfl, bgo⟩
end
end Go.Proofs.YtgknbdehlmlipabGreatDoor

namespace Go.Proofs.YtgknbdehlmlipabGreatDoor
open Go.RowKit
set_option maxHeartbeats 1000000 in
theorem layof_ok (n : Int) (w : World) (hT : Tab w) (hd : decN n) : Calls Tryz.prog 69 #[.int .i64 n] w fun r w' => r = .returned (.tuple #[LF (fD n), .int .i64 0]) ∧ Below w.heap.size w w' := by
  obtain ⟨hok, f1, f2, f3, f4, f5, f6, f7, f8⟩ := dec_fields hd
  have c1 := fun W hW => ofv_any n W hW
  rw [show infoE n = 0 from if_pos hok, f1, f2, f3, f4, f5, f6, f7, f8] at c1
  have h := fD_ok n
  have hw := h.w12
  generalize fD n = f at *
  have hG : ((f.t + (f.w + 6) : Nat) : Int) / 16 + 9 = ((f.w + 5 : Nat) : Int) := by rcases h with ⟨h1, h2, h3, h4⟩ | ⟨h1, h2, h3, h4⟩ | ⟨h1, h2, h3, h4⟩ <;> rw [h1, h2] <;> rfl
  have cc := fun W => dten_v (3 * f.j + 1) W (by omega)
  have cp := fun W => dten_v (3 * f.j) W (by omega)
  have e1 : ((3 * f.j + 1 : Nat) : Int) = 3 * (f.j : Int) + 1 := by omega
  have e2 : ((3 * f.j : Nat) : Int) = 3 * (f.j : Int) := by omega
  have cw := cp
  rw [e1] at cc
  rw [e2] at cp
  unfold LF
  cases e : f.dn
  · rw [e] at c1
    have eB : vB f = 0 := by unfold vB; rw [e, if_neg (by decide)]
    have eQ : vQ f = 2 ^ f.t := by unfold vQ; rw [e, if_neg (by decide)]
    have cs := fun W => shl4 1 f.t W (by decide) (by omega)
    rw [Nat.one_mul] at cs
    rw [eB, eQ]
    exact dlay_p n _ n _ _ _ _ _ _ w hT _ _ _ _ (by omega) (by omega) hG (by omega) (by omega) (by omega) (by omega) (by omega) cc cp _ c1 (fun W => of4 1 W (by decide)) cs
  · rw [e] at c1
    have eB : vB f = f.w := by unfold vB; rw [e, if_pos rfl]
    have eQ : vQ f = 10 ^ (3 * f.j) := by unfold vQ; rw [e, if_pos rfl]
    rw [eB, eQ]
    rw [show ((3 * f.j : Nat) : Int) = 3 * (f.j : Int) + 1 - 1 by omega] at cw
    exact dlay_d n _ n _ _ _ _ _ _ w hT _ _ _ _ (by omega) (by omega) hG (by omega) (by omega) (by omega) (by omega) (by omega) cc cp _ _ (by omega) (by omega) (by omega) c1 cw
theorem not_dec {n : Int} (h : ¬ decN n) : (okN n ∧ (baseN n != 10) = true) ∨ ¬ okN n := by
  by_cases hk : okN n
  · left
    refine ⟨hk, ?_⟩
    unfold decN at h
    rcases okN_cases hk with rfl | rfl | rfl | rfl | rfl | rfl | rfl | rfl | rfl | rfl | rfl | rfl <;> first | rfl | omega
  · exact Or.inr hk
theorem layof_bad (n : Int) (w : World) (hT : Tab w) (hd : ¬ decN n) : Calls Tryz.prog 69 #[.int .i64 n] w fun r w' => r = .returned (.tuple #[ZL, .int .i64 1]) ∧ Below w.heap.size w w' := by
  have c1 := fun W hW => ofv_any n W hW
  rcases not_dec hd with ⟨hk, hb⟩ | hk
  · rw [show infoE n = 0 from if_pos hk] at c1
    exact dlay_b n _ _ _ _ _ _ _ _ _ _ w hT hb c1
  · rw [show infoE n = 1 from if_neg hk] at c1
    exact dlay_e n _ _ _ _ _ _ _ _ _ _ w hT 1 rfl c1
theorem fits_dec {n : Int} (B : Nat) (hd : decN n) : (okN n ∧ B < 2 ^ (widthN n).toNat) ↔ goodD n B := by
  have hF := dec_fields hd
  rw [hF.2.2.2.1, Int.toNat_natCast]
  exact ⟨fun h => ⟨hd, h.2⟩, fun h => ⟨hF.1, h.2⟩⟩
theorem layfor_ok (n : Int) (B : Nat) (w : World) (hT : Tab w) (hB : B < 2 ^ 256) (hg : goodD n B) : Calls Tryz.prog 51 #[.int .i64 n, A4 B] w fun r w' => r = .returned (.tuple #[LF (fD n), .int .i64 0]) ∧ Below w.heap.size w w' := by
  have c1 := fun W hW => fits4 n B hB W hW
  rw [decide_eq_true ((fits_dec B hg.1).2 hg)] at c1
  exact dfor_y n B w hT c1 _ _ _ _ _ _ _ _ _ (fun W hW => layof_ok n W hW hg.1)
theorem layfor_bad (n : Int) (B : Nat) (w : World) (hT : Tab w) (hB : B < 2 ^ 256) (hg : ¬ goodD n B) : Calls Tryz.prog 51 #[.int .i64 n, A4 B] w fun r w' => r = .returned (.tuple #[ZL, .int .i64 1]) ∧ Below w.heap.size w w' := by
  have c1 := fun W hW => fits4 n B hB W hW
  by_cases hd : decN n
  · rw [decide_eq_false (fun q => hg ((fits_dec B hd).1 q))] at c1
    exact dfor_n n B w hT c1
  · by_cases hf : okN n ∧ B < 2 ^ (widthN n).toNat
    · rw [decide_eq_true hf] at c1
      exact dfor_b n B w hT c1 (fun W hW => layof_bad n W hW hd)
    · rw [decide_eq_false hf] at c1
      exact dfor_n n B w hT c1
/-- decimal.Unpack by value -/
theorem dunpk14 (n : Int) (B : Nat) (hB : B < 2 ^ 256) (W : World) (hT : Tab W) : Calls Tryz.prog 32 #[.int .i64 n, A4 B] W fun r w' => r = .returned (.tuple #[(vUD n B).v, .bool (vUC n B), .int .i64 (vUE n B)]) ∧ Below W.heap.size W w' := by
  by_cases hg : goodD n B
  · obtain ⟨e1, e2, e3⟩ := vU_good hg
    rw [e1, e2, e3]
    have h := fD_ok n
    have c3 := fun W => fpack h (vM (fD n) B) W (vM_256 h B)
    rw [if_pos (vM_is h B), if_pos (vM_is h B)] at c3
    refine dunp_y n W hT _ _ _ _ _ _ _ _ _ B (fun W hW => layfor_ok n B W hW hB hg) _ _ _ _ _ _ _ (fun W => fmean h B W hB) c3 _ ?_
    exact eq_words (vP_256 h (vM_is h B)) hB
  · obtain ⟨e1, e2, e3⟩ := vU_bad hg
    rw [e1, e2, e3, zero_v]
    exact dunp_n n W hT B (fun W hW => layfor_bad n B W hW hB hg)
end Go.Proofs.YtgknbdehlmlipabGreatDoor

namespace Go.Proofs.YtgknbdehlmlipabGreatDoor
open Go.RowKit
theorem sgn_same {a b a' b' : Int} (h1 : a < b ↔ a' < b') (h2 : b < a ↔ b' < a') : sgn a b = sgn a' b' := by
  unfold sgn
  simp only [h1, h2]
/-- a datum's pattern without the sign -/
def mg (n : Int) (d : Dat) : Nat := if d.c = 2 then tpN n else (d.x - leastN n).toNat * 2 ^ fN n + d.k
theorem top_is {n : Int} (hb : binN n) : tpN n = (mostN n - leastN n).toNat * 2 ^ fN n + 2 ^ (fN n + 1) ∧ tpN n + 2 ^ fN n = 2 ^ (fN n + eN n) ∧ leastN n ≤ mostN n := by
  rcases bin_cases hb with rfl | rfl | rfl | rfl | rfl | rfl <;> decide +kernel
theorem mg_fin {n : Int} (hb : binN n) {s : Bool} {x : Int} {k : Nat} (h : isD (fN n) (leastN n) (mostN n) ⟨1, s, false, x, k⟩) :
    mg n ⟨1, s, false, x, k⟩ = (x - leastN n).toNat * 2 ^ fN n + k ∧ mg n ⟨1, s, false, x, k⟩ < tpN n ∧ leastN n ≤ x ∧ x ≤ mostN n ∧ k < 2 ^ (fN n + 1) ∧ (2 ^ fN n ≤ k ∨ x = leastN n) := by
  have e : mg n ⟨1, s, false, x, k⟩ = (x - leastN n).toNat * 2 ^ fN n + k := if_neg (show ¬ (1 : Int) = 2 by decide)
  rcases h with ⟨_, _, h3, h4, h5, h6⟩ | ⟨h1, _⟩ | ⟨h1, _⟩
  · refine ⟨e, ?_, h4, h5, h3, h6⟩
    dsimp only at h3 h4 h5
    obtain ⟨t1, _, _⟩ := top_is hb
    rw [e, t1]
    have : (x - leastN n).toNat * 2 ^ fN n ≤ (mostN n - leastN n).toNat * 2 ^ fN n := Nat.mul_le_mul_right _ (by omega)
    omega
  · exact absurd (show (1 : Int) = 2 from h1) (by decide)
  · exact absurd (show (1 : Int) = 3 from h1) (by decide)
/-- a pattern is its sign and what is below it -/
theorem mg_pk {n : Int} (hb : binN n) {d : Dat} (h : isD (fN n) (leastN n) (mostN n) d) (h3 : d.c ≠ 3) : pkV n d = mg n d + sgN n d.s ∧ mg n d ≤ tpN n := by
  obtain ⟨c, s, g, x, k⟩ := d
  rcases id h with ⟨h1, h2, _⟩ | ⟨h1, h2, h4, h5⟩ | ⟨h1, _⟩
  · dsimp only at h1 h2
    subst h1 h2
    obtain ⟨e1, e2, _⟩ := mg_fin hb h
    exact ⟨by rw [pk_fin hb h, e1], by omega⟩
  · dsimp only at h1 h2 h4 h5
    subst h1 h2 h4 h5
    exact ⟨pk_inf hb, Nat.le_refl _⟩
  · exact absurd h1 h3
theorem mg_lt {F e e' k k' : Nat} (h1 : k < F + F) (h2 : F ≤ k' ∨ e' = 0) (he : e < e') : e * F + k < e' * F + k' ∧ k * 2 ^ e < k' * 2 ^ e' := by
  have hF : F ≤ k' := h2.resolve_right (by omega)
  constructor
  · have : (e + 1) * F ≤ e' * F := Nat.mul_le_mul_right _ he
    rw [Nat.add_mul, Nat.one_mul] at this
    omega
  · have hp := Nat.two_pow_pos e
    have a : k * 2 ^ e < (F + F) * 2 ^ e := Nat.mul_lt_mul_of_pos_right h1 hp
    have b : F * 2 ^ (e + 1) ≤ k' * 2 ^ e' := Nat.mul_le_mul hF (Nat.pow_le_pow_right (by decide) he)
    have c : (F + F) * 2 ^ e = F * 2 ^ (e + 1) := by rw [Nat.pow_succ, Nat.add_mul, ← Nat.mul_assoc]; omega
    omega
/-- finite numbers, by their patterns -/
theorem mg_cmp {n : Int} (hb : binN n) {s s' : Bool} {x x' : Int} {k k' : Nat} (h : isD (fN n) (leastN n) (mostN n) ⟨1, s, false, x, k⟩) (h' : isD (fN n) (leastN n) (mostN n) ⟨1, s', false, x', k'⟩) :
    sgn (oI (leastN n) 2 ⟨1, s, false, x, k⟩ : Int) (oI (leastN n) 2 ⟨1, s', false, x', k'⟩ : Int) = sgn (mg n ⟨1, s, false, x, k⟩ : Int) (mg n ⟨1, s', false, x', k'⟩ : Int) := by
  obtain ⟨e1, _, a1, a2, a3, a4⟩ := mg_fin hb h
  obtain ⟨e1', _, b1, b2, b3, b4⟩ := mg_fin hb h'
  rw [e1, e1']
  show sgn ((k * 2 ^ (x - leastN n).toNat : Nat) : Int) ((k' * 2 ^ (x' - leastN n).toNat : Nat) : Int) = _
  have hF : (2 : Nat) ^ (fN n + 1) = 2 ^ fN n + 2 ^ fN n := by rw [Nat.pow_succ]; omega
  rw [hF] at a3 b3
  have a4' : 2 ^ fN n ≤ k ∨ (x - leastN n).toNat = 0 := by rcases a4 with q | q; exact Or.inl q; exact Or.inr (by omega)
  have b4' : 2 ^ fN n ≤ k' ∨ (x' - leastN n).toNat = 0 := by rcases b4 with q | q; exact Or.inl q; exact Or.inr (by omega)
  generalize (x - leastN n).toNat = e at *
  generalize (x' - leastN n).toNat = e' at *
  generalize 2 ^ fN n = F at *
  rcases Nat.lt_trichotomy e e' with q | q | q
  · obtain ⟨p1, p2⟩ := mg_lt a3 b4' q
    unfold sgn
    rw [if_pos (by omega), if_pos (by omega)]
  · subst q
    have hp := Nat.two_pow_pos e
    rw [sgn_nat _ hp, Int.natCast_add, Int.natCast_add, Int.add_comm _ (k : Int), Int.add_comm _ (k' : Int), sgn_add]
  · obtain ⟨p1, p2⟩ := mg_lt b3 a4' q
    unfold sgn
    rw [if_neg (by omega), if_pos (by omega), if_neg (by omega), if_pos (by omega)]
/-- a number's place -/
def smP (n : Int) (d : Dat) : Int := oG d * (mg n d : Int)
theorem mg_zero {n : Int} (hb : binN n) {d : Dat} (h : isD (fN n) (leastN n) (mostN n) d) (h3 : d.c ≠ 3) : mg n d = 0 ↔ (d.c = 1 ∧ d.k = 0) := by
  obtain ⟨c, s, g, x, k⟩ := d
  rcases id h with ⟨h1, h2, _⟩ | ⟨h1, h2, h4, h5⟩ | ⟨h1, _⟩
  · dsimp only at h1 h2
    subst h1 h2
    obtain ⟨e1, e2, l1, l2, l3, l4⟩ := mg_fin hb h
    rw [e1]
    have hp := Nat.two_pow_pos (fN n)
    constructor
    · intro q
      exact ⟨rfl, (Nat.add_eq_zero_iff.1 q).2⟩
    · rintro ⟨_, q⟩
      dsimp only at q
      subst q
      have : x = leastN n := l4.resolve_left (by omega)
      subst this
      rw [Int.sub_self]
      simp
  · dsimp only at h1
    subst h1
    have hp := Nat.two_pow_pos (fN n + 1)
    obtain ⟨t1, _, _⟩ := top_is hb
    have e : mg n ⟨2, s, g, x, k⟩ = tpN n := if_pos rfl
    rw [e]
    constructor
    · intro q; omega
    · rintro ⟨q, _⟩; exact absurd (show (2 : Int) = 1 from q) (by decide)
  · exact absurd h1 h3
theorem isD_K {f : Nat} {l m : Int} {d : Dat} (h : isD f l m d) : oK l d := by
  rcases h with ⟨h1, h2, h3, h4, h5, h6⟩ | ⟨h1, h2, h3, h4⟩ | ⟨h1, h2, h3, h4⟩
  · exact Or.inl ⟨h1, h2, h4⟩
  · exact Or.inr (Or.inl ⟨h1, h2, h3, h4⟩)
  · exact Or.inr (Or.inr ⟨h1, h2⟩)
theorem oV_sm {n : Int} (hb : binN n) {a b : Dat} (ha : isD (fN n) (leastN n) (mostN n) a) (hb' : isD (fN n) (leastN n) (mostN n) b) (h3 : a.c ≠ 3) (h3' : b.c ≠ 3) : oV a 2 b 2 = sgn (smP n a) (smP n b) := by
  have z1 := mg_zero hb ha h3
  have z2 := mg_zero hb hb' h3'
  unfold smP
  by_cases hs : a.s = b.s
  · have hG : oG b = oG a := by unfold oG; rw [hs]
    rw [oV_one (by decide) (isD_K ha) (isD_K hb') hs h3 h3', hG, sgn_G]
    have hq : oG a = 1 ∨ oG a = -1 := by rcases oG_sq a with ⟨_, h⟩ | ⟨_, h⟩ <;> omega
    obtain ⟨c, s, g, x, k⟩ := a
    obtain ⟨c', s', g', x', k'⟩ := b
    rcases id ha with ⟨p1, p2, _⟩ | ⟨p1, p2, p4, p5⟩ | ⟨p1, _⟩
    · dsimp only at p1 p2
      subst p1 p2
      rcases id hb' with ⟨r1, r2, _⟩ | ⟨r1, r2, r4, r5⟩ | ⟨r1, _⟩
      · dsimp only at r1 r2
        subst r1 r2
        rw [if_neg (fun q => q rfl), if_pos rfl, mg_cmp hb ha hb']
      · dsimp only at r1
        subst r1
        have e := (mg_fin hb ha).2.1
        have e2 : mg n ⟨2, s', g', x', k'⟩ = tpN n := if_pos rfl
        have e3 : sgn (mg n ⟨1, s, false, x, k⟩ : Int) (tpN n : Int) = -1 := by unfold sgn; rw [if_pos (by omega)]
        rw [if_pos (show (1 : Int) ≠ 2 by decide), e2, e3]
        rfl
      · exact absurd r1 h3'
    · dsimp only at p1
      subst p1
      have e : mg n ⟨2, s, g, x, k⟩ = tpN n := if_pos rfl
      rcases id hb' with ⟨r1, r2, _⟩ | ⟨r1, r2, r4, r5⟩ | ⟨r1, _⟩
      · dsimp only at r1 r2
        subst r1 r2
        have e2 := (mg_fin hb hb').2.1
        have e3 : sgn (tpN n : Int) (mg n ⟨1, s', false, x', k'⟩ : Int) = 1 := by unfold sgn; rw [if_neg (by omega), if_pos (by omega)]
        rw [if_pos (show (2 : Int) ≠ 1 by decide), e, e3]
        rfl
      · dsimp only at r1
        subst r1
        have e2 : mg n ⟨2, s', g', x', k'⟩ = tpN n := if_pos rfl
        rw [if_neg (fun q => q rfl), if_neg (show ¬ (2 : Int) = 1 by decide), e, e2, sgn_self, Int.mul_zero]
      · exact absurd r1 h3'
    · exact absurd p1 h3
  · have gA := oG_sq a
    have gB := oG_sq b
    have hne : oG a ≠ oG b := by
      intro q
      apply hs
      rcases gA with ⟨u, v⟩ | ⟨u, v⟩ <;> rcases gB with ⟨u', v'⟩ | ⟨u', v'⟩ <;> first | exact u.trans u'.symm | (exfalso; omega)
    have sA : oS a = if a.c = 1 ∧ a.k = 0 then 0 else oG a := rfl
    have sB : oS b = if b.c = 1 ∧ b.k = 0 then 0 else oG b := rfl
    by_cases q1 : a.c = 1 ∧ a.k = 0
    · rw [if_pos q1] at sA
      rw [oV_a (Or.inr sA), sA, z1.2 q1]
      by_cases q2 : b.c = 1 ∧ b.k = 0
      · rw [if_pos q2] at sB
        rw [sB, z2.2 q2]
        rcases gA with ⟨_, v⟩ | ⟨_, v⟩ <;> rcases gB with ⟨_, v'⟩ | ⟨_, v'⟩ <;> rw [v, v'] <;> decide
      · rw [if_neg q2] at sB
        have : 0 < mg n b := Nat.pos_of_ne_zero fun e => q2 (z2.1 e)
        rw [sB]
        refine sgn_same ?_ ?_ <;> rcases gA with ⟨_, v⟩ | ⟨_, v⟩ <;> rcases gB with ⟨_, v'⟩ | ⟨_, v'⟩ <;> rw [v, v'] <;> omega
    · rw [if_neg q1] at sA
      have h1 : 0 < mg n a := Nat.pos_of_ne_zero fun e => q1 (z1.1 e)
      by_cases q2 : b.c = 1 ∧ b.k = 0
      · rw [if_pos q2] at sB
        rw [oV_a (Or.inl (by rw [sA, sB]; omega)), sA, sB, z2.2 q2]
        refine sgn_same ?_ ?_ <;> rcases gA with ⟨_, v⟩ | ⟨_, v⟩ <;> rcases gB with ⟨_, v'⟩ | ⟨_, v'⟩ <;> rw [v, v'] <;> omega
      · rw [if_neg q2] at sB
        have h2 : 0 < mg n b := Nat.pos_of_ne_zero fun e => q2 (z2.1 e)
        rw [oV_a (Or.inl (by rw [sA, sB]; exact hne)), sA, sB]
        refine sgn_same ?_ ?_ <;> rcases gA with ⟨_, v⟩ | ⟨_, v⟩ <;> rcases gB with ⟨_, v'⟩ | ⟨_, v'⟩ <;> rw [v, v'] <;> omega
end Go.Proofs.YtgknbdehlmlipabGreatDoor
