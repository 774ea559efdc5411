/-
  Texts that the proof leans on.
-/
import Derived.Test.YtgknbdehlmlipaaDoorJ35
import Derived.Test.YtgknbdehlmlipaaDoorJ31
import Derived.Test.YtgknbdehlmlipaaDoorJ37
import Derived.Test.YtgknbdehlmlipaaDoorJ3
set_option linter.unusedVariables false
set_option linter.unusedSectionVars false
set_option linter.unusedSimpArgs false
set_option maxRecDepth 20000
namespace Go.Proofs.YtgknbdehlmlipaaDoor
open Go.RowKit
theorem vT_256 {f : DF} (h : f.ok) {R : Nat} (hR : R < 2 ^ f.t) : vT f R < 2 ^ 128 := by
  have hw := h.w12
  have := ten_128 h
  cases hd : f.dn
  · unfold vT; rw [hd, if_neg (by decide)]; exact Nat.lt_of_lt_of_le hR (Nat.pow_le_pow_right (by decide) (by omega))
  · exact Nat.lt_trans (vT_lt h hd R) this.2
theorem vL_9 {f : DF} (dn : Bool) (w G : Nat) : vL dn w G ≤ 9 := by
  unfold vL
  cases dn <;> simp only [Bool.false_eq_true, if_false, if_true] <;> split <;> omega
theorem dsgn_ge (A B : Nat) : 0 ≤ sgn (A : Int) (B : Int) ↔ ¬ A < B := by
  unfold sgn
  by_cases h : (A : Int) < (B : Int)
  · rw [if_pos h]; constructor
    · intro q; exact absurd q (by decide)
    · intro q; omega
  · rw [if_neg h]; constructor
    · intro _; omega
    · intro _; split <;> decide
section
variable {f : DF} (h : f.ok)
include h
set_option maxHeartbeats 1000000 in
theorem fmean (B : Nat) (w : World) (hB : B < 2 ^ 256) : Calls Tryd.prog 36 #[LF f, A4 B] w fun r w' => r = .returned (vM f B).v ∧ Below w.heap.size w w' := by
  have hw := h.w12
  have hG := vG_lt f B
  have hR := vR_lt f B
  have cs := fun W => fsplit h B W hB
  have ck := fun W => fkind h (vG f B) W hG
  have cr := fun W => fread h (vR f B) W hR
  have hU := vT_256 h hR
  have h10 := ten_128 h
  have e256 : (2 : Nat) ^ 128 * 2 ^ 4 < 2 ^ 256 := by decide
  unfold vM vD
  generalize vG f B = G at *
  generalize vR f B = R at *
  generalize vS f B = s at *
  by_cases h30 : vV f.w G = 30
  · rw [if_pos h30]
    exact dmean_i _ _ _ _ _ _ _ _ _ w B R s (G : Int) _ cs ck (by rw [h30]; rfl)
  · rw [if_neg h30]
    have e30 : (((vV f.w G : Nat) : Int) == 30) = false := by rw [show (30 : Int) = ((30 : Nat) : Int) from rfl, beq_dec]; exact decide_eq_false h30
    by_cases h31 : vV f.w G = 31
    · rw [if_pos h31]
      exact dmean_n _ _ _ _ _ _ _ _ _ w B R s (G : Int) _ cs ck (vT f R) _ cr _ e30 (by rw [h31]; rfl) (fun W => fsig h G W hG) (fun W => nought_v (vT f R) (10 ^ (3 * f.j)) W (by omega) (by omega))
    · rw [if_neg h31]
      have e31 : (((vV f.w G : Nat) : Int) == 31) = false := by rw [show (31 : Int) = ((31 : Nat) : Int) from rfl, beq_dec]; exact decide_eq_false h31
      have hL := vL_9 (f := f) f.dn f.w G
      have hq := vQ_256 h
      have hm : vL f.dn f.w G * vQ f ≤ 2 ^ 4 * 2 ^ 128 := Nat.mul_le_mul (by omega) (by omega)
      have cm := fun W => mul4 (vQ f) (vL f.dn f.w G) W (by omega) (by omega)
      rw [Nat.mul_comm (vQ f)] at cm
      have hF : vF f.dn f.w G < 1000000 := by
        unfold vF vV
        rcases h with ⟨h1, h2, h3, h4⟩ | ⟨h1, h2, h3, h4⟩ | ⟨h1, h2, h3, h4⟩ <;> rw [h2] at hG ⊢ <;> cases f.dn <;> simp only [Bool.false_eq_true, if_false, if_true] <;> simp only [Nat.reducePow, Nat.reduceAdd] at * <;> split <;> omega
      have hl : -1000000 ≤ f.l ∧ f.l ≤ 1000000 := by rcases h with ⟨h1, h2, h3, h4⟩ | ⟨h1, h2, h3, h4⟩ | ⟨h1, h2, h3, h4⟩ <;> omega
      have e5 : (2 : Nat) ^ 4 * 2 ^ 128 + 2 ^ 128 < 2 ^ 256 := by decide
      exact dmean_f _ _ _ _ _ _ _ _ _ w B R s (G : Int) _ cs ck (vT f R) _ cr _ _ _ _ _ _ e30 e31 (by omega) (by omega) hl.1 hl.2 (fun W => fpart h G W hG) cm (fun W => add4 _ _ W (by omega) (by omega)) (fun W => nought_v _ (10 ^ (3 * f.j + 1)) W (by omega) (by omega))
set_option maxHeartbeats 2000000 in
theorem fpack (d : Dat) (w : World) (hk : d.k < 2 ^ 256) : Calls Tryd.prog 37 #[LF f, d.v] w fun r w' => r = .returned (.tuple #[A4 (if vI f d then vP f d else 0), .int .i64 (if vI f d then 0 else 3)]) ∧ Below w.heap.size w w' := by
  have hw := h.w12
  have h10 := ten_128 h
  have hq := vQ_256 h
  have e256 : (2 : Nat) ^ 128 < 2 ^ 256 := by decide
  have hl : -1000000 ≤ f.l ∧ f.l ≤ 0 := by rcases h with ⟨h1, h2, h3, h4⟩ | ⟨h1, h2, h3, h4⟩ | ⟨h1, h2, h3, h4⟩ <;> omega
  have hw3 : (3 * 2 ^ f.w : Nat) ≤ 3 * 2 ^ 12 := Nat.mul_le_mul (Nat.le_refl _) (Nat.pow_le_pow_right (by decide) (by omega))
  have ei : ((3 * 2 ^ f.w : Nat) : Int) = 3 * 2 ^ f.w := by rw [Int.natCast_mul, i2pow]; rfl
  obtain ⟨c, s, g, x, k⟩ := d
  simp only at hk
  by_cases h1 : c = 1
  · subst h1
    refine dpack_1 _ _ _ _ _ _ _ _ _ w x s g k _ _ ?_
    intro W
    by_cases hi : vI f ⟨1, s, g, x, k⟩
    · rw [if_pos hi, if_pos hi]
      have hPG := vPG_lt h hi
      have hPR := vPR_lt h hi
      obtain ⟨_, hg, hk10, hx0, hx1⟩ : (1 : Int) = 1 ∧ g = false ∧ k < 10 ^ (3 * f.j + 1) ∧ f.l ≤ x ∧ x ≤ f.l + 3 * 2 ^ f.w - 1 := by
        rcases hi with hi | hi | hi
        · exact hi
        · exact absurd (show (1 : Int) = 2 from hi.1) (by decide)
        · exact absurd (show (1 : Int) = 3 from hi.1) (by decide)
      subst hg
      have hqp : 0 < vQ f := by
        unfold vQ; cases f.dn <;> simp only [Bool.false_eq_true, if_false, if_true]
        · exact Nat.two_pow_pos _
        · exact Nat.pow_pos (by decide)
      have hm9 : k / vQ f ≤ 9 := by
        unfold vQ
        rcases h with ⟨h1, h2, h3, h4⟩ | ⟨h1, h2, h3, h4⟩ | ⟨h1, h2, h3, h4⟩ <;> rw [h3] at hk10 ⊢ <;> rw [h1] <;> cases f.dn <;> simp only [Bool.false_eq_true, if_false, if_true] <;> simp only [Nat.reducePow, Nat.reduceAdd, Nat.reduceMul] at * <;> omega
      have hmod : k - k / vQ f * vQ f = k % vQ f := by have := Nat.div_add_mod' k (vQ f); omega
      have hlt := Nat.mod_lt k hqp
      have hE : (x - f.l).toNat < 3 * 2 ^ f.w := by omega
      have hEi : x - f.l = (((x - f.l).toNat : Nat) : Int) := by omega
      have cn := fun W => funite h (x - f.l).toNat (k / vQ f) W hE hm9
      rw [← hEi] at cn
      have hvN : vPG f ⟨1, s, false, x, k⟩ = vN f.dn f.w (x - f.l).toNat (k / vQ f) := rfl
      rw [← hvN] at cn
      have hR0 : ∀ i, k - i * vQ f < 2 ^ 256 := fun i => by omega
      have cw := fun W => fwrite h (k - k / vQ f * vQ f) W (hR0 _) (fun hd => by
        rw [hmod, ← ten3]
        have : vQ f = 10 ^ (3 * f.j) := by unfold vQ; rw [hd, if_pos rfl]
        rw [this] at hlt ⊢
        exact hlt)
      have ew : (if f.dn = true then dlP f.j (k - k / vQ f * vQ f) else k - k / vQ f * vQ f) = vPR f ⟨1, s, false, x, k⟩ := by
        rw [hmod]
        unfold vPR vQ
        simp only [show ¬ ((1 : Int) = 2) by decide, show ¬ ((1 : Int) = 3) by decide, if_false]
        cases f.dn <;> simp
      rw [ew] at cw
      have cj := fun W => fjoin h s _ _ W hPG hPR
      refine dfin_y _ _ _ _ _ _ _ _ _ W x s k _ _ (fun W => cmp4 k _ W hk (by omega)) (by omega) (by omega) (by rw [dsgn_ge]; omega) (k / vQ f) (by omega) (fun i => k - i * vQ f) (fun i => sgn ((k - i * vQ f : Nat) : Int) (vQ f : Int)) (fun i => if k - i * vQ f < vQ f then 1 else 0) (by simp) _ hl.1 (by omega) (by omega) _ ?_ ?_ ?_ ?_ cn cw cj
      · show ∀ _, _
        intro i hi W
        exact cmp4 _ _ W (hR0 i) (by omega)
      · show ∀ _, _
        intro i hi
        rw [dsgn_ge]
        have : (i + 1) * vQ f ≤ k := Nat.le_trans (Nat.mul_le_mul_right _ hi) (Nat.div_mul_le_self _ _)
        rw [Nat.add_mul, Nat.one_mul] at this
        omega
      · show ¬ _
        rw [dsgn_ge, hmod]; omega
      · show ∀ _, _
        intro i hi W
        have : (i + 1) * vQ f ≤ k := Nat.le_trans (Nat.mul_le_mul_right _ hi) (Nat.div_mul_le_self _ _)
        have e : k - (i + 1) * vQ f = k - i * vQ f - vQ f := by rw [Nat.add_mul, Nat.one_mul]; omega
        rw [Nat.add_mul, Nat.one_mul] at this
        have c := sub4 (k - i * vQ f) (vQ f) W (hR0 i) (by omega)
        rw [A4_sub (by omega), ← e] at c
        exact c
    · rw [if_neg hi, if_neg hi]
      cases g
      · by_cases a1 : x < f.l
        · exact dfin_l _ _ _ _ _ _ _ _ _ W x s k a1
        · by_cases a2 : f.l + 3 * 2 ^ f.w - 1 < x
          · exact dfin_m _ _ _ _ _ _ _ _ _ W x s k a1 a2
          · have a3 : ¬ k < 10 ^ (3 * f.j + 1) := fun q => hi (Or.inl ⟨rfl, rfl, q, (by omega : f.l ≤ x), (by omega : x ≤ f.l + 3 * 2 ^ f.w - 1)⟩)
            exact dfin_k _ _ _ _ _ _ _ _ _ W x s k _ (fun W => cmp4 k _ W hk (by omega)) a1 a2 ((dsgn_ge _ _).2 a3)
      · exact dfin_s _ _ _ _ _ _ _ _ _ W x s k
  · by_cases h2 : c = 2
    · subst h2
      refine dpack_2 _ _ _ _ _ _ _ _ _ w x s g k _ _ ?_
      intro W
      by_cases hi : vI f ⟨2, s, g, x, k⟩
      · rw [if_pos hi, if_pos hi]
        have hPG := vPG_lt h hi
        obtain ⟨_, hg, hk0, hx0⟩ : (2 : Int) = 2 ∧ g = false ∧ k = 0 ∧ x = 0 := by
          rcases hi with hi | hi | hi
          · exact absurd (show (2 : Int) = 1 from hi.1) (by decide)
          · exact hi
          · exact absurd (show (2 : Int) = 3 from hi.1) (by decide)
        subst hg hk0 hx0
        have cp := fun W => fspec h 30 false W (by decide)
        have cj := fun W => fjoin h s _ 0 W hPG (Nat.two_pow_pos _)
        rw [Z4_eq] at cj
        exact dinf_y _ _ _ _ _ _ _ _ _ W s _ _ cp cj
      · rw [if_neg hi, if_neg hi]
        cases g
        · by_cases a1 : x = 0
          · subst a1
            refine dinf_k _ _ _ _ _ _ _ _ _ W s k (decide_eq_false fun q => hi (Or.inr (Or.inl ⟨rfl, rfl, ?_, rfl⟩)))
            refine A4_inj hk (by decide) fun i hi => ?_
            rw [W4_zero]
            rcases (show i = 0 ∨ i = 1 ∨ i = 2 ∨ i = 3 by omega) with e | e | e | e <;> subst e
            · exact q.1
            · exact q.2.1
            · exact q.2.2.1
            · exact q.2.2.2
          · exact dinf_x _ _ _ _ _ _ _ _ _ W x s k (by simp [a1])
        · exact dinf_s _ _ _ _ _ _ _ _ _ W x s k
    · by_cases h3 : c = 3
      · subst h3
        refine dpack_3 _ _ _ _ _ _ _ _ _ w x s g k _ _ ?_
        intro W
        by_cases hi : vI f ⟨3, s, g, x, k⟩
        · rw [if_pos hi, if_pos hi]
          have hPG := vPG_lt h hi
          have hPR := vPR_lt h hi
          obtain ⟨_, hx0, hk10⟩ : (3 : Int) = 3 ∧ x = 0 ∧ k < 10 ^ (3 * f.j) := by
            rcases hi with hi | hi | hi
            · exact absurd (show (3 : Int) = 1 from hi.1) (by decide)
            · exact absurd (show (3 : Int) = 2 from hi.1) (by decide)
            · exact hi
          subst hx0
          have cp := fun W => fspec h 31 g W (by decide)
          have cw := fun W => fwrite h k W hk (fun _ => by rw [← ten3]; exact hk10)
          have cj := fun W => fjoin h s _ _ W hPG hPR
          exact dnan_y _ _ _ _ _ _ _ _ _ W s g k _ _ _ (fun W => cmp4 k _ W hk (by omega)) _ (by rw [dsgn_ge]; omega) cp cw cj
        · rw [if_neg hi, if_neg hi]
          by_cases a1 : x = 0
          · subst a1
            have a3 : ¬ k < 10 ^ (3 * f.j) := fun q => hi (Or.inr (Or.inr ⟨rfl, rfl, q⟩))
            exact dnan_k _ _ _ _ _ _ _ _ _ W s g k _ (fun W => cmp4 k _ W hk (by omega)) ((dsgn_ge _ _).2 a3)
          · exact dnan_x _ _ _ _ _ _ _ _ _ W x s g k (by simp [a1])
      · have hi : ¬ vI f ⟨c, s, g, x, k⟩ := by
          rintro (q | q | q)
          · exact h1 q.1
          · exact h2 q.1
          · exact h3 q.1
        rw [if_neg hi, if_neg hi]
        exact dpack_0 _ _ _ _ _ _ _ _ _ w c x s g k (by simp [h1]) (by simp [h2]) (by simp [h3])
end
end Go.Proofs.YtgknbdehlmlipaaDoor

namespace Go.Proofs.YtgknbdehlmlipaaDoor
open Go.RowKit
attribute [local irreducible] W4
attribute [local go_sem ↓] ld18_eq
attribute [local go_sem] ld18_got
section
variable (n : Int) (w : World) (hT : Tab w)
include hT
variable (dn : Bool) (g t bl : Int) (wo co pa : Nat) (le mo : Int)
variable (B : Nat) (c1 : ∀ W, Tab W → Calls Tryd.prog 35 #[.int .i64 n, A4 B] W fun r w' => r = .returned (.tuple #[LD dn g t bl wo co pa le mo, .int .i64 0]) ∧ Below W.heap.size W w')
  (c x E : Int) (s q : Bool) (k P : Nat)
  (c2 : ∀ W, Calls Tryd.prog 36 #[LD dn g t bl wo co pa le mo, A4 B] W fun r w' => r = .returned (DV c s q x k) ∧ Below W.heap.size W w')
  (c3 : ∀ W, Calls Tryd.prog 37 #[LD dn g t bl wo co pa le mo, DV c s q x k] W fun r w' => r = .returned (.tuple #[A4 P, .int .i64 E]) ∧ Below W.heap.size W w')
include c1 c2 c3
set_option maxHeartbeats 4000000 in
theorem dunp_y (R : Bool) (hR : decide (W4 P 0 = W4 B 0 ∧ W4 P 1 = W4 B 1 ∧ W4 P 2 = W4 B 2 ∧ W4 P 3 = W4 B 3) = R) : Calls Tryd.prog 22 #[.int .i64 n, A4 B] w fun r w' => r = .returned (.tuple #[DV c s q x k, .bool R, .int .i64 0]) ∧ Below w.heap.size w w' := by
  have hsm := cell_set_map
  have hq := eq24 (W4 P 0) (W4 P 1) (W4 P 2) (W4 P 3) (W4 B 0) (W4 B 1) (W4 B 2) (W4 B 3)
  rw [hR] at hq
  go_enter Tryd.func22, Tryd.ntmps22
  go_wp2_with (first
    | (go_at_call 35; refine (c1 _ ((hT.alloc _).alloc _)).mono ?_; rintro r w1 ⟨rfl, hb1⟩; obtain ⟨hc1, hf1⟩ := bcell hb1; have hz1_0 : w.heap.size < w1.heap.size := lt_below hb1 ltg; have hl1_0 := Nat.le_of_lt hz1_0; have hz1_1 : w.heap.size + 1 < w1.heap.size := lt_below hb1 ltg; have hl1_1 := Nat.le_of_lt hz1_1; have hA1 := bnext (w0 := w) bgo hb1; have hs1 := hA1.size; clear hb1)
    | (go_at_call 36; refine (c2 _).mono ?_; rintro r w2 ⟨rfl, hb2⟩; obtain ⟨hc2, hf2⟩ := bcell hb2; have hz2_0 : w.heap.size < w2.heap.size := lt_below hb2 ltg; have hl2_0 := Nat.le_of_lt hz2_0; have hz2_1 : w.heap.size + 1 < w2.heap.size := lt_below hb2 ltg; have hl2_1 := Nat.le_of_lt hz2_1; have hz2_2 : w1.heap.size < w2.heap.size := lt_below hb2 ltg; have hl2_2 := Nat.le_of_lt hz2_2; have hA2 := bnext (w0 := w) bgo hb2; have hs2 := hA2.size; clear hb2)
    | (go_at_call 37; refine (c3 _).mono ?_; rintro r w3 ⟨rfl, hb3⟩; obtain ⟨hc3, hf3⟩ := bcell hb3; have hz3_0 : w.heap.size < w3.heap.size := lt_below hb3 ltg; have hl3_0 := Nat.le_of_lt hz3_0; have hz3_1 : w.heap.size + 1 < w3.heap.size := lt_below hb3 ltg; have hl3_1 := Nat.le_of_lt hz3_1; have hz3_2 : w1.heap.size < w3.heap.size := lt_below hb3 ltg; have hl3_2 := Nat.le_of_lt hz3_2; have hz3_3 : w2.heap.size < w3.heap.size := lt_below hb3 ltg; have hl3_3 := Nat.le_of_lt hz3_3; have hA3 := bnext (w0 := w) bgo hb3; have hs3 := hA3.size; clear hb3))
  go_region_with (fail)
  all_goals
    go_wp2
    exact bodyPost_ret (v := .tuple #[DV c s q x k, .bool R, .int .i64 0]) (by simp only [results, Tryd.results22]; go_simp) rfl ⟨rfl, bgo⟩
end
end Go.Proofs.YtgknbdehlmlipaaDoor
