/-
  Texts that the proof leans on.
-/
import Derived.Test.YtiojbgdfmabjdaaDoorJ35
import Derived.Test.YtiojbgdfmabjdaaDoorJ22
import Derived.Test.YtiojbgdfmabjdaaDoorJ30
import Derived.Test.YtiojbgdfmabjdaaDoorJ6
import Derived.Test.YtiojbgdfmabjdaaDoorJ33
import Derived.Test.YtiojbgdfmabjdaaDoorJ26
import Derived.Test.YtiojbgdfmabjdaaDoorJ34
import Derived.Deep.Cut
import Derived.Deep.CutRange
import Derived.Test.YtiojbgdfmabjdaaDoorJ21
import Derived.Test.YtiojbgdfmabjdaaDoorJ17
import Derived.Test.YtiojbgdfmabjdaaDoorJ9
import Derived.Test.YtiojbgdfmabjdaaDoorJ13
import Derived.Test.YtiojbgdfmabjdaaDoorJ12
import Derived.Deep.RegionWith
import Derived.Test.YtiojbgdfmabjdaaDoorJ24
import Derived.Test.YtiojbgdfmabjdaaDoorJ31
import Derived.Test.YtiojbgdfmabjdaaDoorJ27
import Derived.StillTail
import Derived.Below
import Derived.WalkKit
import Derived.Test.YtiojbgdfmabjdaaDoorJ23
import Derived.Test.YtiojbgdfmabjdaaDoorJ29
import Derived.Test.YtiojbgdfmabjdaaDoorJ7
import Derived.Test.YtiojbgdfmabjdaaDoorJ28
import Derived.Test.YtiojbgdfmabjdaaDoorJ4
import Derived.Test.YtiojbgdfmabjdaaDoorJ36
set_option linter.unusedVariables false
set_option linter.unusedSectionVars false
set_option linter.unusedSimpArgs false
set_option maxRecDepth 20000
namespace Go.Proofs.YtiojbgdfmabjdaaDoor
open Go.RowKit
/-- the pattern and the flags of a datum that is converted -/
def cvV (n d : Int) (D : Dat) : Nat := if D.c = 2 then pkV n ⟨2, D.s, false, 0, 0⟩ else if D.c = 3 then pkV n ⟨3, D.s, false, 0, if D.k < 2 ^ (fN n - 1) then D.k else 0⟩ else rdV n d D.s D.k 1 D.x
def cvF (n d : Int) (D : Dat) : Int := if D.c = 2 then 0 else if D.c = 3 then (if D.g then 1 else 0) else rdF n d D.s D.k 1 D.x
theorem fN_prec {n : Int} (hb : binN n) : (fN n : Int) + 1 = precN n := by
  rcases bin_cases hb with rfl | rfl | rfl | rfl | rfl | rfl <;> decide
theorem hold_bin {m n : Int} (hm : binN m) (h : holdsP m n) : binN n := by
  obtain ⟨h1, h2, h3, _⟩ := h
  apply Classical.byContradiction
  intro hb
  rcases not_bin hb with ⟨_, h10⟩ | hok
  · rw [h10] at h3
    rcases bin_cases hm with rfl | rfl | rfl | rfl | rfl | rfl <;> exact absurd h3 (by decide)
  · exact hok h2
theorem hold_ord {m n : Int} (hm : binN m) (h : holdsP m n) : fN m ≤ fN n ∧ leastN n ≤ leastN m ∧ mostN m + (fN m : Int) ≤ mostN n + (fN n : Int) ∧ leastN n ≤ mostN n := by
  have hn := hold_bin hm h
  have e1 := fN_prec hm
  have e2 := fN_prec hn
  obtain ⟨_, _, _, h4, h5, h6⟩ := h
  refine ⟨by omega, h5, by omega, ?_⟩
  rcases bin_cases hn with rfl | rfl | rfl | rfl | rfl | rfl <;> decide
/-- a finite number of a format is one of each that holds it -/
theorem hold_fin {m n : Int} (hm : binN m) (h : holdsP m n) {s : Bool} {x : Int} {k : Nat} (hD : isD (fN m) (leastN m) (mostN m) ⟨1, s, false, x, k⟩) :
    ∃ q c, isD (fN n) (leastN n) (mostN n) ⟨1, s, false, q, c⟩ ∧ ((k = 0 ∧ c = 0) ∨ (k ≠ 0 ∧ ∃ j : Nat, c = k * 2 ^ j ∧ q = x - j)) := by
  obtain ⟨o1, o2, o3, o4⟩ := hold_ord hm h
  rcases hD with ⟨_, _, h3, h4, h5, h6⟩ | ⟨h1, _⟩ | ⟨h1, _⟩
  · dsimp only at h3 h4 h5 h6
    by_cases h0 : k = 0
    · refine ⟨leastN n, 0, Or.inl ⟨rfl, rfl, Nat.two_pow_pos _, Int.le_refl _, o4, Or.inr rfl⟩, Or.inl ⟨h0, rfl⟩⟩
    · have hbk : bl k ≤ fN m + 1 := bl_le.2 h3
      have hb0 : bl k ≠ 0 := fun e => h0 (bl_zero.1 e)
      have hlo : 2 ^ (bl k - 1) ≤ k := bl_ge.1 (by omega)
      have hhi : k < 2 ^ bl k := bl_le.1 (Nat.le_refl _)
      obtain ⟨j, hj⟩ : ∃ j : Nat, j = min (fN n + 1 - bl k) (x - leastN n).toNat := ⟨_, rfl⟩
      have hj1 : j ≤ fN n + 1 - bl k := by omega
      have hj2 : (j : Int) ≤ x - leastN n := by omega
      have hlt : k * 2 ^ j < 2 ^ (fN n + 1) := by
        have e1 : k * 2 ^ j < 2 ^ bl k * 2 ^ j := Nat.mul_lt_mul_of_pos_right hhi (Nat.two_pow_pos _)
        rw [← Nat.pow_add] at e1
        exact Nat.lt_of_lt_of_le e1 (Nat.pow_le_pow_right (by decide) (by omega))
      refine ⟨x - j, k * 2 ^ j, Or.inl ⟨rfl, rfl, hlt, by show leastN n ≤ x - j; omega, ?_, ?_⟩, Or.inr ⟨h0, j, rfl, rfl⟩⟩
      · show x - (j : Int) ≤ mostN n
        by_cases e : j = fN n + 1 - bl k
        · omega
        · have : (j : Int) = x - leastN n := by omega
          omega
      · show 2 ^ fN n ≤ k * 2 ^ j ∨ x - (j : Int) = leastN n
        by_cases e : j = fN n + 1 - bl k
        · left
          have e1 : 2 ^ (bl k - 1) * 2 ^ j ≤ k * 2 ^ j := Nat.mul_le_mul_right _ hlo
          rw [← Nat.pow_add] at e1
          exact Nat.le_trans (Nat.pow_le_pow_right (by decide) (by omega)) e1
        · right
          omega
  · exact absurd h1 (show ¬ (1 : Int) = 2 by decide)
  · exact absurd h1 (show ¬ (1 : Int) = 3 by decide)
/-- two spellings of one number are rounded alike -/
theorem cv_alike (t d : Int) (s : Bool) {x q : Int} {k c : Nat} (h : (k = 0 ∧ c = 0) ∨ (k ≠ 0 ∧ ∃ j : Nat, c = k * 2 ^ j ∧ q = x - j)) : rdV t d s c 1 q = rdV t d s k 1 x ∧ rdF t d s c 1 q = rdF t d s k 1 x := by
  rcases h with ⟨rfl, rfl⟩ | ⟨_, j, rfl, rfl⟩
  · unfold rdV rdF
    rw [if_pos rfl, if_pos rfl, if_pos rfl, if_pos rfl]
    exact ⟨rfl, rfl⟩
  · obtain ⟨s1, s2⟩ := rd_shift t d s k (D := 1) (by decide) j 0 (x - j)
    rw [Nat.pow_zero, Nat.mul_one, show x - (j : Int) + ((j : Int) - ((0 : Nat) : Int)) = x by omega] at s1 s2
    exact ⟨s1, s2⟩
/-- what is a number of the format stays, without flags -/
theorem cv_keep {n : Int} (d : Int) (hb : binN n) {s : Bool} {q : Int} {c : Nat} (h : isD (fN n) (leastN n) (mostN n) ⟨1, s, false, q, c⟩) : rdV n d s c 1 q = pkV n ⟨1, s, false, q, c⟩ ∧ rdF n d s c 1 q = 0 := by
  have := keep_eq d hb h (b := 1) (by decide)
  rw [Nat.mul_one] at this
  exact this
theorem und_is {m : Int} {B : Nat} (h : goodN m B) : isD (fN m) (leastN m) (mostN m) (unD m B) := by
  obtain ⟨S, E, F, hS, hE, hFr, hBe⟩ := fields_in h.2
  have hu : unD m B = mean (fN m) (eN m) (leastN m) S E F := by
    unfold unD; rw [if_pos h, hBe, unp_mean _ hS hE hFr]
  rw [hu]
  exact (mean_isD (bin_fm h.1) hS hE hFr).1
theorem fN_two {n : Int} (hb : binN n) : 2 ≤ fN n := by
  rcases bin_cases hb with rfl | rfl | rfl | rfl | rfl | rfl <;> decide
/-- a pattern that comes out is one of the format -/
theorem pk_good {n : Int} {D : Dat} (hb : binN n) (h : isD (fN n) (leastN n) (mostN n) D) : goodN n (pkV n D) ∧ unD n (pkV n D) = D :=
  back_pk (by unfold pkE; rw [if_pos hb, if_pos h])
theorem hush_is {f : Nat} {l m : Int} {D : Dat} (h : isD f l m D) : isD f l m (hush D) := by
  rcases h with ⟨h1, h2, h3, h4, h5, h6⟩ | ⟨h1, h2, h3, h4⟩ | ⟨h1, h2, h3, h4⟩
  · exact Or.inl ⟨h1, rfl, h3, h4, h5, h6⟩
  · exact Or.inr (Or.inl ⟨h1, rfl, h3, h4⟩)
  · exact Or.inr (Or.inr ⟨h1, h2, h3, Or.inr rfl⟩)
/-- into a format that holds the first one: a datum of it, that any format takes as the first one -/
theorem cv_widen {m n : Int} (hm : binN m) (h : holdsP m n) {D : Dat} (hD : isD (fN m) (leastN m) (mostN m) D) (d : Int) :
    ∃ D', isD (fN n) (leastN n) (mostN n) D' ∧ cvV n d D = pkV n D' ∧ cvF n d D = (if D.g then 1 else 0) ∧ ∀ t e, cvV t e D' = cvV t e D ∧ cvF t e D' = (if D.g then 0 else cvF t e D) := by
  have hn := hold_bin hm h
  obtain ⟨c, s, g, x, k⟩ := D
  have hD0 := hD
  rcases hD with ⟨h1, h2, h3, h4, h5, h6⟩ | ⟨h1, h2, h3, h4⟩ | ⟨h1, h2, h3, h4⟩
  · dsimp only at h1 h2
    subst h1 h2
    obtain ⟨q, c', hq, ha⟩ := hold_fin hm h hD0
    obtain ⟨k1, k2⟩ := cv_keep d hn hq
    refine ⟨⟨1, s, false, q, c'⟩, hq, ?_, ?_, fun t e => ?_⟩
    · show rdV n d s k 1 x = _
      rw [← (cv_alike n d s ha).1, k1]
    · show rdF n d s k 1 x = 0
      rw [← (cv_alike n d s ha).2, k2]
    · exact cv_alike t e s ha
  · dsimp only at h1 h2 h3 h4
    subst h1 h2 h3 h4
    exact ⟨⟨2, s, false, 0, 0⟩, Or.inr (Or.inl ⟨rfl, rfl, rfl, rfl⟩), rfl, rfl, fun t e => ⟨rfl, rfl⟩⟩
  · dsimp only at h1 h2 h3 h4
    subst h1 h2
    have hf := (hold_ord hm h).1
    have hk : k < 2 ^ (fN n - 1) := Nat.lt_of_lt_of_le h3 (Nat.pow_le_pow_right (by decide) (by omega))
    refine ⟨⟨3, s, false, 0, k⟩, Or.inr (Or.inr ⟨rfl, rfl, hk, Or.inr rfl⟩), ?_, rfl, fun t e => ⟨rfl, ?_⟩⟩
    · show pkV n ⟨3, s, false, 0, if k < 2 ^ (fN n - 1) then k else 0⟩ = _
      rw [if_pos hk]
    · cases g <;> rfl
/-- into its own format -/
theorem cv_self {m : Int} (hm : binN m) {D : Dat} (hD : isD (fN m) (leastN m) (mostN m) D) (d : Int) : cvV m d D = pkV m (hush D) ∧ cvF m d D = (if D.g then 1 else 0) := by
  obtain ⟨c, s, g, x, k⟩ := D
  have hD0 := hD
  rcases hD with ⟨h1, h2, h3, h4, h5, h6⟩ | ⟨h1, h2, h3, h4⟩ | ⟨h1, h2, h3, h4⟩
  · dsimp only at h1 h2
    subst h1 h2
    exact cv_keep d hm hD0
  · dsimp only at h1 h2 h3 h4
    subst h1 h2 h3 h4
    exact ⟨rfl, rfl⟩
  · dsimp only at h1 h2 h3 h4
    subst h1 h2
    refine ⟨?_, rfl⟩
    show pkV m ⟨3, s, false, 0, if k < 2 ^ (fN m - 1) then k else 0⟩ = _
    rw [if_pos h3]
    rfl
theorem qu_self {m : Int} {B : Nat} (h : goodN m B) : quV m B = pkV m (hush (unD m B)) ∧ quE m B = 0 ∧ ((unD m B).g = false → quV m B = B) := by
  have e1 : quV m B = pkV m (hush (unD m B)) := if_pos h
  refine ⟨e1, ?_, fun hg => ?_⟩
  · have : quE m B = pkE m (hush (unD m B)) := if_pos h
    rw [this]
    unfold pkE
    rw [if_pos h.1, if_pos (hush_is (und_is h))]
  · rw [e1, show hush (unD m B) = unD m B by unfold hush; rw [← hg]]
    exact (back_un h).2
/-! the sign -/
theorem nbit12 {f e K : Nat} (hf : 1 ≤ f) (hK : K < 2 ^ (f - 1)) : (2 ^ e - 1) * 2 ^ f + (K + 2 ^ (f - 1)) < 2 ^ (f + e) := by
  have h1 : 2 ^ (f - 1) + 2 ^ (f - 1) = 2 ^ f := by
    rw [← Nat.two_mul, ← Nat.pow_succ', show (f - 1).succ = f by omega]
  have h2 : (2 ^ e - 1) * 2 ^ f + 2 ^ f = 2 ^ e * 2 ^ f := by
    rw [Nat.sub_mul, Nat.one_mul]
    have : 2 ^ f ≤ 2 ^ e * 2 ^ f := Nat.le_mul_of_pos_left _ (Nat.two_pow_pos _)
    omega
  have h3 : 2 ^ (f + e) = 2 ^ e * 2 ^ f := by rw [Nat.pow_add, Nat.mul_comm]
  omega
theorem pk_nan12 {n : Int} {k : Nat} (hb : binN n) (hk : k < 2 ^ (fN n - 1)) : pkV n ⟨3, true, false, 0, k⟩ = pkV n ⟨3, false, false, 0, k⟩ + 2 ^ (fN n + eN n) ∧ pkV n ⟨3, false, false, 0, k⟩ < 2 ^ (fN n + eN n) := by
  have hf2 := fN_two hb
  have h : ∀ s, isD (fN n) (leastN n) (mostN n) ⟨3, s, false, 0, k⟩ := fun s => Or.inr (Or.inr ⟨rfl, rfl, hk, Or.inr rfl⟩)
  unfold pkV
  rw [if_pos ⟨hb, h true⟩, if_pos ⟨hb, h false⟩]
  unfold pk
  simp only [show ¬ ((3 : Int) = 1) by decide, show ¬ ((3 : Int) = 2) by decide, if_false, if_true, Bool.false_eq_true, Nat.add_zero]
  exact ⟨trivial, nbit12 (by omega) hk⟩
theorem cv_turn {t : Int} (d : Int) (hb : binN t) (c : Int) (g : Bool) (x : Int) (k : Nat) : cvV t (othD d) ⟨c, true, g, x, k⟩ = cvV t d ⟨c, false, g, x, k⟩ + 2 ^ (fN t + eN t) ∧ cvF t (othD d) ⟨c, true, g, x, k⟩ = cvF t d ⟨c, false, g, x, k⟩ ∧ cvV t d ⟨c, false, g, x, k⟩ < 2 ^ (fN t + eN t) := by
  unfold cvV cvF
  dsimp only
  by_cases h2 : c = 2
  · simp only [h2, if_true]
    rw [pk_inf hb, pk_inf hb]
    unfold sgN
    simp only [if_true, Bool.false_eq_true, if_false, Nat.add_zero]
    exact ⟨trivial, trivial, tp_lt hb⟩
  · simp only [h2, if_false]
    by_cases h3 : c = 3
    · simp only [h3, if_true]
      have hk : (if k < 2 ^ (fN t - 1) then k else 0) < 2 ^ (fN t - 1) := by
        by_cases h : k < 2 ^ (fN t - 1)
        · rw [if_pos h]; exact h
        · rw [if_neg h]; exact Nat.two_pow_pos _
      obtain ⟨a, b⟩ := pk_nan12 hb hk
      exact ⟨a, trivial, b⟩
    · simp only [h3, if_false]
      exact rd_turn d _ _ hb (by decide)
/-! the order -/
theorem cv_top {t : Int} (d : Int) (hb : binN t) (c : Int) (hc : c = 1 ∨ c = 2) (x : Int) (k : Nat) : cvV t d ⟨c, false, false, x, k⟩ ≤ tpN t := by
  unfold cvV
  dsimp only
  rcases hc with rfl | rfl
  · rw [if_neg (by decide), if_neg (by decide)]
    by_cases h0 : k = 0
    · subst h0
      rw [(r_zero d false 1 x hb).1]
      exact Nat.zero_le _
    · rw [r_pat d false x hb h0 (by decide)]
      exact cap_le _ _ _
  · rw [if_pos rfl, pk_inf hb]
    exact Nat.le_refl _
/-- of two data of one format the one with the greater pattern is the greater number -/
theorem cv_rise {m t : Int} (d : Int) (hm : binN m) (hb : binN t) {c1 c2 x1 x2 : Int} {g1 g2 : Bool} {k1 k2 : Nat}
    (h1 : isD (fN m) (leastN m) (mostN m) ⟨c1, false, g1, x1, k1⟩) (h2 : isD (fN m) (leastN m) (mostN m) ⟨c2, false, g2, x2, k2⟩) (n1 : c1 ≠ 3) (n2 : c2 ≠ 3)
    (hlt : pkV m ⟨c1, false, g1, x1, k1⟩ ≤ pkV m ⟨c2, false, g2, x2, k2⟩) : cvV t d ⟨c1, false, g1, x1, k1⟩ ≤ cvV t d ⟨c2, false, g2, x2, k2⟩ := by
  have H1 := h1
  have H2 := h2
  rcases h2 with ⟨e1, e2, e3, e4, e5, e6⟩ | ⟨e1, e2, e3, e4⟩ | ⟨e1, _⟩
  · dsimp only at e1 e2 e3 e4 e5 e6
    subst e1 e2
    rcases h1 with ⟨f1, f2, f3, f4, f5, f6⟩ | ⟨f1, f2, f3, f4⟩ | ⟨f1, _⟩
    · dsimp only at f1 f2 f3 f4 f5 f6
      subst f1 f2
      rw [pk_fin hm H1, pk_fin hm H2] at hlt
      have hlt' : (x1 - leastN m).toNat * 2 ^ fN m + k1 ≤ (x2 - leastN m).toNat * 2 ^ fN m + k2 := hlt
      obtain ⟨a1, ha1⟩ : ∃ a1, (x1 - leastN m).toNat = a1 := ⟨_, rfl⟩
      obtain ⟨a2, ha2⟩ : ∃ a2, (x2 - leastN m).toNat = a2 := ⟨_, rfl⟩
      rw [ha1, ha2] at hlt'
      have hx1 : x1 = leastN m + a1 := by omega
      have hx2 : x2 = leastN m + a2 := by omega
      have hv : k1 * 2 ^ a1 ≤ k2 * 2 ^ a2 := by
        rcases Nat.lt_trichotomy a1 a2 with h | h | h
        · have hk2 : 2 ^ fN m ≤ k2 := by rcases e6 with h' | h' <;> omega
          have e : 2 ^ a2 = 2 ^ a1 * 2 ^ (a2 - a1) := by rw [← Nat.pow_add]; congr 1; omega
          have h8 : 2 ^ fN m * 2 ≤ k2 * 2 ^ (a2 - a1) := Nat.mul_le_mul hk2 (by
            have : 2 ^ 1 ≤ 2 ^ (a2 - a1) := Nat.pow_le_pow_right (by decide) (by omega)
            simpa using this)
          have h9 : k1 ≤ k2 * 2 ^ (a2 - a1) := by
            rw [Nat.pow_succ] at f3
            omega
          rw [e, Nat.mul_comm (2 ^ a1), ← Nat.mul_assoc]
          exact Nat.mul_le_mul_right _ h9
        · subst h
          exact Nat.mul_le_mul_right _ (by omega)
        · exfalso
          have hk1 : 2 ^ fN m ≤ k1 := by rcases f6 with h' | h' <;> omega
          have h8 : (a2 + 1) * 2 ^ fN m ≤ a1 * 2 ^ fN m := Nat.mul_le_mul_right _ h
          rw [Nat.add_mul, Nat.one_mul] at h8
          rw [Nat.pow_succ] at e3
          omega
      show rdV t d false k1 1 x1 ≤ rdV t d false k2 1 x2
      obtain ⟨s1, _⟩ := rd_shift t d false k1 (D := 1) (by decide) a1 0 (leastN m)
      obtain ⟨s2, _⟩ := rd_shift t d false k2 (D := 1) (by decide) a2 0 (leastN m)
      rw [Nat.pow_zero, Nat.mul_one, show leastN m + ((a1 : Int) - ((0 : Nat) : Int)) = x1 by omega] at s1
      rw [Nat.pow_zero, Nat.mul_one, show leastN m + ((a2 : Int) - ((0 : Nat) : Int)) = x2 by omega] at s2
      rw [← s1, ← s2]
      exact rd_mono d _ _ _ hb (by decide) hv
    · exfalso
      dsimp only at f1 f2 f3 f4
      subst f1 f2 f3 f4
      rw [pk_inf hm, pk_fin hm H2] at hlt
      have hk := (cv_keep d hm H2).1
      have ht := cv_top d hm 1 (Or.inl rfl) x2 k2
      have e : cvV m d ⟨1, false, false, x2, k2⟩ = rdV m d false k2 1 x2 := rfl
      rw [e, hk, pk_fin hm H2] at ht
      -- a finite pattern is below the infinite one
      obtain ⟨b1, b2⟩ := pk_good hm H2
      obtain ⟨b3, b4⟩ := pk_good (D := ⟨2, false, false, 0, 0⟩) hm (Or.inr (Or.inl ⟨rfl, rfl, rfl, rfl⟩))
      have : pkV m ⟨1, false, false, x2, k2⟩ = pkV m ⟨2, false, false, 0, 0⟩ := by
        rw [pk_inf hm, pk_fin hm H2]
        omega
      rw [this, b4] at b2
      exact absurd (show (2 : Int) = 1 from congrArg Dat.c b2) (by decide)
    · exact absurd f1 n1
  · dsimp only at e1 e2 e3 e4
    subst e1 e2 e3 e4
    have hc1 : (c1 = 1 ∨ c1 = 2) ∧ g1 = false := by
      rcases h1 with ⟨f1, f2, _⟩ | ⟨f1, f2, _⟩ | ⟨f1, _⟩
      · exact ⟨Or.inl f1, f2⟩
      · exact ⟨Or.inr f1, f2⟩
      · exact absurd f1 n1
    obtain ⟨hc1, rfl⟩ := hc1
    have e : cvV t d ⟨2, false, false, 0, 0⟩ = tpN t := by
      show pkV t ⟨2, false, false, 0, 0⟩ = _
      rw [pk_inf hb]; rfl
    rw [e]
    exact cv_top d hb c1 hc1 x1 k1
  · exact absurd e1 n2
/-! what Convert answers -/
def cnG (m t d : Int) (B : Nat) : Prop := goodN m B ∧ binN t ∧ knB d
instance (m t d : Int) (B : Nat) : Decidable (cnG m t d B) := by unfold cnG; infer_instance
def cnV (m t d : Int) (B : Nat) : Nat := if cnG m t d B then cvV t d (unD m B) else 0
def cnF (m t d : Int) (B : Nat) : Int := if cnG m t d B then cvF t d (unD m B) else 0
def cnE (m t d : Int) (B : Nat) : Int := if cnG m t d B then 0 else 1
/-- what comes out is a pattern of the format -/
theorem cv_good {t : Int} (d : Int) (hb : binN t) (D : Dat) : goodN t (cvV t d D) := by
  obtain ⟨c, s, g, x, k⟩ := D
  have key : ∀ d', cvV t d' ⟨c, false, g, x, k⟩ < 2 ^ (fN t + eN t) := fun d' => (cv_turn d' hb c g x k).2.2
  refine ⟨hb, ?_⟩
  have e : 2 ^ (fN t + eN t + 1) = 2 ^ (fN t + eN t) + 2 ^ (fN t + eN t) := by rw [Nat.pow_succ]; omega
  cases s
  · have := key d
    omega
  · have h1 := (cv_turn (othD d) hb c g x k).1
    have h2 : othD (othD d) = d := by
      unfold othD
      by_cases h : d = 3 ∨ d = 4
      · rw [if_pos h, if_pos (by omega)]; omega
      · rw [if_neg h, if_neg h]
    rw [h2] at h1
    rw [h1]
    have := key (othD d)
    omega
section
theorem NT.nz {K V : Nat} {v : Value} {w : World} (h : NT K V v w) : Nz K V v w := by
  obtain ⟨g, k, cap, z, h1, h2, h3, h4, h5⟩ := h
  exact ⟨_, k, cap, z, h1, h2, h3, h4, h5⟩
theorem NT.nt {K V : Nat} {v : Value} {w : World} (h : NT K V v w) : Nt K V v w := h.nz.nt
theorem npow2z (m : Nat) (w : World) (hm : m ≤ 12000) : Calls Tryd.prog 46 #[.int .i64 2, .int .i64 (m : Int)] w fun r w' => ∃ v, r = .returned (.tuple #[v, .int .i64 0]) ∧ Nt 2001 (2 ^ m) v w' ∧ Below w.heap.size w w' := by
  refine (npow_two m w hm).mono fun r w' ⟨g, k, cap, z, e1, hk, hN, hv, hs, hB⟩ => ⟨_, e1, ⟨_, k, cap, z, rfl, hk, hN, ?_⟩, hB⟩
  rw [hv]; simp
attribute [local irreducible] W4 Nz Nt NT
end
/-- ten to the power of e isn't above N / D -/
def tnG (N D : Nat) (e : Int) : Prop := D * 10 ^ e.toNat ≤ N * 10 ^ (-e).toNat
instance (N D : Nat) (e : Int) : Decidable (tnG N D e) := inferInstanceAs (Decidable (_ ≤ _))
theorem ten_pos (n : Nat) : 0 < (10 : Nat) ^ n := Nat.pow_pos (by decide)
/-- a step of p, from q on -/
theorem tnG_add (N D p : Nat) (q : Int) : tnG N D (q + p) ↔ D * 10 ^ q.toNat * 10 ^ p ≤ N * 10 ^ (-q).toNat := by
  unfold tnG
  by_cases h0 : 0 ≤ q
  · rw [show (-(q + (p : Int))).toNat = 0 by omega, show (-q).toNat = 0 by omega, show (q + (p : Int)).toNat = q.toNat + p by omega, Nat.pow_add, Nat.mul_assoc]
  · by_cases h1 : 0 ≤ q + (p : Int)
    · obtain ⟨a, ha⟩ : ∃ a : Nat, q = -(a : Int) := ⟨(-q).toNat, by omega⟩
      obtain ⟨b, hb⟩ : ∃ b : Nat, p = a + b := ⟨p - a, by omega⟩
      subst hb
      rw [show (-(q + ((a + b : Nat) : Int))).toNat = 0 by omega, show (-q).toNat = a by omega, show (q + ((a + b : Nat) : Int)).toNat = b by omega, show q.toNat = 0 by omega, Nat.pow_zero, Nat.mul_one, Nat.mul_one, Nat.pow_add, Nat.mul_comm (10 ^ a), ← Nat.mul_assoc]
      exact (Nat.mul_le_mul_right_iff (ten_pos a)).symm
    · obtain ⟨a, ha⟩ : ∃ a : Nat, q + (p : Int) = -(a : Int) := ⟨(-(q + p)).toNat, by omega⟩
      rw [show (-(q + (p : Int))).toNat = a by omega, show (q + (p : Int)).toNat = 0 by omega, show q.toNat = 0 by omega, show (-q).toNat = a + p by omega, Nat.pow_zero, Nat.mul_one, Nat.pow_add, ← Nat.mul_assoc]
      exact (Nat.mul_le_mul_right_iff (ten_pos p)).symm
theorem tnG_le {N D : Nat} {e e' : Int} (h : tnG N D e) (he : e' ≤ e) : tnG N D e' := by
  obtain ⟨p, rfl⟩ : ∃ p : Nat, e = e' + p := ⟨(e - e').toNat, by omega⟩
  have := (tnG_add N D p e').1 h
  unfold tnG
  exact Nat.le_trans (Nat.le_mul_of_pos_right _ (ten_pos p)) this
/-- the first digit's place of N / D -/
def TnE (N D : Nat) (E : Int) : Prop := tnG N D E ∧ ¬ tnG N D (E + 1)
theorem TnE.only {N D : Nat} {E E' : Int} (h : TnE N D E) (h' : TnE N D E') : E = E' := by
  rcases Int.lt_trichotomy E E' with q | q | q
  · exact absurd (tnG_le h'.1 (by omega)) h.2
  · exact q
  · exact absurd (tnG_le h.1 (by omega)) h'.2
/-- the exponent that rounding starts from -/
def dkQ (f : DF) (E : Int) : Int := max f.l (E - 3 * f.j)
def dkA (N : Nat) (q : Int) : Nat := N * 10 ^ (-q).toNat
def dkZ (D : Nat) (q : Int) : Nat := D * 10 ^ q.toNat
/-- the whole number that a direction takes -/
def dkC0 (f : DF) (d : Int) (s : Bool) (N D : Nat) (E : Int) : Nat := whC d s (dkA N (dkQ f E)) (dkZ D (dkQ f E))
/-- exactly -/
def dkX (f : DF) (N D : Nat) (E : Int) : Bool := decide (dkA N (dkQ f E) % dkZ D (dkQ f E) = 0)
/-- behind a carry -/
def dkC (f : DF) (d : Int) (s : Bool) (N D : Nat) (E : Int) : Nat := if 10 ^ (3 * f.j + 1) ≤ dkC0 f d s N D E then 10 ^ (3 * f.j) else dkC0 f d s N D E
def dkE (f : DF) (d : Int) (s : Bool) (N D : Nat) (E : Int) : Int := if 10 ^ (3 * f.j + 1) ≤ dkC0 f d s N D E then dkQ f E + 1 else dkQ f E
/-- the greatest exponent -/
def DF.m (f : DF) : Int := f.l + 3 * 2 ^ f.w - 1
/-- of a cohort the member nearest to an exponent -/
def mbr (m want : Int) : Nat → Nat → Int → Nat × Int
  | 0, c, q => (c, q)
  | k + 1, c, q => if q < want ∧ q < m ∧ c % 10 = 0 then mbr m want k (c / 10) (q + 1) else (c, q)
def dkM (f : DF) (d : Int) (s : Bool) (N D : Nat) (E want : Int) : Nat × Int := mbr f.m want (f.m - dkE f d s N D E).toNat (dkC f d s N D E) (dkE f d s N D E)
/-- what a fraction that isn't 0 is rounded to, and the flags -/
def dkD (f : DF) (d : Int) (s : Bool) (N D : Nat) (E want : Int) : Dat :=
  if f.m < dkE f d s N D E then (if inB d s then ⟨2, s, false, 0, 0⟩ else ⟨1, s, false, f.m, 10 ^ (3 * f.j + 1) - 1⟩)
  else if dkX f N D E then ⟨1, s, false, (dkM f d s N D E want).2, (dkM f d s N D E want).1⟩ else ⟨1, s, false, dkE f d s N D E, dkC f d s N D E⟩
def dkF (f : DF) (d : Int) (s : Bool) (N D : Nat) (E : Int) : Int :=
  if f.m < dkE f d s N D E then 10 else if dkX f N D E then 0 else if E < f.l + 3 * f.j then 12 else 8
theorem tnE_find {N D : Nat} (lo : Int) (h : tnG N D lo) : ∀ k : Nat, ¬ tnG N D (lo + k) → ∃ E, TnE N D E
  | 0, h' => absurd (by simpa using h) h'
  | k + 1, h' => by
    by_cases hk : tnG N D (lo + k)
    · exact ⟨lo + k, hk, by rw [show lo + (k : Int) + 1 = lo + ((k + 1 : Nat) : Int) by omega]; exact h'⟩
    · exact tnE_find lo h k hk
theorem tnE_ex {N D : Nat} (hN : 0 < N) (hD : 0 < D) : ∃ E, TnE N D E := by
  refine tnE_find (-(D : Int)) ?_ (N + D) ?_
  · unfold tnG
    rw [show (-(D : Int)).toNat = 0 by omega, Int.neg_neg, Int.toNat_natCast, Nat.pow_zero, Nat.mul_one]
    have h1 : D < 10 ^ D := Nat.lt_pow_self (by decide)
    exact Nat.le_trans (Nat.le_of_lt h1) (Nat.le_mul_of_pos_left _ hN)
  · rw [show -(D : Int) + ((N + D : Nat) : Int) = (N : Int) by omega]
    unfold tnG
    rw [show (-(N : Int)).toNat = 0 by omega, Int.toNat_natCast, Nat.pow_zero, Nat.mul_one]
    have h1 : N < 10 ^ N := Nat.lt_pow_self (by decide)
    have h2 : 10 ^ N ≤ D * 10 ^ N := Nat.le_mul_of_pos_left _ hD
    omega
/-- the exponent as the document takes it -/
def clT (x : Int) : Int := min (max x (-20000)) 20000
/-- the exponent of a fraction's first digit -/
noncomputable def tnX (N D : Nat) : Int := open Classical in if h : ∃ E, TnE N D E then Classical.choose h else 0
theorem tnX_is {N D : Nat} (hN : 0 < N) (hD : 0 < D) : TnE N D (tnX N D) := by
  have h := tnE_ex hN hD
  unfold tnX
  rw [dif_pos h]
  exact Classical.choose_spec h
/-- what decround answers -/
def rqE (n d : Int) (N D : Nat) : Int := if decN n ∧ knB d ∧ D ≠ 0 then (if 25600 < bl N ∨ 25600 < bl D then 4 else 0) else 1
noncomputable def rqD (n d : Int) (s : Bool) (N D : Nat) (x y : Int) : Dat :=
  if rqE n d N D = 0 then (if N = 0 then ⟨1, s, false, min (max y (fD n).l) (fD n).m, 0⟩ else dkD (fD n) d s (N * 10 ^ (clT x).toNat) (D * 10 ^ (-(clT x)).toNat) (tnX (N * 10 ^ (clT x).toNat) (D * 10 ^ (-(clT x)).toNat)) y) else ⟨0, false, false, 0, 0⟩
noncomputable def rqF (n d : Int) (s : Bool) (N D : Nat) (x : Int) : Int :=
  if rqE n d N D = 0 then (if N = 0 then 0 else dkF (fD n) d s (N * 10 ^ (clT x).toNat) (D * 10 ^ (-(clT x)).toNat) (tnX (N * 10 ^ (clT x).toNat) (D * 10 ^ (-(clT x)).toNat))) else 0
section
theorem tnX_eq {N D : Nat} {E : Int} (hN : 0 < N) (hD : 0 < D) (h : TnE N D E) : tnX N D = E := (tnX_is hN hD).only h
theorem third : rqD 7 0 false 1 3 0 0 = ⟨1, false, false, -7, 3333333⟩ ∧ rqF 7 0 false 1 3 0 = 8 ∧ rqE 7 0 1 3 = 0 := by
  have e0 : rqE 7 0 1 3 = 0 := by
    have b1 : bl 1 ≤ 2 := bl_le.2 (by decide)
    have b3 : bl 3 ≤ 2 := bl_le.2 (by decide)
    unfold rqE
    rw [if_pos ⟨by unfold decN; omega, by unfold knB; omega, by decide⟩, if_neg (by omega)]
  have eX : tnX (1 * 10 ^ (clT 0).toNat) (3 * 10 ^ (-(clT 0)).toNat) = -1 := tnX_eq (by decide) (by decide) ⟨by decide, by decide⟩
  refine ⟨?_, ?_, e0⟩
  · unfold rqD
    rw [if_pos e0, if_neg (by decide), eX]
    have h1 : (dkD (fD 7) 0 false (1 * 10 ^ (clT 0).toNat) (3 * 10 ^ (-(clT 0)).toNat) (-1) 0).c = 1 ∧ (dkD (fD 7) 0 false (1 * 10 ^ (clT 0).toNat) (3 * 10 ^ (-(clT 0)).toNat) (-1) 0).s = false ∧ (dkD (fD 7) 0 false (1 * 10 ^ (clT 0).toNat) (3 * 10 ^ (-(clT 0)).toNat) (-1) 0).g = false ∧ (dkD (fD 7) 0 false (1 * 10 ^ (clT 0).toNat) (3 * 10 ^ (-(clT 0)).toNat) (-1) 0).x = -7 ∧ (dkD (fD 7) 0 false (1 * 10 ^ (clT 0).toNat) (3 * 10 ^ (-(clT 0)).toNat) (-1) 0).k = 3333333 := by decide +kernel
    generalize dkD (fD 7) 0 false (1 * 10 ^ (clT 0).toNat) (3 * 10 ^ (-(clT 0)).toNat) (-1) 0 = R at h1 ⊢
    obtain ⟨c, s, g, x, k⟩ := R
    simp only at h1
    obtain ⟨rfl, rfl, rfl, rfl, rfl⟩ := h1
    rfl
  · unfold rqF
    rw [if_pos e0, if_neg (by decide), eX]
    decide +kernel
attribute [local irreducible] W4 Nt
end
/-- a word of the program's integers -/
def i6 (x : Int) : Prop := -9223372036854775808 ≤ x ∧ x ≤ 9223372036854775807
section
theorem dat_box {w0 w : World} {c x : Int} {s g : Bool} {k : Nat} {t : TypeId} (hk : k < 2 ^ 256)
    (hb : Below (w0.alloc (.cells #[.int .i64 c, .bool s, .bool g, .int .i64 x, .int .u64 (W4 k 0), .int .u64 (W4 k 1), .int .u64 (W4 k 2), .int .u64 (W4 k 3)] t)).heap.size (w0.alloc (.cells #[.int .i64 c, .bool s, .bool g, .int .i64 x, .int .u64 (W4 k 0), .int .u64 (W4 k 1), .int .u64 (W4 k 2), .int .u64 (W4 k 3)] t)) w) :
    Nt 4 k (.slice (some ⟨w0.heap.size, 4, none⟩) 4 4) w := by
  have hs : w0.heap.size < (w0.alloc (.cells #[.int .i64 c, .bool s, .bool g, .int .i64 x, .int .u64 (W4 k 0), .int .u64 (W4 k 1), .int .u64 (W4 k 2), .int .u64 (W4 k 3)] t)).heap.size := by simp
  refine ⟨_, 4, 4, lowW (W4 k) 4, rfl, Nat.le_refl _, ⟨Nat.le_refl _, by unfold maxLen; omega, ?_, ?_, Or.inr ⟨w0.heap.size, 4, rfl, Nat.lt_of_lt_of_le hs hb.size, ?_⟩⟩, ?_⟩
  · intro i
    by_cases hi : i < 4
    · rw [lowW_lt hi]; exact W4_words k i
    · rw [show lowW (W4 k) 4 i = 0 from if_neg hi]; exact ⟨Int.le_refl _, by decide⟩
  · intro i hi
    exact if_neg (by omega)
  · intro i hi
    rw [lowW_lt hi, hb.cell (p := ⟨w0.heap.size, 4 + i, none⟩) hs]
    have : i = 0 ∨ i = 1 ∨ i = 2 ∨ i = 3 := by omega
    rw [World.cell?_alloc_new]
    rcases this with rfl | rfl | rfl | rfl <;> rfl
  · rw [val_congr (x := lowW (W4 k) 4) (y := W4 k) 4 (fun i hi => lowW_lt hi), W4_val4 hk]
attribute [local irreducible] W4 Nt
end
section
attribute [local irreducible] W4 Nz Nt NT
section
variable (t ba d : Int) (num wi pr ex le mo pa : Int) (nm : ByteArray) (de : Bool) (w : World) (hT : Tab w)
include hT
set_option maxHeartbeats 2000000 in
theorem stg_e (b0 : Int)
    (c2 : ∀ W, Tab W → Calls Tryd.prog 43 #[.int .i64 t] W fun r w' => r = .returned (.tuple #[.agg #[.int .i64 num, .string nm, .int .i64 b0, .int .i64 wi, .int .i64 pr, .int .i64 ex, .int .i64 le, .int .i64 mo, .int .i64 pa, .bool de], .int .i64 1]) ∧ Below W.heap.size W w') :
    Calls Tryd.prog 26 #[.int .i64 t, .int .i64 ba, .int .i64 d] w fun r w' => r = .returned (.tuple #[IZ, .int .i64 1]) ∧ Below w.heap.size w w' := by
  have hsm := cell_set_map
  go_enter Tryd.func26, Tryd.ntmps26
  go_wp2_with (go_at_call 43; refine (c2 _ (hT.go bgo)).mono ?_; rintro r w1 ⟨rfl, hb1⟩; obtain ⟨hc1, hf1⟩ := bcell hb1; have hz1_0 : w.heap.size < w1.heap.size := lt_below hb1 ltg; have hl1_0 := Nat.le_of_lt hz1_0; have hA1 := bnext (w0 := w) bgo hb1; have hs1 := hA1.size; clear hb1)
  exact bodyPost_ret (v := .tuple #[IZ, .int .i64 1]) (by simp only [results, Tryd.results26]; go_simp) rfl ⟨rfl, bgo⟩
set_option maxHeartbeats 2000000 in
theorem stg_b (b0 : Int) (hba : (b0 != ba) = true)
    (c2 : ∀ W, Tab W → Calls Tryd.prog 43 #[.int .i64 t] W fun r w' => r = .returned (.tuple #[.agg #[.int .i64 num, .string nm, .int .i64 b0, .int .i64 wi, .int .i64 pr, .int .i64 ex, .int .i64 le, .int .i64 mo, .int .i64 pa, .bool de], .int .i64 0]) ∧ Below W.heap.size W w') :
    Calls Tryd.prog 26 #[.int .i64 t, .int .i64 ba, .int .i64 d] w fun r w' => r = .returned (.tuple #[IZ, .int .i64 1]) ∧ Below w.heap.size w w' := by
  have hsm := cell_set_map
  go_enter Tryd.func26, Tryd.ntmps26
  go_wp2_with (go_at_call 43; refine (c2 _ (hT.go bgo)).mono ?_; rintro r w1 ⟨rfl, hb1⟩; obtain ⟨hc1, hf1⟩ := bcell hb1; have hz1_0 : w.heap.size < w1.heap.size := lt_below hb1 ltg; have hl1_0 := Nat.le_of_lt hz1_0; have hA1 := bnext (w0 := w) bgo hb1; have hs1 := hA1.size; clear hb1)
  exact bodyPost_ret (v := .tuple #[IZ, .int .i64 1]) (by simp only [results, Tryd.results26]; go_simp) rfl ⟨rfl, bgo⟩
variable (c2 : ∀ W, Tab W → Calls Tryd.prog 43 #[.int .i64 t] W fun r w' => r = .returned (.tuple #[.agg #[.int .i64 num, .string nm, .int .i64 ba, .int .i64 wi, .int .i64 pr, .int .i64 ex, .int .i64 le, .int .i64 mo, .int .i64 pa, .bool de], .int .i64 0]) ∧ Below W.heap.size W w')
include c2
set_option maxHeartbeats 2000000 in
theorem stg_k (c3 : ∀ W, Calls Tryd.prog 44 #[.int .i64 d] W fun r w' => r = .returned (.bool false) ∧ W = w') :
    Calls Tryd.prog 26 #[.int .i64 t, .int .i64 ba, .int .i64 d] w fun r w' => r = .returned (.tuple #[IZ, .int .i64 1]) ∧ Below w.heap.size w w' := by
  have hsm := cell_set_map
  have hbb : (ba != ba) = false := bne_self_eq_false ba
  go_enter Tryd.func26, Tryd.ntmps26
  go_wp2_with (first
    | (go_at_call 43; refine (c2 _ (hT.go bgo)).mono ?_; rintro r w1 ⟨rfl, hb1⟩; obtain ⟨hc1, hf1⟩ := bcell hb1; have hz1_0 : w.heap.size < w1.heap.size := lt_below hb1 ltg; have hl1_0 := Nat.le_of_lt hz1_0; have hA1 := bnext (w0 := w) bgo hb1; have hs1 := hA1.size; clear hb1)
    | (go_at_call 44; refine (c3 _).mono ?_; rintro r w2 ⟨rfl, rfl⟩))
  exact bodyPost_ret (v := .tuple #[IZ, .int .i64 1]) (by simp only [results, Tryd.results26]; go_simp) rfl ⟨rfl, bgo⟩
set_option maxHeartbeats 2000000 in
theorem stg_y (c3 : ∀ W, Calls Tryd.prog 44 #[.int .i64 d] W fun r w' => r = .returned (.bool true) ∧ W = w') :
    Calls Tryd.prog 26 #[.int .i64 t, .int .i64 ba, .int .i64 d] w fun r w' => r = .returned (.tuple #[.agg #[.int .i64 num, .string nm, .int .i64 ba, .int .i64 wi, .int .i64 pr, .int .i64 ex, .int .i64 le, .int .i64 mo, .int .i64 pa, .bool de], .int .i64 0]) ∧ Below w.heap.size w w' := by
  have hsm := cell_set_map
  have hbb : (ba != ba) = false := bne_self_eq_false ba
  go_enter Tryd.func26, Tryd.ntmps26
  go_wp2_with (first
    | (go_at_call 43; refine (c2 _ (hT.go bgo)).mono ?_; rintro r w1 ⟨rfl, hb1⟩; obtain ⟨hc1, hf1⟩ := bcell hb1; have hz1_0 : w.heap.size < w1.heap.size := lt_below hb1 ltg; have hl1_0 := Nat.le_of_lt hz1_0; have hA1 := bnext (w0 := w) bgo hb1; have hs1 := hA1.size; clear hb1)
    | (go_at_call 44; refine (c3 _).mono ?_; rintro r w2 ⟨rfl, rfl⟩))
  exact bodyPost_ret (v := .tuple #[.agg #[.int .i64 num, .string nm, .int .i64 ba, .int .i64 wi, .int .i64 pr, .int .i64 ex, .int .i64 le, .int .i64 mo, .int .i64 pa, .bool de], .int .i64 0]) (by simp only [results, Tryd.results26]; go_simp) rfl ⟨rfl, bgo⟩
end
/-- what is known of a format, as a value -/
abbrev InfV (t : Int) : Value := .agg #[.int .i64 (numN t), .string (nameN t), .int .i64 (baseN t), .int .i64 (widthN t), .int .i64 (precN t), .int .i64 (expN t), .int .i64 (leastN t), .int .i64 (mostN t), .int .i64 (payN t), .bool (denseN t)]
theorem starg_y {t ba d : Int} (w : World) (hT : Tab w) (h1 : okN t) (h2 : baseN t = ba) (h3 : knB d) :
    Calls Tryd.prog 26 #[.int .i64 t, .int .i64 ba, .int .i64 d] w fun r w' => r = .returned (.tuple #[InfV t, .int .i64 0]) ∧ Below w.heap.size w w' := by
  have c2 := fun W h => ofv_any t W h
  have c3 := fun W => known_any d W
  rw [decide_eq_true h3] at c3
  rw [show infoE t = 0 from if_pos h1, h2] at c2
  unfold InfV
  rw [h2]
  exact stg_y t ba d _ _ _ _ _ _ _ _ _ w hT c2 c3
theorem starg_n {t ba d : Int} (w : World) (hT : Tab w) (h : ¬ (okN t ∧ baseN t = ba ∧ knB d)) :
    Calls Tryd.prog 26 #[.int .i64 t, .int .i64 ba, .int .i64 d] w fun r w' => r = .returned (.tuple #[IZ, .int .i64 1]) ∧ Below w.heap.size w w' := by
  have c2 := fun W h => ofv_any t W h
  have c3 := fun W => known_any d W
  by_cases h1 : okN t
  · rw [show infoE t = 0 from if_pos h1] at c2
    by_cases h2 : baseN t = ba
    · rw [h2] at c2
      by_cases h3 : knB d
      · exact absurd ⟨h1, h2, h3⟩ h
      · rw [decide_eq_false h3] at c3
        exact stg_k t ba d _ _ _ _ _ _ _ _ _ w hT c2 c3
    · exact stg_b t ba d _ _ _ _ _ _ _ _ _ w hT _ (by rw [bne_iff_ne]; exact h2) c2
  · rw [show infoE t = 1 from if_neg h1] at c2
    exact stg_e t ba d _ _ _ _ _ _ _ _ _ w hT _ c2
section
variable (num ba wi pr ex le mo pa c x : Int) (nm : ByteArray) (de s g : Bool) (k Q : Nat) (hk : k < 2 ^ 256) (w : World) (cm : Int)
  (c61 : ∀ W, Calls Tryd.prog 46 #[.int .i64 ba, .int .i64 pa] W fun r w' => ∃ v, r = .returned (.tuple #[v, .int .i64 0]) ∧ Nt 2001 Q v w' ∧ Below W.heap.size W w')
  (c64 : ∀ W v u, Nt 4 k v W → Nt 2001 Q u W → Calls Tryd.prog 47 #[v, u] W fun r w' => r = .returned (.int .i64 cm) ∧ Below W.heap.size W w')
include hk c61 c64
set_option maxHeartbeats 2000000 in
theorem scnv_l (h : cm < 0) :
    Calls Tryd.prog 28 #[.agg #[.int .i64 num, .string nm, .int .i64 ba, .int .i64 wi, .int .i64 pr, .int .i64 ex, .int .i64 le, .int .i64 mo, .int .i64 pa, .bool de], DV c s g x k] w fun r w' => r = .returned (.tuple #[DV c s false x k, .int .i64 (if g then 1 else 0)]) ∧ Below w.heap.size w w' := by
  have hbx := fun W hW => dat_box (w0 := w.alloc (.cells #[.int .i64 num, .string nm, .int .i64 ba, .int .i64 wi, .int .i64 pr, .int .i64 ex, .int .i64 le, .int .i64 mo, .int .i64 pa, .bool de] 59)) (w := W) (c := c) (s := s) (g := g) (x := x) (t := 30) hk hW
  have h' : ¬ 0 ≤ cm := by omega
  have h'' : decide (0 ≤ cm) = false := decide_eq_false h'
  have hsm := cell_set_map
  cases g
  all_goals (
    go_enter Tryd.func28, Tryd.ntmps28
    go_wp2_with (first
      | (go_at_call 46; refine (c61 _).mono ?_; rintro r w1 ⟨v1, rfl, hv1, hb1⟩; have hv0 := hbx _ (bnx (below1 _ _) hb1); obtain ⟨hc1, hf1⟩ := bcell hb1; have hz1_0 : w.heap.size < w1.heap.size := lt_below hb1 ltg; have hl1_0 := Nat.le_of_lt hz1_0; have hz1_1 : w.heap.size + 1 < w1.heap.size := lt_below hb1 ltg; have hl1_1 := Nat.le_of_lt hz1_1; have hz1_2 : w.heap.size + 1 + 1 < w1.heap.size := lt_below hb1 ltg; have hl1_2 := Nat.le_of_lt hz1_2; have hA1 := bnext (w0 := w) bgo hb1; have hs1 := hA1.size; clear hb1)
      | (go_at_call 47; refine (c64 _ _ _ (by simpa using hv0) hv1).mono ?_; rintro r w2 ⟨rfl, hb2⟩; obtain ⟨hc2, hf2⟩ := bcell hb2; have hz2_0 : w.heap.size < w2.heap.size := lt_below hb2 ltg; have hl2_0 := Nat.le_of_lt hz2_0; have hz2_1 : w.heap.size + 1 < w2.heap.size := lt_below hb2 ltg; have hl2_1 := Nat.le_of_lt hz2_1; have hz2_2 : w.heap.size + 1 + 1 < w2.heap.size := lt_below hb2 ltg; have hl2_2 := Nat.le_of_lt hz2_2; have hA2 := bnext (w0 := w) bgo hb2; have hs2 := hA2.size; clear hb2))
    exact bodyPost_ret (by simp only [results, Tryd.results28]; go_simp) rfl ⟨rfl, bgo⟩)
set_option maxHeartbeats 2000000 in
theorem scnv_g (h : 0 ≤ cm) :
    Calls Tryd.prog 28 #[.agg #[.int .i64 num, .string nm, .int .i64 ba, .int .i64 wi, .int .i64 pr, .int .i64 ex, .int .i64 le, .int .i64 mo, .int .i64 pa, .bool de], DV c s g x k] w fun r w' => r = .returned (.tuple #[DV c s false x 0, .int .i64 (if g then 1 else 0)]) ∧ Below w.heap.size w w' := by
  have hbx := fun W hW => dat_box (w0 := w.alloc (.cells #[.int .i64 num, .string nm, .int .i64 ba, .int .i64 wi, .int .i64 pr, .int .i64 ex, .int .i64 le, .int .i64 mo, .int .i64 pa, .bool de] 59)) (w := W) (c := c) (s := s) (g := g) (x := x) (t := 30) hk hW
  have h'' : decide (0 ≤ cm) = true := decide_eq_true h
  have hz : DV c s false x 0 = .agg #[.int .i64 c, .bool s, .bool false, .int .i64 x, .int .u64 0, .int .u64 0, .int .u64 0, .int .u64 0] := by unfold DV; simp only [W4_zero]
  rw [hz]
  clear hz
  have hsm := cell_set_map
  cases g
  all_goals (
    go_enter Tryd.func28, Tryd.ntmps28
    go_wp2_with (first
      | (go_at_call 46; refine (c61 _).mono ?_; rintro r w1 ⟨v1, rfl, hv1, hb1⟩; have hv0 := hbx _ (bnx (below1 _ _) hb1); obtain ⟨hc1, hf1⟩ := bcell hb1; have hz1_0 : w.heap.size < w1.heap.size := lt_below hb1 ltg; have hl1_0 := Nat.le_of_lt hz1_0; have hz1_1 : w.heap.size + 1 < w1.heap.size := lt_below hb1 ltg; have hl1_1 := Nat.le_of_lt hz1_1; have hz1_2 : w.heap.size + 1 + 1 < w1.heap.size := lt_below hb1 ltg; have hl1_2 := Nat.le_of_lt hz1_2; have hA1 := bnext (w0 := w) bgo hb1; have hs1 := hA1.size; clear hb1)
      | (go_at_call 47; refine (c64 _ _ _ (by simpa using hv0) hv1).mono ?_; rintro r w2 ⟨rfl, hb2⟩; obtain ⟨hc2, hf2⟩ := bcell hb2; have hz2_0 : w.heap.size < w2.heap.size := lt_below hb2 ltg; have hl2_0 := Nat.le_of_lt hz2_0; have hz2_1 : w.heap.size + 1 < w2.heap.size := lt_below hb2 ltg; have hl2_1 := Nat.le_of_lt hz2_1; have hz2_2 : w.heap.size + 1 + 1 < w2.heap.size := lt_below hb2 ltg; have hl2_2 := Nat.le_of_lt hz2_2; have hA2 := bnext (w0 := w) bgo hb2; have hs2 := hA2.size; clear hb2))
    exact bodyPost_ret (by simp only [results, Tryd.results28]; go_simp) rfl ⟨rfl, bgo⟩)
end
/-- an infinity or a NaN, as another format has it: the bound of its payloads Q -/
theorem sconv_v (t : Int) (Q : Nat) (hQ : ∀ W, Calls Tryd.prog 46 #[.int .i64 (baseN t), .int .i64 (payN t)] W fun r w' => ∃ v, r = .returned (.tuple #[v, .int .i64 0]) ∧ Nt 2001 Q v w' ∧ Below W.heap.size W w') (c x : Int) (s g : Bool) {k : Nat} (hk : k < 2 ^ 256) (w : World) :
    Calls Tryd.prog 28 #[InfV t, DV c s g x k] w fun r w' => r = .returned (.tuple #[DV c s false x (if k < Q then k else 0), .int .i64 (if g then 1 else 0)]) ∧ Below w.heap.size w w' := by
  have c64 : ∀ W v u, Nt 4 k v W → Nt 2001 Q u W → Calls Tryd.prog 47 #[v, u] W fun r w' => r = .returned (.int .i64 (sgn (k : Int) (Q : Int))) ∧ Below W.heap.size W w' := fun W v u h1 h2 => ncmp_v (by decide) (by decide) h1 h2
  by_cases h : k < Q
  · rw [if_pos h]
    refine scnv_l _ _ _ _ _ _ _ _ c x _ _ s g k Q hk w _ hQ c64 ?_
    rcases sgn_ways (k : Int) (Q : Int) with ⟨x, e⟩ | ⟨x, e⟩ | ⟨x, e⟩ <;> omega
  · rw [if_neg h]
    refine scnv_g _ _ _ _ _ _ _ _ c x _ _ s g k Q hk w _ hQ c64 ?_
    rcases sgn_ways (k : Int) (Q : Int) with ⟨x, e⟩ | ⟨x, e⟩ | ⟨x, e⟩ <;> omega
/-- the bound of a binary format's payloads -/
theorem bin_bound {t : Int} (hb : binN t) (W : World) : Calls Tryd.prog 46 #[.int .i64 (baseN t), .int .i64 (payN t)] W fun r w' => ∃ v, r = .returned (.tuple #[v, .int .i64 0]) ∧ Nt 2001 (2 ^ (fN t - 1)) v w' ∧ Below W.heap.size W w' := by
  obtain ⟨f1, f2, f3, f4, f5, f6⟩ := bin_fields hb
  have h2 := fN_two hb
  have h240 := (bin_fm hb).f240
  rw [f2, f6, show (fN t : Int) - 1 = ((fN t - 1 : Nat) : Int) by omega]
  exact npow2z (fN t - 1) W (by omega)
end
section
attribute [local irreducible] W4
section
variable (m t d c x : Int) (s g : Bool) (k B : Nat) (I : Value) (w : World) (hT : Tab w)
include hT
set_option maxHeartbeats 2000000 in
theorem cvb_e1
    (c1 : ∀ W, Tab W → Calls Tryd.prog 12 #[.int .i64 m, A4 B] W fun r w' => r = .returned (.tuple #[DV c s g x k, .int .i64 1]) ∧ Below W.heap.size W w') :
    Calls Tryd.prog 13 #[.int .i64 m, .int .i64 t, .int .i64 d, A4 B] w fun r w' => r = .returned (.tuple #[A4 0, .int .i64 0, .int .i64 1]) ∧ Below w.heap.size w w' := by
  rw [Z4_eq]
  have hsm := cell_set_map
  go_enter Tryd.func13, Tryd.ntmps13
  go_wp2_with (first
    | (go_at_call 12; refine (c1 _ (hT.go bgo)).mono ?_; rintro r w1 ⟨rfl, hb1⟩; obtain ⟨hc1, hf1⟩ := bcell hb1; have hz1_0 : w.heap.size < w1.heap.size := lt_below hb1 ltg; have hl1_0 := Nat.le_of_lt hz1_0; have hz1_1 : w.heap.size + 1 < w1.heap.size := lt_below hb1 ltg; have hl1_1 := Nat.le_of_lt hz1_1; have hA1 := bnext (w0 := w) bgo hb1; have hs1 := hA1.size; clear hb1))
  exact bodyPost_ret (by simp only [results, Tryd.results13]; go_simp) rfl ⟨rfl, bgo⟩
variable (c1 : ∀ W, Tab W → Calls Tryd.prog 12 #[.int .i64 m, A4 B] W fun r w' => r = .returned (.tuple #[DV c s g x k, .int .i64 0]) ∧ Below W.heap.size W w')
include c1
set_option maxHeartbeats 2000000 in
theorem cvb_e2
    (c2 : ∀ W, Tab W → Calls Tryd.prog 26 #[.int .i64 t, .int .i64 2, .int .i64 d] W fun r w' => r = .returned (.tuple #[IZ, .int .i64 1]) ∧ Below W.heap.size W w') :
    Calls Tryd.prog 13 #[.int .i64 m, .int .i64 t, .int .i64 d, A4 B] w fun r w' => r = .returned (.tuple #[A4 0, .int .i64 0, .int .i64 1]) ∧ Below w.heap.size w w' := by
  rw [Z4_eq]
  have hsm := cell_set_map
  go_enter Tryd.func13, Tryd.ntmps13
  go_wp2_with (first
    | (go_at_call 12; refine (c1 _ (hT.go bgo)).mono ?_; rintro r w1 ⟨rfl, hb1⟩; obtain ⟨hc1, hf1⟩ := bcell hb1; have hz1_0 : w.heap.size < w1.heap.size := lt_below hb1 ltg; have hl1_0 := Nat.le_of_lt hz1_0; have hz1_1 : w.heap.size + 1 < w1.heap.size := lt_below hb1 ltg; have hl1_1 := Nat.le_of_lt hz1_1; have hA1 := bnext (w0 := w) bgo hb1; have hs1 := hA1.size; clear hb1)
    | (go_at_call 26; refine (c2 _ (hT.go bgo)).mono ?_; rintro r w2 ⟨rfl, hb2⟩; obtain ⟨hc2, hf2⟩ := bcell hb2; have hz2_0 : w.heap.size < w2.heap.size := lt_below hb2 ltg; have hl2_0 := Nat.le_of_lt hz2_0; have hz2_1 : w.heap.size + 1 < w2.heap.size := lt_below hb2 ltg; have hl2_1 := Nat.le_of_lt hz2_1; have hz2_2 : w1.heap.size < w2.heap.size := lt_below hb2 ltg; have hl2_2 := Nat.le_of_lt hz2_2; have hA2 := bnext (w0 := w) bgo hb2; have hs2 := hA2.size; clear hb2))
  exact bodyPost_ret (by simp only [results, Tryd.results13]; go_simp) rfl ⟨rfl, bgo⟩
variable (c2 : ∀ W, Tab W → Calls Tryd.prog 26 #[.int .i64 t, .int .i64 2, .int .i64 d] W fun r w' => r = .returned (.tuple #[InfV t, .int .i64 0]) ∧ Below W.heap.size W w')
include c2
set_option maxHeartbeats 2000000 in
theorem cvb_1 (hc : c = 1) (R : Nat) (F : Int)
    (cR : ∀ W, Tab W → Calls Tryd.prog 27 #[.int .i64 t, .int .i64 d, .bool s, A4 k, .int .i64 x] W fun r w' => r = .returned (.tuple #[A4 R, .int .i64 F, .int .i64 0]) ∧ Below W.heap.size W w') :
    Calls Tryd.prog 13 #[.int .i64 m, .int .i64 t, .int .i64 d, A4 B] w fun r w' => r = .returned (.tuple #[A4 R, .int .i64 F, .int .i64 0]) ∧ Below w.heap.size w w' := by
  subst hc
  have hsm := cell_set_map
  go_enter Tryd.func13, Tryd.ntmps13
  go_wp2_with (first
    | (go_at_call 12; refine (c1 _ (hT.go bgo)).mono ?_; rintro r w1 ⟨rfl, hb1⟩; obtain ⟨hc1, hf1⟩ := bcell hb1; have hz1_0 : w.heap.size < w1.heap.size := lt_below hb1 ltg; have hl1_0 := Nat.le_of_lt hz1_0; have hz1_1 : w.heap.size + 1 < w1.heap.size := lt_below hb1 ltg; have hl1_1 := Nat.le_of_lt hz1_1; have hA1 := bnext (w0 := w) bgo hb1; have hs1 := hA1.size; clear hb1)
    | (go_at_call 26; refine (c2 _ (hT.go bgo)).mono ?_; rintro r w2 ⟨rfl, hb2⟩; obtain ⟨hc2, hf2⟩ := bcell hb2; have hz2_0 : w.heap.size < w2.heap.size := lt_below hb2 ltg; have hl2_0 := Nat.le_of_lt hz2_0; have hz2_1 : w.heap.size + 1 < w2.heap.size := lt_below hb2 ltg; have hl2_1 := Nat.le_of_lt hz2_1; have hz2_2 : w1.heap.size < w2.heap.size := lt_below hb2 ltg; have hl2_2 := Nat.le_of_lt hz2_2; have hA2 := bnext (w0 := w) bgo hb2; have hs2 := hA2.size; clear hb2)
    | (go_at_call 27; refine (cR _ (hT.go bgo)).mono ?_; rintro r w3 ⟨rfl, hb3⟩; obtain ⟨hc3, hf3⟩ := bcell hb3; have hz3_0 : w.heap.size < w3.heap.size := lt_below hb3 ltg; have hl3_0 := Nat.le_of_lt hz3_0; have hz3_1 : w.heap.size + 1 < w3.heap.size := lt_below hb3 ltg; have hl3_1 := Nat.le_of_lt hz3_1; have hz3_2 : w1.heap.size < w3.heap.size := lt_below hb3 ltg; have hl3_2 := Nat.le_of_lt hz3_2; have hz3_3 : w2.heap.size < w3.heap.size := lt_below hb3 ltg; have hl3_3 := Nat.le_of_lt hz3_3; have hA3 := bnext (w0 := w) bgo hb3; have hs3 := hA3.size; clear hb3))
  exact bodyPost_ret (by simp only [results, Tryd.results13]; go_simp) rfl ⟨rfl, bgo⟩
set_option maxHeartbeats 4000000 in
theorem cvb_3 (hc : c = 2 ∨ c = 3) (k' R : Nat) (F : Int)
    (cC : ∀ W, Calls Tryd.prog 28 #[InfV t, DV c s g x k] W fun r w' => r = .returned (.tuple #[DV c s false x k', .int .i64 F]) ∧ Below W.heap.size W w')
    (cP : ∀ W, Tab W → Calls Tryd.prog 17 #[.int .i64 t, DV c s false x k'] W fun r w' => r = .returned (.tuple #[A4 R, .int .i64 0]) ∧ Below W.heap.size W w') :
    Calls Tryd.prog 13 #[.int .i64 m, .int .i64 t, .int .i64 d, A4 B] w fun r w' => r = .returned (.tuple #[A4 R, .int .i64 F, .int .i64 0]) ∧ Below w.heap.size w w' := by
  have hsm := cell_set_map
  rcases hc with rfl | rfl
  all_goals (
    go_enter Tryd.func13, Tryd.ntmps13
    go_wp2_with (first
      | (go_at_call 12; refine (c1 _ (hT.go bgo)).mono ?_; rintro r w1 ⟨rfl, hb1⟩; obtain ⟨hc1, hf1⟩ := bcell hb1; have hz1_0 : w.heap.size < w1.heap.size := lt_below hb1 ltg; have hl1_0 := Nat.le_of_lt hz1_0; have hz1_1 : w.heap.size + 1 < w1.heap.size := lt_below hb1 ltg; have hl1_1 := Nat.le_of_lt hz1_1; have hA1 := bnext (w0 := w) bgo hb1; have hs1 := hA1.size; clear hb1)
      | (go_at_call 26; refine (c2 _ (hT.go bgo)).mono ?_; rintro r w2 ⟨rfl, hb2⟩; obtain ⟨hc2, hf2⟩ := bcell hb2; have hz2_0 : w.heap.size < w2.heap.size := lt_below hb2 ltg; have hl2_0 := Nat.le_of_lt hz2_0; have hz2_1 : w.heap.size + 1 < w2.heap.size := lt_below hb2 ltg; have hl2_1 := Nat.le_of_lt hz2_1; have hz2_2 : w1.heap.size < w2.heap.size := lt_below hb2 ltg; have hl2_2 := Nat.le_of_lt hz2_2; have hA2 := bnext (w0 := w) bgo hb2; have hs2 := hA2.size; clear hb2)
      | (go_at_call 28; refine (cC _).mono ?_; rintro r w3 ⟨rfl, hb3⟩; obtain ⟨hc3, hf3⟩ := bcell hb3; have hz3_0 : w.heap.size < w3.heap.size := lt_below hb3 ltg; have hl3_0 := Nat.le_of_lt hz3_0; have hz3_1 : w.heap.size + 1 < w3.heap.size := lt_below hb3 ltg; have hl3_1 := Nat.le_of_lt hz3_1; have hz3_2 : w1.heap.size < w3.heap.size := lt_below hb3 ltg; have hl3_2 := Nat.le_of_lt hz3_2; have hz3_3 : w2.heap.size < w3.heap.size := lt_below hb3 ltg; have hl3_3 := Nat.le_of_lt hz3_3; have hA3 := bnext (w0 := w) bgo hb3; have hs3 := hA3.size; clear hb3)
      | (go_at_call 17; refine (cP _ (hT.go bgo)).mono ?_; rintro r w4 ⟨rfl, hb4⟩; obtain ⟨hc4, hf4⟩ := bcell hb4; have hz4_0 : w.heap.size < w4.heap.size := lt_below hb4 ltg; have hl4_0 := Nat.le_of_lt hz4_0; have hz4_1 : w.heap.size + 1 < w4.heap.size := lt_below hb4 ltg; have hl4_1 := Nat.le_of_lt hz4_1; have hz4_2 : w1.heap.size < w4.heap.size := lt_below hb4 ltg; have hl4_2 := Nat.le_of_lt hz4_2; have hz4_3 : w2.heap.size < w4.heap.size := lt_below hb4 ltg; have hl4_3 := Nat.le_of_lt hz4_3; have hA4 := bnext (w0 := w) bgo hb4; have hs4 := hA4.size; clear hb4))
    exact bodyPost_ret (by simp only [results, Tryd.results13]; go_simp) rfl ⟨rfl, bgo⟩)
end
theorem conv_v (m t d : Int) (B : Nat) (w : World) (hT : Tab w) (hB : B < 2 ^ 256) :
    Calls Tryd.prog 13 #[.int .i64 m, .int .i64 t, .int .i64 d, A4 B] w fun r w' => r = .returned (.tuple #[A4 (cnV m t d B), .int .i64 (cnF m t d B), .int .i64 (cnE m t d B)]) ∧ Below w.heap.size w w' := by
  have c1 : ∀ W, Tab W → Calls Tryd.prog 12 #[.int .i64 m, A4 B] W fun r w' => r = .returned (.tuple #[DV (unD m B).c (unD m B).s (unD m B).g (unD m B).x (unD m B).k, .int .i64 (unE m B)]) ∧ Below W.heap.size W w' := fun W h => unpack_any m B W h hB
  unfold cnV cnF cnE
  by_cases h1 : goodN m B
  · rw [show unE m B = 0 from if_pos h1] at c1
    by_cases h2 : binN t ∧ knB d
    · obtain ⟨hb, hd⟩ := h2
      obtain ⟨f1, f2, f3, f4, f5, f6⟩ := bin_fields hb
      have c2 := fun W h => starg_y W h f1 f2 hd
      have hc : cnG m t d B := ⟨h1, hb, hd⟩
      rw [if_pos hc, if_pos hc, if_pos hc]
      have hi := und_is h1
      have hkk := unD_k m B
      generalize unD m B = D at *
      obtain ⟨c, s, g, x, k⟩ := D
      dsimp only at c1 hkk
      have cC := fun c W => sconv_v t _ (bin_bound hb) c x s g hkk W
      rcases hi with ⟨i1, i2, i3, i4, i5, i6⟩ | ⟨i1, i2, i3, i4⟩ | ⟨i1, i2, i3, i4⟩
      · dsimp only at i1 i2
        subst i1
        rw [show cvV t d ⟨1, s, g, x, k⟩ = rdV t d s k 1 x from rfl, show cvF t d ⟨1, s, g, x, k⟩ = rdF t d s k 1 x from rfl]
        exact cvb_1 m t d 1 x s g k B w hT c1 c2 rfl _ _ (fun W h => scaled_good t d x s k W h hb hd hkk)
      · dsimp only at i1 i2 i3 i4
        subst i1 i2 i3 i4
        have hE : pkE t ⟨2, s, false, 0, 0⟩ = 0 := by
          unfold pkE
          rw [if_pos hb]
          exact if_pos (Or.inr (Or.inl ⟨rfl, rfl, rfl, rfl⟩))
        have cP := fun W h => pack_any t ⟨2, s, false, 0, 0⟩ W h (show 0 < 2 ^ 256 by decide)
        rw [hE] at cP
        refine cvb_3 m t d 2 0 s false 0 B w hT c1 c2 (Or.inl rfl) _ _ _ (cC 2) ?_
        rw [ite_self]
        exact cP
      · dsimp only at i1 i2
        subst i1 i2
        have hk' : (if k < 2 ^ (fN t - 1) then k else 0) < 2 ^ 256 := by split <;> omega
        have hE : pkE t ⟨3, s, false, 0, if k < 2 ^ (fN t - 1) then k else 0⟩ = 0 := by
          unfold pkE
          rw [if_pos hb]
          refine if_pos (Or.inr (Or.inr ⟨rfl, rfl, ?_, Or.inr rfl⟩))
          dsimp only
          split
          · assumption
          · exact Nat.two_pow_pos _
        have cP := fun W h => pack_any t ⟨3, s, false, 0, if k < 2 ^ (fN t - 1) then k else 0⟩ W h hk'
        rw [hE] at cP
        exact cvb_3 m t d 3 0 s g k B w hT c1 c2 (Or.inr rfl) _ _ _ (cC 3) cP
    · have hc : ¬ cnG m t d B := fun q => h2 q.2
      rw [if_neg hc, if_neg hc, if_neg hc]
      refine cvb_e2 m t d _ _ _ _ _ B w hT c1 (fun W h => starg_n W h ?_)
      rintro ⟨a1, a2, a3⟩
      refine h2 ⟨?_, a3⟩
      apply Classical.byContradiction
      intro hn
      rcases not_bin hn with ⟨q1, q2⟩ | q1
      · rw [a2] at q2; exact absurd q2 (by decide)
      · exact q1 a1
  · rw [show unE m B = 1 from if_neg h1] at c1
    have hc : ¬ cnG m t d B := fun q => h1 q.1
    rw [if_neg hc, if_neg hc, if_neg hc]
    exact cvb_e1 m t d _ _ _ _ _ B w hT c1
end
section
theorem A4_wide : A4 4591870180066957722 = .agg #[.int .u64 4591870180066957722, .int .u64 0, .int .u64 0, .int .u64 0] := by unfold A4; rw [show W4 4591870180066957722 0 = 4591870180066957722 by decide, show W4 4591870180066957722 1 = 0 by decide, show W4 4591870180066957722 2 = 0 by decide, show W4 4591870180066957722 3 = 0 by decide]
theorem A4_narrow : A4 1036831949 = .agg #[.int .u64 1036831949, .int .u64 0, .int .u64 0, .int .u64 0] := by unfold A4; rw [show W4 1036831949 0 = 1036831949 by decide, show W4 1036831949 1 = 0 by decide, show W4 1036831949 2 = 0 by decide, show W4 1036831949 3 = 0 by decide]
attribute [local irreducible] W4 mo
set_option maxHeartbeats 1000000 in
theorem less_v (A B : Nat) (w : World) (hA : A < 2 ^ 256) (hB : B < 2 ^ 256) :
    Calls Tryd.prog 16 #[A4 A, A4 B] w fun r w' => r = .returned (.bool (decide (A < B))) ∧ Below w.heap.size w w' := by
  rw [← mo_four hB hA]
  go_enter Tryd.func16, Tryd.ntmps16
  go_wp2
  go_loopw [5, 7] (fun m t wr => ∃ i : Nat, i ≤ 4 ∧ t = .int .i64 i ∧ m = .bool (mo B A i) ∧ Four wr w.heap.size 0 A ∧ Four wr (w.heap.size + 1) 0 B ∧ Below w.heap.size w wr ∧ w.heap.size + 1 < wr.heap.size) (fun _ t _ => 4 - (intOf t).toNat)
  case atStart => exact ⟨0, by decide, rfl, by rw [mo_zero], .of (by go_simp) (by go_simp) (by go_simp) (by go_simp), .of (by go_simp) (by go_simp) (by go_simp) (by go_simp), bgo, by simp⟩
  case round =>
    obtain ⟨i, hi, rfl, rfl, fA, fB, hbw, hsz⟩ := hrel
    have hl0 : w.heap.size < wr.heap.size := by omega
    have hl1 : w.heap.size + 1 < wr.heap.size := by omega
    by_cases h : i < 4
    · have hi4 : (i : Int) < 4 := by omega
      have hAi := fA.cell i h
      have hBi := fB.cell i h
      rw [Nat.zero_add] at hAi hBi
      by_cases he : W4 B i = W4 A i
      · have hn := mo_same he
        rw [he] at hBi
        clear he
        go_wp2
        refine wp_whole (by kernel_rfl) (by kernel_rfl) fun hne hcell => ?_
        repeat go_big_quiet_step (fail)
        refine wpQuiet_nil fun w5 hb5 => ?_
        go_wp2
        go_roundw
        case rel => exact ⟨i + 1, by omega, by go_num, by rw [hn], fA.next hl0 hb5, fB.next hl1 hb5, bnext hbw hb5, Nat.lt_of_lt_of_le hsz hb5.size⟩
        case measure => simp [intOf]; omega
      · have hn := mo_other he
        have he' : ¬ W4 A i = W4 B i := fun q => he q.symm
        have hne1 : (W4 A i == W4 B i) = false := by simpa using he'
        have hne2 : (W4 A i != W4 B i) = true := by simpa using he'
        go_wp2
        refine wp_whole (by kernel_rfl) (by kernel_rfl) fun hne hcell => ?_
        repeat go_big_quiet_step (fail)
        refine wpQuiet_nil fun w5 hb5 => ?_
        have hA5 : w5.cell? ⟨w.heap.size, i, none⟩ = some (.int .u64 (W4 A i)) := by rw [(bcell hb5).1 _ _ hl0]; exact hAi
        have hB5 : w5.cell? ⟨w.heap.size + 1, i, none⟩ = some (.int .u64 (W4 B i)) := by rw [(bcell hb5).1 _ _ hl1]; exact hBi
        have hl5 := lt_below hb5 hl0
        have hl6 := lt_below hb5 hl1
        go_wp2
        refine wp_whole (by kernel_rfl) (by kernel_rfl) fun hne hcell => ?_
        repeat go_big_quiet_step (fail)
        refine wpQuiet_nil fun w6 hb6 => ?_
        go_wp2
        go_roundw
        case rel => exact ⟨i + 1, by omega, by go_num, by rw [hn], (fA.next hl0 hb5).next (lt_below hb5 hl0) hb6, (fB.next hl1 hb5).next (lt_below hb5 hl1) hb6, bnext (bnext hbw hb5) hb6, Nat.lt_of_lt_of_le (lt_below hb5 hsz) hb6.size⟩
        case measure => simp [intOf]; omega
    · obtain rfl : i = 4 := by omega
      go_wp2
      go_ret
      exact ⟨rfl, hbw⟩
theorem wide_ld : ld 7205759403792794 1 = 52 := by
  have e1 : bl 7205759403792794 = 53 := bl_eq (by decide) (by decide)
  have e3 : bl 1 = 1 := bl_eq (by decide) (by decide)
  unfold ld
  rw [e1, e3]
  decide
theorem wide_X : rX 3 7205759403792794 1 (-56) = -56 := by unfold rX; rw [wide_ld]; decide
theorem wide_Q : rQ 3 7205759403792794 1 (-56) = -27 := by unfold rQ; rw [wide_ld, wide_X]; decide
theorem wide_C : rC 3 0 false 7205759403792794 1 (-56) = 13421773 := by unfold rC; rw [wide_X, wide_Q]; decide
theorem wide_bl : bl 13421773 = 24 := bl_eq (by decide) (by decide)
theorem wide_V : rdV 3 0 false 7205759403792794 1 (-56) = 1036831949 := by
  unfold rdV rQ' rC'
  rw [wide_C, wide_bl, wide_Q]
  decide
theorem wide_F : rdF 3 0 false 7205759403792794 1 (-56) = 8 := by
  unfold rdF rQ'
  rw [wide_C, wide_bl, wide_Q, wide_X, wide_ld]
  decide
theorem tenth12 : cnV 4 3 0 4591870180066957722 = 1036831949 ∧ cnF 4 3 0 4591870180066957722 = 8 ∧ cnE 4 3 0 4591870180066957722 = 0 := by
  have hg : cnG 4 3 0 4591870180066957722 := ⟨by decide, by decide, by decide⟩
  unfold cnV cnF cnE
  rw [if_pos hg, if_pos hg, if_pos hg]
  have hu : unD 4 4591870180066957722 = ⟨1, false, false, -56, 7205759403792794⟩ := by kernel_rfl
  rw [hu]
  exact ⟨wide_V, wide_F, rfl⟩
set_option maxHeartbeats 1000000 in
theorem awake12 (w : World) (hT : Tab w) : Calls Tryd.prog 8 #[] w fun r w' => r = .returned (.bool true) ∧ Below w.heap.size w w' := by
  have c := fun W (h : Tab W) => conv_v 4 3 0 4591870180066957722 W h (by decide)
  rw [tenth12.1, tenth12.2.1, tenth12.2.2, A4_wide, A4_narrow] at c
  have hQ : ∀ W, Sem.run Tryd.prog (Op.equalIn 10000 24 (.agg #[.int .u64 1036831949, .int .u64 0, .int .u64 0, .int .u64 0]) (.agg #[.int .u64 1036831949, .int .u64 0, .int .u64 0, .int .u64 0])) W = .ok true W := fun W => by
    have := A4_self 1036831949 W
    rw [A4_narrow] at this
    exact this
  go_enter Tryd.func8, Tryd.ntmps8
  go_wp2_with (go_at_call 13; refine (c _ (hT.go bgo)).mono ?_; rintro r w1 ⟨rfl, hb1⟩; have hs1 := hb1.size)
  go_ret
  exact ⟨rfl, bgo⟩
end
section
attribute [local irreducible] W4

section
variable (m d : Int) (B : Nat) (w : World) (hT : Tab w)
  (c7 : ∀ W, Below w.heap.size w W → Calls Tryd.prog 8 #[] W fun r w' => r = .returned (.bool true) ∧ Below W.heap.size W w')
include hT c7
set_option maxHeartbeats 2000000 in
theorem self_n (b1 b3 : Bool) (hn : (b1 && b3) = false)
    (c8 : ∀ W, Calls Tryd.prog 9 #[.int .i64 m, A4 B] W fun r w' => r = .returned (.bool b1) ∧ Below W.heap.size W w')
    (c10 : ∀ W, Calls Tryd.prog 11 #[.int .i64 d] W fun r w' => r = .returned (.bool b3) ∧ W = w') :
    Calls Tryd.prog 5 #[.int .i64 m, .int .i64 d, A4 B] w fun r w' => r = .returned (.bool true) ∧ Below w.heap.size w w' := by
  cases b1 <;> cases b3 <;> simp only [Bool.and_self, Bool.and_true, Bool.and_false, Bool.true_and, Bool.false_and, Bool.true_eq_false] at hn
  all_goals (
    clear hn
    go_enter Tryd.func5, Tryd.ntmps5
    go_wp2_with (first
      | (have := hA2; go_at_call 8; refine (c7 _ bgo).mono ?_; rintro r w4 ⟨rfl, hb4⟩; obtain ⟨hc4, hf4⟩ := bcell hb4; have hz4_0 : w.heap.size < w4.heap.size := lt_below hb4 ltg; have hl4_0 := Nat.le_of_lt hz4_0; have hA4 := bnext (w0 := w) bgo hb4; have hs4 := hA4.size; clear hb4)
      | (go_at_call 8; refine (c7 _ bgo).mono ?_; rintro r w1 ⟨rfl, hb1⟩; obtain ⟨hc1, hf1⟩ := bcell hb1; have hz1_0 : w.heap.size < w1.heap.size := lt_below hb1 ltg; have hl1_0 := Nat.le_of_lt hz1_0; have hA1 := bnext (w0 := w) bgo hb1; have hs1 := hA1.size; clear hb1)
      | (go_at_call 9; refine (c8 _).mono ?_; rintro r w2 ⟨rfl, hb2⟩; obtain ⟨hc2, hf2⟩ := bcell hb2; have hz2_0 : w.heap.size < w2.heap.size := lt_below hb2 ltg; have hl2_0 := Nat.le_of_lt hz2_0; have hA2 := bnext (w0 := w) bgo hb2; have hs2 := hA2.size; clear hb2)
      | (go_at_call 11; refine (c10 _).mono ?_; rintro r w3 ⟨rfl, rfl⟩))
    go_ret
    exact ⟨rfl, bgo⟩)
variable (c x : Int) (s : Bool) (k : Nat)
    (c8 : ∀ W, Calls Tryd.prog 9 #[.int .i64 m, A4 B] W fun r w' => r = .returned (.bool true) ∧ Below W.heap.size W w')
    (c10 : ∀ W, Calls Tryd.prog 11 #[.int .i64 d] W fun r w' => r = .returned (.bool true) ∧ W = w')
include c8 c10
set_option maxHeartbeats 2000000 in
theorem self_y
    (c12 : ∀ W, Tab W → Calls Tryd.prog 13 #[.int .i64 m, .int .i64 m, .int .i64 d, A4 B] W fun r w' => r = .returned (.tuple #[A4 B, .int .i64 0, .int .i64 0]) ∧ Below W.heap.size W w')
    (c11 : ∀ W, Tab W → Calls Tryd.prog 12 #[.int .i64 m, A4 B] W fun r w' => r = .returned (.tuple #[DV c s false x k, .int .i64 0]) ∧ Below W.heap.size W w') :
    Calls Tryd.prog 5 #[.int .i64 m, .int .i64 d, A4 B] w fun r w' => r = .returned (.bool true) ∧ Below w.heap.size w w' := by
  have hQ := A4_self B
  go_enter Tryd.func5, Tryd.ntmps5
  go_wp2_with (first
    | (go_at_call 8; refine (c7 _ bgo).mono ?_; rintro r w1 ⟨rfl, hb1⟩; obtain ⟨hc1, hf1⟩ := bcell hb1; have hz1_0 : w.heap.size < w1.heap.size := lt_below hb1 ltg; have hl1_0 := Nat.le_of_lt hz1_0; have hA1 := bnext (w0 := w) bgo hb1; have hs1 := hA1.size; clear hb1)
    | (go_at_call 9; refine (c8 _).mono ?_; rintro r w2 ⟨rfl, hb2⟩; obtain ⟨hc2, hf2⟩ := bcell hb2; have hz2_0 : w.heap.size < w2.heap.size := lt_below hb2 ltg; have hl2_0 := Nat.le_of_lt hz2_0; have hA2 := bnext (w0 := w) bgo hb2; have hs2 := hA2.size; clear hb2)
    | (go_at_call 11; refine (c10 _).mono ?_; rintro r w3 ⟨rfl, rfl⟩)
    | (go_at_call 13; refine (c12 _ (hT.go bgo)).mono ?_; rintro r w4 ⟨rfl, hb4⟩; obtain ⟨hc4, hf4⟩ := bcell hb4; have hz4_0 : w.heap.size < w4.heap.size := lt_below hb4 ltg; have hl4_0 := Nat.le_of_lt hz4_0; have hA4 := bnext (w0 := w) bgo hb4; have hs4 := hA4.size; clear hb4)
    | (go_at_call 12; refine (c11 _ (hT.go bgo)).mono ?_; rintro r w5 ⟨rfl, hb5⟩; obtain ⟨hc5, hf5⟩ := bcell hb5; have hz5_0 : w.heap.size < w5.heap.size := lt_below hb5 ltg; have hl5_0 := Nat.le_of_lt hz5_0; have hz5_1 : w4.heap.size < w5.heap.size := lt_below hb5 ltg; have hl5_1 := Nat.le_of_lt hz5_1; have hA5 := bnext (w0 := w) bgo hb5; have hs5 := hA5.size; clear hb5))
  go_ret
  exact ⟨by first | rfl | simp, bgo⟩
set_option maxHeartbeats 2000000 in
theorem self_q (Q : Nat) (E : Int)
    (c12 : ∀ W, Tab W → Calls Tryd.prog 13 #[.int .i64 m, .int .i64 m, .int .i64 d, A4 B] W fun r w' => r = .returned (.tuple #[A4 Q, .int .i64 1, .int .i64 0]) ∧ Below W.heap.size W w')
    (c11 : ∀ W, Tab W → Calls Tryd.prog 12 #[.int .i64 m, A4 B] W fun r w' => r = .returned (.tuple #[DV c s true x k, .int .i64 0]) ∧ Below W.heap.size W w')
    (c13 : ∀ W, Tab W → Calls Tryd.prog 14 #[.int .i64 m, A4 B] W fun r w' => r = .returned (.tuple #[A4 Q, .int .i64 E]) ∧ Below W.heap.size W w') :
    Calls Tryd.prog 5 #[.int .i64 m, .int .i64 d, A4 B] w fun r w' => r = .returned (.bool true) ∧ Below w.heap.size w w' := by
  have hQ := A4_self Q
  go_enter Tryd.func5, Tryd.ntmps5
  go_wp2_with (first
    | (go_at_call 8; refine (c7 _ bgo).mono ?_; rintro r w1 ⟨rfl, hb1⟩; obtain ⟨hc1, hf1⟩ := bcell hb1; have hz1_0 : w.heap.size < w1.heap.size := lt_below hb1 ltg; have hl1_0 := Nat.le_of_lt hz1_0; have hA1 := bnext (w0 := w) bgo hb1; have hs1 := hA1.size; clear hb1)
    | (go_at_call 9; refine (c8 _).mono ?_; rintro r w2 ⟨rfl, hb2⟩; obtain ⟨hc2, hf2⟩ := bcell hb2; have hz2_0 : w.heap.size < w2.heap.size := lt_below hb2 ltg; have hl2_0 := Nat.le_of_lt hz2_0; have hA2 := bnext (w0 := w) bgo hb2; have hs2 := hA2.size; clear hb2)
    | (go_at_call 11; refine (c10 _).mono ?_; rintro r w3 ⟨rfl, rfl⟩)
    | (go_at_call 13; refine (c12 _ (hT.go bgo)).mono ?_; rintro r w4 ⟨rfl, hb4⟩; obtain ⟨hc4, hf4⟩ := bcell hb4; have hz4_0 : w.heap.size < w4.heap.size := lt_below hb4 ltg; have hl4_0 := Nat.le_of_lt hz4_0; have hA4 := bnext (w0 := w) bgo hb4; have hs4 := hA4.size; clear hb4)
    | (go_at_call 12; refine (c11 _ (hT.go bgo)).mono ?_; rintro r w5 ⟨rfl, hb5⟩; obtain ⟨hc5, hf5⟩ := bcell hb5; have hz5_0 : w.heap.size < w5.heap.size := lt_below hb5 ltg; have hl5_0 := Nat.le_of_lt hz5_0; have hz5_1 : w4.heap.size < w5.heap.size := lt_below hb5 ltg; have hl5_1 := Nat.le_of_lt hz5_1; have hA5 := bnext (w0 := w) bgo hb5; have hs5 := hA5.size; clear hb5)
    | (go_at_call 14; refine (c13 _ (hT.go bgo)).mono ?_; rintro r w6 ⟨rfl, hb6⟩; obtain ⟨hc6, hf6⟩ := bcell hb6; have hz6_0 : w.heap.size < w6.heap.size := lt_below hb6 ltg; have hl6_0 := Nat.le_of_lt hz6_0; have hz6_1 : w4.heap.size < w6.heap.size := lt_below hb6 ltg; have hl6_1 := Nat.le_of_lt hz6_1; have hz6_2 : w5.heap.size < w6.heap.size := lt_below hb6 ltg; have hl6_2 := Nat.le_of_lt hz6_2; have hA6 := bnext (w0 := w) bgo hb6; have hs6 := hA6.size; clear hb6))
  go_ret
  exact ⟨by first | rfl | simp, bgo⟩
end
theorem binconvSelf_any (m d : Int) (B : Nat) (w : World) (hT : Tab w) (hB : B < 2 ^ 256) : Calls Tryd.prog 5 #[.int .i64 m, .int .i64 d, A4 B] w fun r w' => r = .returned (.bool true) ∧ Below w.heap.size w w' := by
  have c7 := fun W (hW : Below w.heap.size w W) => awake12 W (hT.go hW)
  have c8 := fun W => rgood_any m B hB W
  have c10 := fun W => rdir12 d W
  by_cases h : goodN m B ∧ knB d
  · obtain ⟨h1, h3⟩ := h
    rw [decide_eq_true h1] at c8
    rw [decide_eq_true h3] at c10
    have hc : cnG m m d B := ⟨h1, h1.1, h3⟩
    obtain ⟨v1, v2⟩ := cv_self h1.1 (und_is h1) d
    obtain ⟨q1, q2, q3⟩ := qu_self h1
    have eV : cnV m m d B = quV m B := by unfold cnV; rw [if_pos hc, v1, q1]
    have eF : cnF m m d B = if (unD m B).g then 1 else 0 := by unfold cnF; rw [if_pos hc, v2]
    have eE : cnE m m d B = 0 := by unfold cnE; rw [if_pos hc]
    have c12 := fun W h => conv_v m m d B W h hB
    rw [eV, eF, eE] at c12
    have c11 : ∀ W, Tab W → Calls Tryd.prog 12 #[.int .i64 m, A4 B] W fun r w' => r = .returned (.tuple #[DV (unD m B).c (unD m B).s (unD m B).g (unD m B).x (unD m B).k, .int .i64 0]) ∧ Below W.heap.size W w' := fun W h => by
      have := unpack_any m B W h hB
      rw [show unE m B = 0 from if_pos h1] at this
      exact this
    by_cases hg : (unD m B).g = true
    · rw [hg] at c11
      simp only [hg, if_true] at c12
      exact self_q m d B w hT c7 _ _ _ _ c8 c10 _ _ c12 c11 (fun W h => qu_any m B W h hB)
    · have hg' : (unD m B).g = false := by simpa using hg
      rw [hg'] at c11
      simp only [hg', Bool.false_eq_true, if_false] at c12
      rw [q3 hg'] at c12
      exact self_y m d B w hT c7 _ _ _ _ c8 c10 c12 c11
  · refine self_n m d B w hT c7 _ _ ?_ c8 c10
    by_cases a1 : goodN m B
    · rw [decide_eq_false (fun a3 => h ⟨a1, a3⟩), Bool.and_false]
    · rw [decide_eq_false a1, Bool.false_and]
section
variable (m n d e : Int) (B : Nat) (w : World) (hT : Tab w)
  (c7 : ∀ W, Below w.heap.size w W → Calls Tryd.prog 8 #[] W fun r w' => r = .returned (.bool true) ∧ Below W.heap.size W w')
include hT c7
set_option maxHeartbeats 2000000 in
theorem widens_n (b1 b2 b3 b4 : Bool) (hn : (b1 && b2 && b3 && b4) = false)
    (c8 : ∀ W, Calls Tryd.prog 9 #[.int .i64 m, A4 B] W fun r w' => r = .returned (.bool b1) ∧ Below W.heap.size W w')
    (c9 : ∀ W, Calls Tryd.prog 10 #[.int .i64 m, .int .i64 n] W fun r w' => r = .returned (.bool b2) ∧ Below W.heap.size W w')
    (c10 : ∀ W, Calls Tryd.prog 11 #[.int .i64 d] W fun r w' => r = .returned (.bool b3) ∧ W = w')
    (c10b : ∀ W, Calls Tryd.prog 11 #[.int .i64 e] W fun r w' => r = .returned (.bool b4) ∧ W = w') :
    Calls Tryd.prog 3 #[.int .i64 m, .int .i64 n, .int .i64 d, .int .i64 e, A4 B] w fun r w' => r = .returned (.bool true) ∧ Below w.heap.size w w' := by
  cases b1 <;> cases b2 <;> cases b3 <;> cases b4 <;> simp only [Bool.and_self, Bool.and_true, Bool.and_false, Bool.true_and, Bool.false_and, Bool.true_eq_false] at hn
  all_goals (
    clear hn
    go_enter Tryd.func3, Tryd.ntmps3
    go_wp2_with (first
      | (go_at_call 8; refine (c7 _ bgo).mono ?_; rintro r w1 ⟨rfl, hb1⟩; obtain ⟨hc1, hf1⟩ := bcell hb1; have hz1_0 : w.heap.size < w1.heap.size := lt_below hb1 ltg; have hl1_0 := Nat.le_of_lt hz1_0; have hA1 := bnext (w0 := w) bgo hb1; have hs1 := hA1.size; clear hb1)
      | (go_at_call 9; refine (c8 _).mono ?_; rintro r w2 ⟨rfl, hb2⟩; obtain ⟨hc2, hf2⟩ := bcell hb2; have hz2_0 : w.heap.size < w2.heap.size := lt_below hb2 ltg; have hl2_0 := Nat.le_of_lt hz2_0; have hA2 := bnext (w0 := w) bgo hb2; have hs2 := hA2.size; clear hb2)
      | (go_at_call 10; refine (c9 _).mono ?_; rintro r w3 ⟨rfl, hb3⟩; obtain ⟨hc3, hf3⟩ := bcell hb3; have hz3_0 : w.heap.size < w3.heap.size := lt_below hb3 ltg; have hl3_0 := Nat.le_of_lt hz3_0; have hA3 := bnext (w0 := w) bgo hb3; have hs3 := hA3.size; clear hb3)
      | (go_at_call 11; refine (c10 _).mono ?_; rintro r w4 ⟨rfl, rfl⟩)
      | (go_at_call 11; refine (c10b _).mono ?_; rintro r w4 ⟨rfl, rfl⟩))
    go_ret
    exact ⟨rfl, bgo⟩)
variable (c x : Int) (s : Bool) (k V : Nat)
    (c8 : ∀ W, Calls Tryd.prog 9 #[.int .i64 m, A4 B] W fun r w' => r = .returned (.bool true) ∧ Below W.heap.size W w')
    (c9 : ∀ W, Calls Tryd.prog 10 #[.int .i64 m, .int .i64 n] W fun r w' => r = .returned (.bool true) ∧ Below W.heap.size W w')
    (c10 : ∀ W, Calls Tryd.prog 11 #[.int .i64 d] W fun r w' => r = .returned (.bool true) ∧ W = w')
    (c10b : ∀ W, Calls Tryd.prog 11 #[.int .i64 e] W fun r w' => r = .returned (.bool true) ∧ W = w')
include c8 c9 c10 c10b
set_option maxHeartbeats 4000000 in
theorem widens_y
    (c12 : ∀ W, Tab W → Calls Tryd.prog 13 #[.int .i64 m, .int .i64 n, .int .i64 d, A4 B] W fun r w' => r = .returned (.tuple #[A4 V, .int .i64 0, .int .i64 0]) ∧ Below W.heap.size W w')
    (c12b : ∀ W, Tab W → Calls Tryd.prog 13 #[.int .i64 n, .int .i64 m, .int .i64 e, A4 V] W fun r w' => r = .returned (.tuple #[A4 B, .int .i64 0, .int .i64 0]) ∧ Below W.heap.size W w')
    (c11 : ∀ W, Tab W → Calls Tryd.prog 12 #[.int .i64 m, A4 B] W fun r w' => r = .returned (.tuple #[DV c s false x k, .int .i64 0]) ∧ Below W.heap.size W w') :
    Calls Tryd.prog 3 #[.int .i64 m, .int .i64 n, .int .i64 d, .int .i64 e, A4 B] w fun r w' => r = .returned (.bool true) ∧ Below w.heap.size w w' := by
  have hQ := A4_self B
  go_enter Tryd.func3, Tryd.ntmps3
  go_wp2_with (first
    | (go_at_call 8; refine (c7 _ bgo).mono ?_; rintro r w1 ⟨rfl, hb1⟩; obtain ⟨hc1, hf1⟩ := bcell hb1; have hz1_0 : w.heap.size < w1.heap.size := lt_below hb1 ltg; have hl1_0 := Nat.le_of_lt hz1_0; have hA1 := bnext (w0 := w) bgo hb1; have hs1 := hA1.size; clear hb1)
    | (go_at_call 9; refine (c8 _).mono ?_; rintro r w2 ⟨rfl, hb2⟩; obtain ⟨hc2, hf2⟩ := bcell hb2; have hz2_0 : w.heap.size < w2.heap.size := lt_below hb2 ltg; have hl2_0 := Nat.le_of_lt hz2_0; have hA2 := bnext (w0 := w) bgo hb2; have hs2 := hA2.size; clear hb2)
    | (go_at_call 10; refine (c9 _).mono ?_; rintro r w3 ⟨rfl, hb3⟩; obtain ⟨hc3, hf3⟩ := bcell hb3; have hz3_0 : w.heap.size < w3.heap.size := lt_below hb3 ltg; have hl3_0 := Nat.le_of_lt hz3_0; have hA3 := bnext (w0 := w) bgo hb3; have hs3 := hA3.size; clear hb3)
    | (go_at_call 11; refine (c10 _).mono ?_; rintro r w4 ⟨rfl, rfl⟩)
    | (go_at_call 11; refine (c10b _).mono ?_; rintro r w4 ⟨rfl, rfl⟩)
    | (go_at_call 12; refine (c11 _ (hT.go bgo)).mono ?_; rintro r w5 ⟨rfl, hb5⟩; obtain ⟨hc5, hf5⟩ := bcell hb5; have hz5_0 : w.heap.size < w5.heap.size := lt_below hb5 ltg; have hl5_0 := Nat.le_of_lt hz5_0; have hA5 := bnext (w0 := w) bgo hb5; have hs5 := hA5.size; clear hb5)
    | (have := hA6; go_at_call 13; refine (c12b _ (hT.go bgo)).mono ?_; rintro r w7 ⟨rfl, hb7⟩; obtain ⟨hc7, hf7⟩ := bcell hb7; have hz7_0 : w.heap.size < w7.heap.size := lt_below hb7 ltg; have hl7_0 := Nat.le_of_lt hz7_0; have hz7_1 : w5.heap.size < w7.heap.size := lt_below hb7 ltg; have hl7_1 := Nat.le_of_lt hz7_1; have hz7_2 : w6.heap.size < w7.heap.size := lt_below hb7 ltg; have hl7_2 := Nat.le_of_lt hz7_2; have hA7 := bnext (w0 := w) bgo hb7; have hs7 := hA7.size; clear hb7)
    | (go_at_call 13; refine (c12 _ (hT.go bgo)).mono ?_; rintro r w6 ⟨rfl, hb6⟩; obtain ⟨hc6, hf6⟩ := bcell hb6; have hz6_0 : w.heap.size < w6.heap.size := lt_below hb6 ltg; have hl6_0 := Nat.le_of_lt hz6_0; have hz6_1 : w5.heap.size < w6.heap.size := lt_below hb6 ltg; have hl6_1 := Nat.le_of_lt hz6_1; have hA6 := bnext (w0 := w) bgo hb6; have hs6 := hA6.size; clear hb6))
  go_ret
  exact ⟨by first | rfl | simp, bgo⟩
set_option maxHeartbeats 4000000 in
theorem widens_q (Q : Nat) (E : Int)
    (c12 : ∀ W, Tab W → Calls Tryd.prog 13 #[.int .i64 m, .int .i64 n, .int .i64 d, A4 B] W fun r w' => r = .returned (.tuple #[A4 V, .int .i64 1, .int .i64 0]) ∧ Below W.heap.size W w')
    (c12b : ∀ W, Tab W → Calls Tryd.prog 13 #[.int .i64 n, .int .i64 m, .int .i64 e, A4 V] W fun r w' => r = .returned (.tuple #[A4 Q, .int .i64 0, .int .i64 0]) ∧ Below W.heap.size W w')
    (c11 : ∀ W, Tab W → Calls Tryd.prog 12 #[.int .i64 m, A4 B] W fun r w' => r = .returned (.tuple #[DV c s true x k, .int .i64 0]) ∧ Below W.heap.size W w')
    (c13 : ∀ W, Tab W → Calls Tryd.prog 14 #[.int .i64 m, A4 B] W fun r w' => r = .returned (.tuple #[A4 Q, .int .i64 E]) ∧ Below W.heap.size W w') :
    Calls Tryd.prog 3 #[.int .i64 m, .int .i64 n, .int .i64 d, .int .i64 e, A4 B] w fun r w' => r = .returned (.bool true) ∧ Below w.heap.size w w' := by
  have hQ := A4_self Q
  have hsm := cell_set_map
  go_enter Tryd.func3, Tryd.ntmps3
  go_wp2_with (first
    | (go_at_call 8; refine (c7 _ bgo).mono ?_; rintro r w1 ⟨rfl, hb1⟩; obtain ⟨hc1, hf1⟩ := bcell hb1; have hz1_0 : w.heap.size < w1.heap.size := lt_below hb1 ltg; have hl1_0 := Nat.le_of_lt hz1_0; have hA1 := bnext (w0 := w) bgo hb1; have hs1 := hA1.size; clear hb1)
    | (go_at_call 9; refine (c8 _).mono ?_; rintro r w2 ⟨rfl, hb2⟩; obtain ⟨hc2, hf2⟩ := bcell hb2; have hz2_0 : w.heap.size < w2.heap.size := lt_below hb2 ltg; have hl2_0 := Nat.le_of_lt hz2_0; have hA2 := bnext (w0 := w) bgo hb2; have hs2 := hA2.size; clear hb2)
    | (go_at_call 10; refine (c9 _).mono ?_; rintro r w3 ⟨rfl, hb3⟩; obtain ⟨hc3, hf3⟩ := bcell hb3; have hz3_0 : w.heap.size < w3.heap.size := lt_below hb3 ltg; have hl3_0 := Nat.le_of_lt hz3_0; have hA3 := bnext (w0 := w) bgo hb3; have hs3 := hA3.size; clear hb3)
    | (go_at_call 11; refine (c10 _).mono ?_; rintro r w4 ⟨rfl, rfl⟩)
    | (go_at_call 11; refine (c10b _).mono ?_; rintro r w4 ⟨rfl, rfl⟩)
    | (go_at_call 12; refine (c11 _ (hT.go bgo)).mono ?_; rintro r w5 ⟨rfl, hb5⟩; obtain ⟨hc5, hf5⟩ := bcell hb5; have hz5_0 : w.heap.size < w5.heap.size := lt_below hb5 ltg; have hl5_0 := Nat.le_of_lt hz5_0; have hA5 := bnext (w0 := w) bgo hb5; have hs5 := hA5.size; clear hb5)
    | (have := hA6; go_at_call 13; refine (c12b _ (hT.go bgo)).mono ?_; rintro r w7 ⟨rfl, hb7⟩; obtain ⟨hc7, hf7⟩ := bcell hb7; have hz7_0 : w.heap.size < w7.heap.size := lt_below hb7 ltg; have hl7_0 := Nat.le_of_lt hz7_0; have hz7_1 : w5.heap.size < w7.heap.size := lt_below hb7 ltg; have hl7_1 := Nat.le_of_lt hz7_1; have hz7_2 : w6.heap.size < w7.heap.size := lt_below hb7 ltg; have hl7_2 := Nat.le_of_lt hz7_2; have hA7 := bnext (w0 := w) bgo hb7; have hs7 := hA7.size; clear hb7)
    | (go_at_call 13; refine (c12 _ (hT.go bgo)).mono ?_; rintro r w6 ⟨rfl, hb6⟩; obtain ⟨hc6, hf6⟩ := bcell hb6; have hz6_0 : w.heap.size < w6.heap.size := lt_below hb6 ltg; have hl6_0 := Nat.le_of_lt hz6_0; have hz6_1 : w5.heap.size < w6.heap.size := lt_below hb6 ltg; have hl6_1 := Nat.le_of_lt hz6_1; have hA6 := bnext (w0 := w) bgo hb6; have hs6 := hA6.size; clear hb6)
    | (go_at_call 14; refine (c13 _ (hT.go bgo)).mono ?_; rintro r w8 ⟨rfl, hb8⟩; obtain ⟨hc8, hf8⟩ := bcell hb8; have hz8_0 : w.heap.size < w8.heap.size := lt_below hb8 ltg; have hl8_0 := Nat.le_of_lt hz8_0; have hz8_1 : w5.heap.size < w8.heap.size := lt_below hb8 ltg; have hl8_1 := Nat.le_of_lt hz8_1; have hz8_2 : w6.heap.size < w8.heap.size := lt_below hb8 ltg; have hl8_2 := Nat.le_of_lt hz8_2; have hz8_3 : w7.heap.size < w8.heap.size := lt_below hb8 ltg; have hl8_3 := Nat.le_of_lt hz8_3; have hA8 := bnext (w0 := w) bgo hb8; have hs8 := hA8.size; clear hb8))
  go_ret
  exact ⟨by first | rfl | simp, bgo⟩
end
theorem binconvWidens_any (m n d e : Int) (B : Nat) (w : World) (hT : Tab w) (hB : B < 2 ^ 256) : Calls Tryd.prog 3 #[.int .i64 m, .int .i64 n, .int .i64 d, .int .i64 e, A4 B] w fun r w' => r = .returned (.bool true) ∧ Below w.heap.size w w' := by
  have c7 := fun W (hW : Below w.heap.size w W) => awake12 W (hT.go hW)
  have c8 := fun W => rgood_any m B hB W
  have c9 := fun W => rholds_v m n W
  have c10 := fun W => rdir12 d W
  have c10b := fun W => rdir12 e W
  by_cases h : goodN m B ∧ holdsP m n ∧ knB d ∧ knB e
  · obtain ⟨h1, h2, h3, h4⟩ := h
    rw [decide_eq_true h1] at c8
    rw [decide_eq_true h2] at c9
    rw [decide_eq_true h3] at c10
    rw [decide_eq_true h4] at c10b
    have hn := hold_bin h1.1 h2
    have hc : cnG m n d B := ⟨h1, hn, h3⟩
    obtain ⟨D', i1, i2, i3, i4⟩ := cv_widen h1.1 h2 (und_is h1) d
    obtain ⟨g1, g2⟩ := pk_good hn i1
    obtain ⟨v1, v2⟩ := cv_self h1.1 (und_is h1) e
    obtain ⟨q1, q2, q3⟩ := qu_self h1
    obtain ⟨j1, j2⟩ := i4 m e
    have hc' : cnG n m e (pkV n D') := ⟨g1, h1.1, h4⟩
    have c12 := fun W h => conv_v m n d B W h hB
    have c12b := fun W h => conv_v n m e (pkV n D') W h (good_256 g1)
    rw [show cnV m n d B = pkV n D' by unfold cnV; rw [if_pos hc, i2], show cnF m n d B = if (unD m B).g then 1 else 0 by unfold cnF; rw [if_pos hc, i3], show cnE m n d B = 0 from if_pos hc] at c12
    rw [show cnV n m e (pkV n D') = quV m B by unfold cnV; rw [if_pos hc', g2, j1, v1, q1], show cnF n m e (pkV n D') = 0 by unfold cnF; rw [if_pos hc', g2, j2, v2]; split <;> rfl, show cnE n m e (pkV n D') = 0 from if_pos hc'] at c12b
    have c11 : ∀ W, Tab W → Calls Tryd.prog 12 #[.int .i64 m, A4 B] W fun r w' => r = .returned (.tuple #[DV (unD m B).c (unD m B).s (unD m B).g (unD m B).x (unD m B).k, .int .i64 0]) ∧ Below W.heap.size W w' := fun W h => by
      have := unpack_any m B W h hB
      rw [show unE m B = 0 from if_pos h1] at this
      exact this
    by_cases hg : (unD m B).g = true
    · rw [hg] at c11
      simp only [hg, if_true] at c12
      exact widens_q m n d e B w hT c7 _ _ _ _ _ c8 c9 c10 c10b _ _ c12 c12b c11 (fun W h => qu_any m B W h hB)
    · have hg' : (unD m B).g = false := by simpa using hg
      rw [hg'] at c11
      simp only [hg', Bool.false_eq_true, if_false] at c12
      rw [q3 hg'] at c12b
      exact widens_y m n d e B w hT c7 _ _ _ _ _ c8 c9 c10 c10b c12 c12b c11
  · refine widens_n m n d e B w hT c7 _ _ _ _ ?_ c8 c9 c10 c10b
    by_cases a1 : goodN m B
    · by_cases a2 : holdsP m n
      · by_cases a3 : knB d
        · rw [decide_eq_false (p := knB e) (fun a4 => h ⟨a1, a2, a3, a4⟩), Bool.and_false]
        · rw [decide_eq_false (p := knB d) a3, Bool.and_false, Bool.false_and]
      · rw [decide_eq_false (p := holdsP m n) a2, Bool.and_false, Bool.false_and, Bool.false_and]
    · rw [decide_eq_false (p := goodN m B) a1, Bool.false_and, Bool.false_and, Bool.false_and]
end
section
attribute [local irreducible] W4

section
variable (m t d : Int) (B : Nat) (w : World) (hT : Tab w)
  (c7 : ∀ W, Below w.heap.size w W → Calls Tryd.prog 8 #[] W fun r w' => r = .returned (.bool true) ∧ Below W.heap.size W w')
include hT c7
set_option maxHeartbeats 2000000 in
theorem turns_n (b1 b2 b3 : Bool) (hn : (b1 && b2 && b3) = false)
    (c8 : ∀ W, Calls Tryd.prog 9 #[.int .i64 m, A4 B] W fun r w' => r = .returned (.bool b1) ∧ Below W.heap.size W w')
    (c14 : ∀ W, Calls Tryd.prog 15 #[.int .i64 t] W fun r w' => r = .returned (.bool b2) ∧ W = w')
    (c10 : ∀ W, Calls Tryd.prog 11 #[.int .i64 d] W fun r w' => r = .returned (.bool b3) ∧ W = w') :
    Calls Tryd.prog 7 #[.int .i64 m, .int .i64 t, .int .i64 d, A4 B] w fun r w' => r = .returned (.bool true) ∧ Below w.heap.size w w' := by
  cases b1 <;> cases b2 <;> cases b3 <;> simp only [Bool.and_self, Bool.and_true, Bool.and_false, Bool.true_and, Bool.false_and, Bool.true_eq_false] at hn
  all_goals (
    clear hn
    go_enter Tryd.func7, Tryd.ntmps7
    go_wp2_with (first
      | (have := hA2; go_at_call 8; refine (c7 _ bgo).mono ?_; rintro r w4 ⟨rfl, hb4⟩; obtain ⟨hc4, hf4⟩ := bcell hb4; have hz4_0 : w.heap.size < w4.heap.size := lt_below hb4 ltg; have hl4_0 := Nat.le_of_lt hz4_0; have hA4 := bnext (w0 := w) bgo hb4; have hs4 := hA4.size; clear hb4)
      | (go_at_call 8; refine (c7 _ bgo).mono ?_; rintro r w1 ⟨rfl, hb1⟩; obtain ⟨hc1, hf1⟩ := bcell hb1; have hz1_0 : w.heap.size < w1.heap.size := lt_below hb1 ltg; have hl1_0 := Nat.le_of_lt hz1_0; have hA1 := bnext (w0 := w) bgo hb1; have hs1 := hA1.size; clear hb1)
      | (go_at_call 9; refine (c8 _).mono ?_; rintro r w2 ⟨rfl, hb2⟩; obtain ⟨hc2, hf2⟩ := bcell hb2; have hz2_0 : w.heap.size < w2.heap.size := lt_below hb2 ltg; have hl2_0 := Nat.le_of_lt hz2_0; have hA2 := bnext (w0 := w) bgo hb2; have hs2 := hA2.size; clear hb2)
      | (go_at_call 15; refine (c14 _).mono ?_; rintro r w3 ⟨rfl, rfl⟩)
      | (go_at_call 11; refine (c10 _).mono ?_; rintro r w3 ⟨rfl, rfl⟩))
    go_ret
    exact ⟨rfl, bgo⟩)
set_option maxHeartbeats 8000000 in
theorem turns_y (c x c' x' : Int) (s s2 g g' : Bool) (k k' C V V' : Nat) (o F E : Int) (ho : o = othD d)
    (c8 : ∀ W, Calls Tryd.prog 9 #[.int .i64 m, A4 B] W fun r w' => r = .returned (.bool true) ∧ Below W.heap.size W w')
    (c14 : ∀ W, Calls Tryd.prog 15 #[.int .i64 t] W fun r w' => r = .returned (.bool true) ∧ W = w')
    (c10 : ∀ W, Calls Tryd.prog 11 #[.int .i64 d] W fun r w' => r = .returned (.bool true) ∧ W = w')
    (c11 : ∀ W, Tab W → Calls Tryd.prog 12 #[.int .i64 m, A4 B] W fun r w' => r = .returned (.tuple #[DV c s g x k, .int .i64 0]) ∧ Below W.heap.size W w')
    (c16 : ∀ W, Tab W → Calls Tryd.prog 17 #[.int .i64 m, DV c (!s) g x k] W fun r w' => r = .returned (.tuple #[A4 C, .int .i64 E]) ∧ Below W.heap.size W w')
    (c12 : ∀ W, Tab W → Calls Tryd.prog 13 #[.int .i64 m, .int .i64 t, .int .i64 d, A4 B] W fun r w' => r = .returned (.tuple #[A4 V, .int .i64 F, .int .i64 0]) ∧ Below W.heap.size W w')
    (c12b : ∀ W, Tab W → Calls Tryd.prog 13 #[.int .i64 m, .int .i64 t, .int .i64 o, A4 C] W fun r w' => r = .returned (.tuple #[A4 V', .int .i64 F, .int .i64 0]) ∧ Below W.heap.size W w')
    (c11p : ∀ W, Tab W → Calls Tryd.prog 12 #[.int .i64 t, A4 V] W fun r w' => r = .returned (.tuple #[DV c' s2 g' x' k', .int .i64 0]) ∧ Below W.heap.size W w')
    (c11q : ∀ W, Tab W → Calls Tryd.prog 12 #[.int .i64 t, A4 V'] W fun r w' => r = .returned (.tuple #[DV c' (!s2) g' x' k', .int .i64 0]) ∧ Below W.heap.size W w') :
    Calls Tryd.prog 7 #[.int .i64 m, .int .i64 t, .int .i64 d, A4 B] w fun r w' => r = .returned (.bool true) ∧ Below w.heap.size w w' := by
  have hQ := DV_self c' s2 g' x' k'
  have hsm := cell_set_map
  have hnn : (!(!s2)) = s2 := Bool.not_not s2
  have hw : (d = 3 ∧ o = 4) ∨ (d = 4 ∧ o = 3) ∨ ((d == 3) = false ∧ (d == 4) = false ∧ o = d) := by
    unfold othD at ho
    by_cases h3 : d = 3
    · left; subst h3; exact ⟨rfl, ho⟩
    · by_cases h4 : d = 4
      · right; left; subst h4; exact ⟨rfl, ho⟩
      · right; right
        rw [if_neg (by omega)] at ho
        exact ⟨by simpa using h3, by simpa using h4, ho⟩
  clear ho
  rcases hw with ⟨rfl, rfl⟩ | ⟨rfl, rfl⟩ | ⟨h3, h4, rfl⟩
  all_goals (
    go_enter Tryd.func7, Tryd.ntmps7
    go_wp2_with (first
      | (go_at_call 8; refine (c7 _ bgo).mono ?_; rintro r w1 ⟨rfl, hb1⟩; obtain ⟨hc1, hf1⟩ := bcell hb1; have hz1_0 : w.heap.size < w1.heap.size := lt_below hb1 ltg; have hl1_0 := Nat.le_of_lt hz1_0; have hA1 := bnext (w0 := w) bgo hb1; have hs1 := hA1.size; clear hb1)
      | (go_at_call 9; refine (c8 _).mono ?_; rintro r w2 ⟨rfl, hb2⟩; obtain ⟨hc2, hf2⟩ := bcell hb2; have hz2_0 : w.heap.size < w2.heap.size := lt_below hb2 ltg; have hl2_0 := Nat.le_of_lt hz2_0; have hA2 := bnext (w0 := w) bgo hb2; have hs2 := hA2.size; clear hb2)
      | (go_at_call 15; refine (c14 _).mono ?_; rintro r w3 ⟨rfl, rfl⟩)
      | (go_at_call 11; refine (c10 _).mono ?_; rintro r w3 ⟨rfl, rfl⟩)
      | (have := hA8; go_at_call 12; refine (c11q _ (hT.go bgo)).mono ?_; rintro r w9 ⟨rfl, hb9⟩; obtain ⟨hc9, hf9⟩ := bcell hb9; have hz9_0 : w.heap.size < w9.heap.size := lt_below hb9 ltg; have hl9_0 := Nat.le_of_lt hz9_0; have hz9_1 : w4.heap.size < w9.heap.size := lt_below hb9 ltg; have hl9_1 := Nat.le_of_lt hz9_1; have hz9_2 : w5.heap.size < w9.heap.size := lt_below hb9 ltg; have hl9_2 := Nat.le_of_lt hz9_2; have hz9_3 : w6.heap.size < w9.heap.size := lt_below hb9 ltg; have hl9_3 := Nat.le_of_lt hz9_3; have hz9_4 : w7.heap.size < w9.heap.size := lt_below hb9 ltg; have hl9_4 := Nat.le_of_lt hz9_4; have hz9_5 : w8.heap.size < w9.heap.size := lt_below hb9 ltg; have hl9_5 := Nat.le_of_lt hz9_5; have hA9 := bnext (w0 := w) bgo hb9; have hs9 := hA9.size; clear hb9)
      | (have := hA7; go_at_call 12; refine (c11p _ (hT.go bgo)).mono ?_; rintro r w8 ⟨rfl, hb8⟩; obtain ⟨hc8, hf8⟩ := bcell hb8; have hz8_0 : w.heap.size < w8.heap.size := lt_below hb8 ltg; have hl8_0 := Nat.le_of_lt hz8_0; have hz8_1 : w4.heap.size < w8.heap.size := lt_below hb8 ltg; have hl8_1 := Nat.le_of_lt hz8_1; have hz8_2 : w5.heap.size < w8.heap.size := lt_below hb8 ltg; have hl8_2 := Nat.le_of_lt hz8_2; have hz8_3 : w6.heap.size < w8.heap.size := lt_below hb8 ltg; have hl8_3 := Nat.le_of_lt hz8_3; have hz8_4 : w7.heap.size < w8.heap.size := lt_below hb8 ltg; have hl8_4 := Nat.le_of_lt hz8_4; have hA8 := bnext (w0 := w) bgo hb8; have hs8 := hA8.size; clear hb8)
      | (go_at_call 12; refine (c11 _ (hT.go bgo)).mono ?_; rintro r w4 ⟨rfl, hb4⟩; obtain ⟨hc4, hf4⟩ := bcell hb4; have hz4_0 : w.heap.size < w4.heap.size := lt_below hb4 ltg; have hl4_0 := Nat.le_of_lt hz4_0; have hA4 := bnext (w0 := w) bgo hb4; have hs4 := hA4.size; clear hb4)
      | (go_at_call 17; refine (c16 _ (hT.go bgo)).mono ?_; rintro r w5 ⟨rfl, hb5⟩; obtain ⟨hc5, hf5⟩ := bcell hb5; have hz5_0 : w.heap.size < w5.heap.size := lt_below hb5 ltg; have hl5_0 := Nat.le_of_lt hz5_0; have hz5_1 : w4.heap.size < w5.heap.size := lt_below hb5 ltg; have hl5_1 := Nat.le_of_lt hz5_1; have hA5 := bnext (w0 := w) bgo hb5; have hs5 := hA5.size; clear hb5)
      | (have := hA6; go_at_call 13; refine (c12b _ (hT.go bgo)).mono ?_; rintro r w7 ⟨rfl, hb7⟩; obtain ⟨hc7, hf7⟩ := bcell hb7; have hz7_0 : w.heap.size < w7.heap.size := lt_below hb7 ltg; have hl7_0 := Nat.le_of_lt hz7_0; have hz7_1 : w4.heap.size < w7.heap.size := lt_below hb7 ltg; have hl7_1 := Nat.le_of_lt hz7_1; have hz7_2 : w5.heap.size < w7.heap.size := lt_below hb7 ltg; have hl7_2 := Nat.le_of_lt hz7_2; have hz7_3 : w6.heap.size < w7.heap.size := lt_below hb7 ltg; have hl7_3 := Nat.le_of_lt hz7_3; have hA7 := bnext (w0 := w) bgo hb7; have hs7 := hA7.size; clear hb7)
      | (go_at_call 13; refine (c12 _ (hT.go bgo)).mono ?_; rintro r w6 ⟨rfl, hb6⟩; obtain ⟨hc6, hf6⟩ := bcell hb6; have hz6_0 : w.heap.size < w6.heap.size := lt_below hb6 ltg; have hl6_0 := Nat.le_of_lt hz6_0; have hz6_1 : w4.heap.size < w6.heap.size := lt_below hb6 ltg; have hl6_1 := Nat.le_of_lt hz6_1; have hz6_2 : w5.heap.size < w6.heap.size := lt_below hb6 ltg; have hl6_2 := Nat.le_of_lt hz6_2; have hA6 := bnext (w0 := w) bgo hb6; have hs6 := hA6.size; clear hb6))
    go_ret
    exact ⟨by first | rfl | simp, bgo⟩)
end
theorem oth_oth (d : Int) : othD (othD d) = d := by
  unfold othD
  by_cases h : d = 3 ∨ d = 4
  · rw [if_pos h, if_pos (by omega)]; omega
  · rw [if_neg h, if_neg h]
theorem binconvTurns_any (m t d : Int) (B : Nat) (w : World) (hT : Tab w) (hB : B < 2 ^ 256) : Calls Tryd.prog 7 #[.int .i64 m, .int .i64 t, .int .i64 d, A4 B] w fun r w' => r = .returned (.bool true) ∧ Below w.heap.size w w' := by
  have c7 := fun W (hW : Below w.heap.size w W) => awake12 W (hT.go hW)
  have c8 := fun W => rgood_any m B hB W
  have c14 : ∀ W, Calls Tryd.prog 15 #[.int .i64 t] W fun r w' => r = .returned (.bool (decide (binN t))) ∧ W = w' := fun W => (rbinary_any t W).mono fun r w' h => ⟨h.1, h.2.symm⟩
  have c10 := fun W => rdir12 d W
  by_cases h : cnG m t d B
  · obtain ⟨h1, h2, h3⟩ := id h
    rw [decide_eq_true h1] at c8
    rw [decide_eq_true h2] at c14
    rw [decide_eq_true h3] at c10
    have hi := und_is h1
    have hk := unD_k m B
    have c11 := fun W h => unpack_any m B W h hB
    rw [show unE m B = 0 from if_pos h1] at c11
    have c12 := fun W hh => conv_v m t d B W hh hB
    rw [show cnV m t d B = cvV t d (unD m B) from if_pos h, show cnF m t d B = cvF t d (unD m B) from if_pos h, show cnE m t d B = 0 from if_pos h] at c12
    generalize unD m B = D at *
    obtain ⟨c, s, g, x, k⟩ := D
    have hj : isD (fN m) (leastN m) (mostN m) ⟨c, !s, g, x, k⟩ := hi
    obtain ⟨p1, p2⟩ := pk_good h1.1 hj
    have h' : cnG m t (othD d) (pkV m ⟨c, !s, g, x, k⟩) := ⟨p1, h2, (kn_turn d).2 h3⟩
    have c12b := fun W hh => conv_v m t (othD d) (pkV m ⟨c, !s, g, x, k⟩) W hh (good_256 p1)
    rw [show cnV m t (othD d) (pkV m ⟨c, !s, g, x, k⟩) = cvV t (othD d) ⟨c, !s, g, x, k⟩ by unfold cnV; rw [if_pos h', p2], show cnF m t (othD d) (pkV m ⟨c, !s, g, x, k⟩) = cvF t (othD d) ⟨c, !s, g, x, k⟩ by unfold cnF; rw [if_pos h', p2], show cnE m t (othD d) (pkV m ⟨c, !s, g, x, k⟩) = 0 from if_pos h'] at c12b
    have c16 := fun W hh => pack_any m ⟨c, !s, g, x, k⟩ W hh hk
    cases s
    · obtain ⟨t1, t2, t3⟩ := cv_turn d h2 c g x k
      obtain ⟨u1, u2, c', g', x', k', u3, u4⟩ := un_turn h2 t3
      rw [show (!false) = true from rfl, t1, t2] at c12b
      have e1 := fun W hh => unpack_any t (cvV t d ⟨c, false, g, x, k⟩) W hh (good_256 u1)
      have e2 := fun W hh => unpack_any t (cvV t d ⟨c, false, g, x, k⟩ + 2 ^ (fN t + eN t)) W hh (good_256 u2)
      rw [show unE t (cvV t d ⟨c, false, g, x, k⟩) = 0 from if_pos u1, u3] at e1
      rw [show unE t (cvV t d ⟨c, false, g, x, k⟩ + 2 ^ (fN t + eN t)) = 0 from if_pos u2, u4] at e2
      exact turns_y m t d B w hT c7 c x c' x' false false g g' k k' _ _ _ _ _ _ rfl c8 c14 c10 c11 c16 c12 c12b e1 e2
    · obtain ⟨t1, t2, t3⟩ := cv_turn (othD d) h2 c g x k
      rw [oth_oth] at t1 t2
      obtain ⟨u1, u2, c', g', x', k', u3, u4⟩ := un_turn h2 t3
      rw [t1, t2] at c12
      have e1 := fun W hh => unpack_any t (cvV t (othD d) ⟨c, false, g, x, k⟩) W hh (good_256 u1)
      have e2 := fun W hh => unpack_any t (cvV t (othD d) ⟨c, false, g, x, k⟩ + 2 ^ (fN t + eN t)) W hh (good_256 u2)
      rw [show unE t (cvV t (othD d) ⟨c, false, g, x, k⟩) = 0 from if_pos u1, u3] at e1
      rw [show unE t (cvV t (othD d) ⟨c, false, g, x, k⟩ + 2 ^ (fN t + eN t)) = 0 from if_pos u2, u4] at e2
      exact turns_y m t d B w hT c7 c x c' x' true true g g' k k' _ _ _ _ _ _ rfl c8 c14 c10 c11 c16 c12 c12b e2 e1
  · refine turns_n m t d B w hT c7 _ _ _ ?_ c8 c14 c10
    by_cases a1 : goodN m B
    · by_cases a2 : binN t
      · have a3 : ¬ knB d := fun a3 => h ⟨a1, a2, a3⟩
        rw [decide_eq_false (p := knB d) a3, Bool.and_false]
      · rw [decide_eq_false (p := binN t) a2, Bool.and_false, Bool.false_and]
    · rw [decide_eq_false (p := goodN m B) a1, Bool.false_and, Bool.false_and]
end
section
attribute [local irreducible] W4 mo

section
variable (m t d : Int) (A B : Nat) (w : World) (hT : Tab w)
  (c7 : ∀ W, Below w.heap.size w W → Calls Tryd.prog 8 #[] W fun r w' => r = .returned (.bool true) ∧ Below W.heap.size W w')
include hT c7
set_option maxHeartbeats 2000000 in
theorem cris_n (b0 b1 b2 b3 : Bool) (hn : (b0 && b1 && b2 && b3) = false)
    (c8 : ∀ W, Calls Tryd.prog 9 #[.int .i64 m, A4 A] W fun r w' => r = .returned (.bool b0) ∧ Below W.heap.size W w')
    (c8b : ∀ W, Calls Tryd.prog 9 #[.int .i64 m, A4 B] W fun r w' => r = .returned (.bool b1) ∧ Below W.heap.size W w')
    (c14 : ∀ W, Calls Tryd.prog 15 #[.int .i64 t] W fun r w' => r = .returned (.bool b2) ∧ W = w')
    (c10 : ∀ W, Calls Tryd.prog 11 #[.int .i64 d] W fun r w' => r = .returned (.bool b3) ∧ W = w') :
    Calls Tryd.prog 6 #[.int .i64 m, .int .i64 t, .int .i64 d, A4 A, A4 B] w fun r w' => r = .returned (.bool true) ∧ Below w.heap.size w w' := by
  cases b0 <;> cases b1 <;> cases b2 <;> cases b3 <;> simp only [Bool.and_self, Bool.and_true, Bool.and_false, Bool.true_and, Bool.false_and, Bool.true_eq_false] at hn
  all_goals (
    clear hn
    go_enter Tryd.func6, Tryd.ntmps6
    go_wp2_with (first
      | (go_at_call 8; refine (c7 _ bgo).mono ?_; rintro r w1 ⟨rfl, hb1⟩; obtain ⟨hc1, hf1⟩ := bcell hb1; have hz1_0 : w.heap.size < w1.heap.size := lt_below hb1 ltg; have hl1_0 := Nat.le_of_lt hz1_0; have hz1_1 : w.heap.size + 1 < w1.heap.size := lt_below hb1 ltg; have hl1_1 := Nat.le_of_lt hz1_1; have hA1 := bnext (w0 := w) bgo hb1; have hs1 := hA1.size; clear hb1)
      | (have := hA2; go_at_call 9; refine (c8b _).mono ?_; rintro r w3 ⟨rfl, hb3⟩; obtain ⟨hc3, hf3⟩ := bcell hb3; have hz3_0 : w.heap.size < w3.heap.size := lt_below hb3 ltg; have hl3_0 := Nat.le_of_lt hz3_0; have hz3_1 : w.heap.size + 1 < w3.heap.size := lt_below hb3 ltg; have hl3_1 := Nat.le_of_lt hz3_1; have hA3 := bnext (w0 := w) bgo hb3; have hs3 := hA3.size; clear hb3)
      | (go_at_call 9; refine (c8 _).mono ?_; rintro r w2 ⟨rfl, hb2⟩; obtain ⟨hc2, hf2⟩ := bcell hb2; have hz2_0 : w.heap.size < w2.heap.size := lt_below hb2 ltg; have hl2_0 := Nat.le_of_lt hz2_0; have hz2_1 : w.heap.size + 1 < w2.heap.size := lt_below hb2 ltg; have hl2_1 := Nat.le_of_lt hz2_1; have hA2 := bnext (w0 := w) bgo hb2; have hs2 := hA2.size; clear hb2)
      | (go_at_call 15; refine (c14 _).mono ?_; rintro r w4 ⟨rfl, rfl⟩)
      | (go_at_call 11; refine (c10 _).mono ?_; rintro r w4 ⟨rfl, rfl⟩))
    go_ret
    exact ⟨rfl, bgo⟩)
variable (c x c' x' : Int) (s s' g g' : Bool) (k k' : Nat)
    (c8 : ∀ W, Calls Tryd.prog 9 #[.int .i64 m, A4 A] W fun r w' => r = .returned (.bool true) ∧ Below W.heap.size W w')
    (c8b : ∀ W, Calls Tryd.prog 9 #[.int .i64 m, A4 B] W fun r w' => r = .returned (.bool true) ∧ Below W.heap.size W w')
    (c14 : ∀ W, Calls Tryd.prog 15 #[.int .i64 t] W fun r w' => r = .returned (.bool true) ∧ W = w')
    (c10 : ∀ W, Calls Tryd.prog 11 #[.int .i64 d] W fun r w' => r = .returned (.bool true) ∧ W = w')
    (c11 : ∀ W, Tab W → Calls Tryd.prog 12 #[.int .i64 m, A4 A] W fun r w' => r = .returned (.tuple #[DV c s g x k, .int .i64 0]) ∧ Below W.heap.size W w')
    (c11b : ∀ W, Tab W → Calls Tryd.prog 12 #[.int .i64 m, A4 B] W fun r w' => r = .returned (.tuple #[DV c' s' g' x' k', .int .i64 0]) ∧ Below W.heap.size W w')
include c8 c8b c14 c10 c11 c11b
set_option maxHeartbeats 4000000 in
theorem cris_s (h : (c == 3) = true ∨ (c == 3) = false ∧ ((c' == 3) = true ∨ (c' == 3) = false ∧ (s = true ∨ s = false ∧ s' = true))) :
    Calls Tryd.prog 6 #[.int .i64 m, .int .i64 t, .int .i64 d, A4 A, A4 B] w fun r w' => r = .returned (.bool true) ∧ Below w.heap.size w w' := by
  rcases h with h1 | ⟨h1, h2 | ⟨h2, rfl | ⟨rfl, rfl⟩⟩⟩
  all_goals (
    go_enter Tryd.func6, Tryd.ntmps6
    go_wp2_with (first
      | (go_at_call 8; refine (c7 _ bgo).mono ?_; rintro r w1 ⟨rfl, hb1⟩; obtain ⟨hc1, hf1⟩ := bcell hb1; have hz1_0 : w.heap.size < w1.heap.size := lt_below hb1 ltg; have hl1_0 := Nat.le_of_lt hz1_0; have hz1_1 : w.heap.size + 1 < w1.heap.size := lt_below hb1 ltg; have hl1_1 := Nat.le_of_lt hz1_1; have hA1 := bnext (w0 := w) bgo hb1; have hs1 := hA1.size; clear hb1)
      | (have := hA2; go_at_call 9; refine (c8b _).mono ?_; rintro r w3 ⟨rfl, hb3⟩; obtain ⟨hc3, hf3⟩ := bcell hb3; have hz3_0 : w.heap.size < w3.heap.size := lt_below hb3 ltg; have hl3_0 := Nat.le_of_lt hz3_0; have hz3_1 : w.heap.size + 1 < w3.heap.size := lt_below hb3 ltg; have hl3_1 := Nat.le_of_lt hz3_1; have hA3 := bnext (w0 := w) bgo hb3; have hs3 := hA3.size; clear hb3)
      | (go_at_call 9; refine (c8 _).mono ?_; rintro r w2 ⟨rfl, hb2⟩; obtain ⟨hc2, hf2⟩ := bcell hb2; have hz2_0 : w.heap.size < w2.heap.size := lt_below hb2 ltg; have hl2_0 := Nat.le_of_lt hz2_0; have hz2_1 : w.heap.size + 1 < w2.heap.size := lt_below hb2 ltg; have hl2_1 := Nat.le_of_lt hz2_1; have hA2 := bnext (w0 := w) bgo hb2; have hs2 := hA2.size; clear hb2)
      | (go_at_call 15; refine (c14 _).mono ?_; rintro r w4 ⟨rfl, rfl⟩)
      | (go_at_call 11; refine (c10 _).mono ?_; rintro r w4 ⟨rfl, rfl⟩)
      | (have := hA5; go_at_call 12; refine (c11b _ (hT.go bgo)).mono ?_; rintro r w6 ⟨rfl, hb6⟩; obtain ⟨hc6, hf6⟩ := bcell hb6; have hz6_0 : w.heap.size < w6.heap.size := lt_below hb6 ltg; have hl6_0 := Nat.le_of_lt hz6_0; have hz6_1 : w.heap.size + 1 < w6.heap.size := lt_below hb6 ltg; have hl6_1 := Nat.le_of_lt hz6_1; have hz6_2 : w5.heap.size < w6.heap.size := lt_below hb6 ltg; have hl6_2 := Nat.le_of_lt hz6_2; have hA6 := bnext (w0 := w) bgo hb6; have hs6 := hA6.size; clear hb6)
      | (go_at_call 12; refine (c11 _ (hT.go bgo)).mono ?_; rintro r w5 ⟨rfl, hb5⟩; obtain ⟨hc5, hf5⟩ := bcell hb5; have hz5_0 : w.heap.size < w5.heap.size := lt_below hb5 ltg; have hl5_0 := Nat.le_of_lt hz5_0; have hz5_1 : w.heap.size + 1 < w5.heap.size := lt_below hb5 ltg; have hl5_1 := Nat.le_of_lt hz5_1; have hA5 := bnext (w0 := w) bgo hb5; have hs5 := hA5.size; clear hb5))
    go_ret
    exact ⟨rfl, bgo⟩)
variable (hc : (c == 3) = false) (hc' : (c' == 3) = false) (hs : s = false) (hs' : s' = false) (V V' : Nat) (F F' : Int)
    (c12 : ∀ W, Tab W → Calls Tryd.prog 13 #[.int .i64 m, .int .i64 t, .int .i64 d, A4 A] W fun r w' => r = .returned (.tuple #[A4 V, .int .i64 F, .int .i64 0]) ∧ Below W.heap.size W w')
    (c12b : ∀ W, Tab W → Calls Tryd.prog 13 #[.int .i64 m, .int .i64 t, .int .i64 d, A4 B] W fun r w' => r = .returned (.tuple #[A4 V', .int .i64 F', .int .i64 0]) ∧ Below W.heap.size W w')
include hc hc' hs hs' c12 c12b
set_option maxHeartbeats 8000000 in
theorem cris_l
    (l1 : ∀ W, Calls Tryd.prog 16 #[A4 A, A4 B] W fun r w' => r = .returned (.bool true) ∧ Below W.heap.size W w')
    (l2 : ∀ W, Calls Tryd.prog 16 #[A4 V', A4 V] W fun r w' => r = .returned (.bool false) ∧ Below W.heap.size W w') :
    Calls Tryd.prog 6 #[.int .i64 m, .int .i64 t, .int .i64 d, A4 A, A4 B] w fun r w' => r = .returned (.bool true) ∧ Below w.heap.size w w' := by
  subst hs hs'
  go_enter Tryd.func6, Tryd.ntmps6
  go_wp2_with (first
    | (go_at_call 8; refine (c7 _ bgo).mono ?_; rintro r w1 ⟨rfl, hb1⟩; obtain ⟨hc1, hf1⟩ := bcell hb1; have hz1_0 : w.heap.size < w1.heap.size := lt_below hb1 ltg; have hl1_0 := Nat.le_of_lt hz1_0; have hz1_1 : w.heap.size + 1 < w1.heap.size := lt_below hb1 ltg; have hl1_1 := Nat.le_of_lt hz1_1; have hA1 := bnext (w0 := w) bgo hb1; have hs1 := hA1.size; clear hb1)
    | (have := hA2; go_at_call 9; refine (c8b _).mono ?_; rintro r w3 ⟨rfl, hb3⟩; obtain ⟨hc3, hf3⟩ := bcell hb3; have hz3_0 : w.heap.size < w3.heap.size := lt_below hb3 ltg; have hl3_0 := Nat.le_of_lt hz3_0; have hz3_1 : w.heap.size + 1 < w3.heap.size := lt_below hb3 ltg; have hl3_1 := Nat.le_of_lt hz3_1; have hA3 := bnext (w0 := w) bgo hb3; have hs3 := hA3.size; clear hb3)
    | (go_at_call 9; refine (c8 _).mono ?_; rintro r w2 ⟨rfl, hb2⟩; obtain ⟨hc2, hf2⟩ := bcell hb2; have hz2_0 : w.heap.size < w2.heap.size := lt_below hb2 ltg; have hl2_0 := Nat.le_of_lt hz2_0; have hz2_1 : w.heap.size + 1 < w2.heap.size := lt_below hb2 ltg; have hl2_1 := Nat.le_of_lt hz2_1; have hA2 := bnext (w0 := w) bgo hb2; have hs2 := hA2.size; clear hb2)
    | (go_at_call 15; refine (c14 _).mono ?_; rintro r w4 ⟨rfl, rfl⟩)
    | (go_at_call 11; refine (c10 _).mono ?_; rintro r w4 ⟨rfl, rfl⟩)
    | (have := hA5; go_at_call 12; refine (c11b _ (hT.go bgo)).mono ?_; rintro r w6 ⟨rfl, hb6⟩; obtain ⟨hc6, hf6⟩ := bcell hb6; have hz6_0 : w.heap.size < w6.heap.size := lt_below hb6 ltg; have hl6_0 := Nat.le_of_lt hz6_0; have hz6_1 : w.heap.size + 1 < w6.heap.size := lt_below hb6 ltg; have hl6_1 := Nat.le_of_lt hz6_1; have hz6_2 : w5.heap.size < w6.heap.size := lt_below hb6 ltg; have hl6_2 := Nat.le_of_lt hz6_2; have hA6 := bnext (w0 := w) bgo hb6; have hs6 := hA6.size; clear hb6)
    | (go_at_call 12; refine (c11 _ (hT.go bgo)).mono ?_; rintro r w5 ⟨rfl, hb5⟩; obtain ⟨hc5, hf5⟩ := bcell hb5; have hz5_0 : w.heap.size < w5.heap.size := lt_below hb5 ltg; have hl5_0 := Nat.le_of_lt hz5_0; have hz5_1 : w.heap.size + 1 < w5.heap.size := lt_below hb5 ltg; have hl5_1 := Nat.le_of_lt hz5_1; have hA5 := bnext (w0 := w) bgo hb5; have hs5 := hA5.size; clear hb5)
    | (have := hA7; go_at_call 13; refine (c12b _ (hT.go bgo)).mono ?_; rintro r w8 ⟨rfl, hb8⟩; obtain ⟨hc8, hf8⟩ := bcell hb8; have hz8_0 : w.heap.size < w8.heap.size := lt_below hb8 ltg; have hl8_0 := Nat.le_of_lt hz8_0; have hz8_1 : w.heap.size + 1 < w8.heap.size := lt_below hb8 ltg; have hl8_1 := Nat.le_of_lt hz8_1; have hz8_2 : w5.heap.size < w8.heap.size := lt_below hb8 ltg; have hl8_2 := Nat.le_of_lt hz8_2; have hz8_3 : w6.heap.size < w8.heap.size := lt_below hb8 ltg; have hl8_3 := Nat.le_of_lt hz8_3; have hz8_4 : w7.heap.size < w8.heap.size := lt_below hb8 ltg; have hl8_4 := Nat.le_of_lt hz8_4; have hA8 := bnext (w0 := w) bgo hb8; have hs8 := hA8.size; clear hb8)
    | (go_at_call 13; refine (c12 _ (hT.go bgo)).mono ?_; rintro r w7 ⟨rfl, hb7⟩; obtain ⟨hc7, hf7⟩ := bcell hb7; have hz7_0 : w.heap.size < w7.heap.size := lt_below hb7 ltg; have hl7_0 := Nat.le_of_lt hz7_0; have hz7_1 : w.heap.size + 1 < w7.heap.size := lt_below hb7 ltg; have hl7_1 := Nat.le_of_lt hz7_1; have hz7_2 : w5.heap.size < w7.heap.size := lt_below hb7 ltg; have hl7_2 := Nat.le_of_lt hz7_2; have hz7_3 : w6.heap.size < w7.heap.size := lt_below hb7 ltg; have hl7_3 := Nat.le_of_lt hz7_3; have hA7 := bnext (w0 := w) bgo hb7; have hs7 := hA7.size; clear hb7)
    | (have := hA9; go_at_call 16; refine (l2 _).mono ?_; rintro r w10 ⟨rfl, hb10⟩; obtain ⟨hc10, hf10⟩ := bcell hb10; have hz10_0 : w.heap.size < w10.heap.size := lt_below hb10 ltg; have hl10_0 := Nat.le_of_lt hz10_0; have hz10_1 : w.heap.size + 1 < w10.heap.size := lt_below hb10 ltg; have hl10_1 := Nat.le_of_lt hz10_1; have hz10_2 : w7.heap.size < w10.heap.size := lt_below hb10 ltg; have hl10_2 := Nat.le_of_lt hz10_2; have hz10_3 : w8.heap.size < w10.heap.size := lt_below hb10 ltg; have hl10_3 := Nat.le_of_lt hz10_3; have hA10 := bnext (w0 := w) bgo hb10; have hs10 := hA10.size; clear hb10)
    | (go_at_call 16; refine (l1 _).mono ?_; rintro r w9 ⟨rfl, hb9⟩; obtain ⟨hc9, hf9⟩ := bcell hb9; have hz9_0 : w.heap.size < w9.heap.size := lt_below hb9 ltg; have hl9_0 := Nat.le_of_lt hz9_0; have hz9_1 : w.heap.size + 1 < w9.heap.size := lt_below hb9 ltg; have hl9_1 := Nat.le_of_lt hz9_1; have hz9_2 : w7.heap.size < w9.heap.size := lt_below hb9 ltg; have hl9_2 := Nat.le_of_lt hz9_2; have hz9_3 : w8.heap.size < w9.heap.size := lt_below hb9 ltg; have hl9_3 := Nat.le_of_lt hz9_3; have hA9 := bnext (w0 := w) bgo hb9; have hs9 := hA9.size; clear hb9))
  go_ret
  exact ⟨by first | rfl | simp, bgo⟩
set_option maxHeartbeats 8000000 in
theorem cris_g
    (l1 : ∀ W, Calls Tryd.prog 16 #[A4 A, A4 B] W fun r w' => r = .returned (.bool false) ∧ Below W.heap.size W w')
    (l2 : ∀ W, Calls Tryd.prog 16 #[A4 B, A4 A] W fun r w' => r = .returned (.bool true) ∧ Below W.heap.size W w')
    (l3 : ∀ W, Calls Tryd.prog 16 #[A4 V, A4 V'] W fun r w' => r = .returned (.bool false) ∧ Below W.heap.size W w') :
    Calls Tryd.prog 6 #[.int .i64 m, .int .i64 t, .int .i64 d, A4 A, A4 B] w fun r w' => r = .returned (.bool true) ∧ Below w.heap.size w w' := by
  subst hs hs'
  go_enter Tryd.func6, Tryd.ntmps6
  go_wp2_with (first
    | (go_at_call 8; refine (c7 _ bgo).mono ?_; rintro r w1 ⟨rfl, hb1⟩; obtain ⟨hc1, hf1⟩ := bcell hb1; have hz1_0 : w.heap.size < w1.heap.size := lt_below hb1 ltg; have hl1_0 := Nat.le_of_lt hz1_0; have hz1_1 : w.heap.size + 1 < w1.heap.size := lt_below hb1 ltg; have hl1_1 := Nat.le_of_lt hz1_1; have hA1 := bnext (w0 := w) bgo hb1; have hs1 := hA1.size; clear hb1)
    | (have := hA2; go_at_call 9; refine (c8b _).mono ?_; rintro r w3 ⟨rfl, hb3⟩; obtain ⟨hc3, hf3⟩ := bcell hb3; have hz3_0 : w.heap.size < w3.heap.size := lt_below hb3 ltg; have hl3_0 := Nat.le_of_lt hz3_0; have hz3_1 : w.heap.size + 1 < w3.heap.size := lt_below hb3 ltg; have hl3_1 := Nat.le_of_lt hz3_1; have hA3 := bnext (w0 := w) bgo hb3; have hs3 := hA3.size; clear hb3)
    | (go_at_call 9; refine (c8 _).mono ?_; rintro r w2 ⟨rfl, hb2⟩; obtain ⟨hc2, hf2⟩ := bcell hb2; have hz2_0 : w.heap.size < w2.heap.size := lt_below hb2 ltg; have hl2_0 := Nat.le_of_lt hz2_0; have hz2_1 : w.heap.size + 1 < w2.heap.size := lt_below hb2 ltg; have hl2_1 := Nat.le_of_lt hz2_1; have hA2 := bnext (w0 := w) bgo hb2; have hs2 := hA2.size; clear hb2)
    | (go_at_call 15; refine (c14 _).mono ?_; rintro r w4 ⟨rfl, rfl⟩)
    | (go_at_call 11; refine (c10 _).mono ?_; rintro r w4 ⟨rfl, rfl⟩)
    | (have := hA5; go_at_call 12; refine (c11b _ (hT.go bgo)).mono ?_; rintro r w6 ⟨rfl, hb6⟩; obtain ⟨hc6, hf6⟩ := bcell hb6; have hz6_0 : w.heap.size < w6.heap.size := lt_below hb6 ltg; have hl6_0 := Nat.le_of_lt hz6_0; have hz6_1 : w.heap.size + 1 < w6.heap.size := lt_below hb6 ltg; have hl6_1 := Nat.le_of_lt hz6_1; have hz6_2 : w5.heap.size < w6.heap.size := lt_below hb6 ltg; have hl6_2 := Nat.le_of_lt hz6_2; have hA6 := bnext (w0 := w) bgo hb6; have hs6 := hA6.size; clear hb6)
    | (go_at_call 12; refine (c11 _ (hT.go bgo)).mono ?_; rintro r w5 ⟨rfl, hb5⟩; obtain ⟨hc5, hf5⟩ := bcell hb5; have hz5_0 : w.heap.size < w5.heap.size := lt_below hb5 ltg; have hl5_0 := Nat.le_of_lt hz5_0; have hz5_1 : w.heap.size + 1 < w5.heap.size := lt_below hb5 ltg; have hl5_1 := Nat.le_of_lt hz5_1; have hA5 := bnext (w0 := w) bgo hb5; have hs5 := hA5.size; clear hb5)
    | (have := hA7; go_at_call 13; refine (c12b _ (hT.go bgo)).mono ?_; rintro r w8 ⟨rfl, hb8⟩; obtain ⟨hc8, hf8⟩ := bcell hb8; have hz8_0 : w.heap.size < w8.heap.size := lt_below hb8 ltg; have hl8_0 := Nat.le_of_lt hz8_0; have hz8_1 : w.heap.size + 1 < w8.heap.size := lt_below hb8 ltg; have hl8_1 := Nat.le_of_lt hz8_1; have hz8_2 : w5.heap.size < w8.heap.size := lt_below hb8 ltg; have hl8_2 := Nat.le_of_lt hz8_2; have hz8_3 : w6.heap.size < w8.heap.size := lt_below hb8 ltg; have hl8_3 := Nat.le_of_lt hz8_3; have hz8_4 : w7.heap.size < w8.heap.size := lt_below hb8 ltg; have hl8_4 := Nat.le_of_lt hz8_4; have hA8 := bnext (w0 := w) bgo hb8; have hs8 := hA8.size; clear hb8)
    | (go_at_call 13; refine (c12 _ (hT.go bgo)).mono ?_; rintro r w7 ⟨rfl, hb7⟩; obtain ⟨hc7, hf7⟩ := bcell hb7; have hz7_0 : w.heap.size < w7.heap.size := lt_below hb7 ltg; have hl7_0 := Nat.le_of_lt hz7_0; have hz7_1 : w.heap.size + 1 < w7.heap.size := lt_below hb7 ltg; have hl7_1 := Nat.le_of_lt hz7_1; have hz7_2 : w5.heap.size < w7.heap.size := lt_below hb7 ltg; have hl7_2 := Nat.le_of_lt hz7_2; have hz7_3 : w6.heap.size < w7.heap.size := lt_below hb7 ltg; have hl7_3 := Nat.le_of_lt hz7_3; have hA7 := bnext (w0 := w) bgo hb7; have hs7 := hA7.size; clear hb7)
    | (have := hA10; go_at_call 16; refine (l3 _).mono ?_; rintro r w11 ⟨rfl, hb11⟩; obtain ⟨hc11, hf11⟩ := bcell hb11; have hz11_0 : w.heap.size < w11.heap.size := lt_below hb11 ltg; have hl11_0 := Nat.le_of_lt hz11_0; have hz11_1 : w.heap.size + 1 < w11.heap.size := lt_below hb11 ltg; have hl11_1 := Nat.le_of_lt hz11_1; have hz11_2 : w7.heap.size < w11.heap.size := lt_below hb11 ltg; have hl11_2 := Nat.le_of_lt hz11_2; have hz11_3 : w8.heap.size < w11.heap.size := lt_below hb11 ltg; have hl11_3 := Nat.le_of_lt hz11_3; have hA11 := bnext (w0 := w) bgo hb11; have hs11 := hA11.size; clear hb11)
    | (have := hA9; go_at_call 16; refine (l2 _).mono ?_; rintro r w10 ⟨rfl, hb10⟩; obtain ⟨hc10, hf10⟩ := bcell hb10; have hz10_0 : w.heap.size < w10.heap.size := lt_below hb10 ltg; have hl10_0 := Nat.le_of_lt hz10_0; have hz10_1 : w.heap.size + 1 < w10.heap.size := lt_below hb10 ltg; have hl10_1 := Nat.le_of_lt hz10_1; have hz10_2 : w7.heap.size < w10.heap.size := lt_below hb10 ltg; have hl10_2 := Nat.le_of_lt hz10_2; have hz10_3 : w8.heap.size < w10.heap.size := lt_below hb10 ltg; have hl10_3 := Nat.le_of_lt hz10_3; have hA10 := bnext (w0 := w) bgo hb10; have hs10 := hA10.size; clear hb10)
    | (go_at_call 16; refine (l1 _).mono ?_; rintro r w9 ⟨rfl, hb9⟩; obtain ⟨hc9, hf9⟩ := bcell hb9; have hz9_0 : w.heap.size < w9.heap.size := lt_below hb9 ltg; have hl9_0 := Nat.le_of_lt hz9_0; have hz9_1 : w.heap.size + 1 < w9.heap.size := lt_below hb9 ltg; have hl9_1 := Nat.le_of_lt hz9_1; have hz9_2 : w7.heap.size < w9.heap.size := lt_below hb9 ltg; have hl9_2 := Nat.le_of_lt hz9_2; have hz9_3 : w8.heap.size < w9.heap.size := lt_below hb9 ltg; have hl9_3 := Nat.le_of_lt hz9_3; have hA9 := bnext (w0 := w) bgo hb9; have hs9 := hA9.size; clear hb9))
  go_ret
  exact ⟨by first | rfl | simp, bgo⟩
end
section
variable (m t d : Int) (A : Nat) (w : World) (hT : Tab w)
  (c7 : ∀ W, Below w.heap.size w W → Calls Tryd.prog 8 #[] W fun r w' => r = .returned (.bool true) ∧ Below W.heap.size W w')
include hT c7
set_option maxHeartbeats 8000000 in
theorem cris_e (c x : Int) (g : Bool) (k V : Nat) (F : Int) (hc : (c == 3) = false)
    (c8 : ∀ W, Calls Tryd.prog 9 #[.int .i64 m, A4 A] W fun r w' => r = .returned (.bool true) ∧ Below W.heap.size W w')
    (c14 : ∀ W, Calls Tryd.prog 15 #[.int .i64 t] W fun r w' => r = .returned (.bool true) ∧ W = w')
    (c10 : ∀ W, Calls Tryd.prog 11 #[.int .i64 d] W fun r w' => r = .returned (.bool true) ∧ W = w')
    (c11 : ∀ W, Tab W → Calls Tryd.prog 12 #[.int .i64 m, A4 A] W fun r w' => r = .returned (.tuple #[DV c false g x k, .int .i64 0]) ∧ Below W.heap.size W w')
    (c12 : ∀ W, Tab W → Calls Tryd.prog 13 #[.int .i64 m, .int .i64 t, .int .i64 d, A4 A] W fun r w' => r = .returned (.tuple #[A4 V, .int .i64 F, .int .i64 0]) ∧ Below W.heap.size W w')
    (l1 : ∀ W, Calls Tryd.prog 16 #[A4 A, A4 A] W fun r w' => r = .returned (.bool false) ∧ Below W.heap.size W w') :
    Calls Tryd.prog 6 #[.int .i64 m, .int .i64 t, .int .i64 d, A4 A, A4 A] w fun r w' => r = .returned (.bool true) ∧ Below w.heap.size w w' := by
  have hQ := A4_self A
  have hR := A4_self V
  go_enter Tryd.func6, Tryd.ntmps6
  go_wp2_with (first
    | (go_at_call 8; refine (c7 _ bgo).mono ?_; rintro r w1 ⟨rfl, hb1⟩; obtain ⟨hc1, hf1⟩ := bcell hb1; have hz1_0 : w.heap.size < w1.heap.size := lt_below hb1 ltg; have hl1_0 := Nat.le_of_lt hz1_0; have hz1_1 : w.heap.size + 1 < w1.heap.size := lt_below hb1 ltg; have hl1_1 := Nat.le_of_lt hz1_1; have hA1 := bnext (w0 := w) bgo hb1; have hs1 := hA1.size; clear hb1)
    | (have := hA2; go_at_call 9; refine (c8 _).mono ?_; rintro r w3 ⟨rfl, hb3⟩; obtain ⟨hc3, hf3⟩ := bcell hb3; have hz3_0 : w.heap.size < w3.heap.size := lt_below hb3 ltg; have hl3_0 := Nat.le_of_lt hz3_0; have hz3_1 : w.heap.size + 1 < w3.heap.size := lt_below hb3 ltg; have hl3_1 := Nat.le_of_lt hz3_1; have hA3 := bnext (w0 := w) bgo hb3; have hs3 := hA3.size; clear hb3)
    | (go_at_call 9; refine (c8 _).mono ?_; rintro r w2 ⟨rfl, hb2⟩; obtain ⟨hc2, hf2⟩ := bcell hb2; have hz2_0 : w.heap.size < w2.heap.size := lt_below hb2 ltg; have hl2_0 := Nat.le_of_lt hz2_0; have hz2_1 : w.heap.size + 1 < w2.heap.size := lt_below hb2 ltg; have hl2_1 := Nat.le_of_lt hz2_1; have hA2 := bnext (w0 := w) bgo hb2; have hs2 := hA2.size; clear hb2)
    | (go_at_call 15; refine (c14 _).mono ?_; rintro r w4 ⟨rfl, rfl⟩)
    | (go_at_call 11; refine (c10 _).mono ?_; rintro r w4 ⟨rfl, rfl⟩)
    | (have := hA5; go_at_call 12; refine (c11 _ (hT.go bgo)).mono ?_; rintro r w6 ⟨rfl, hb6⟩; obtain ⟨hc6, hf6⟩ := bcell hb6; have hz6_0 : w.heap.size < w6.heap.size := lt_below hb6 ltg; have hl6_0 := Nat.le_of_lt hz6_0; have hz6_1 : w.heap.size + 1 < w6.heap.size := lt_below hb6 ltg; have hl6_1 := Nat.le_of_lt hz6_1; have hz6_2 : w5.heap.size < w6.heap.size := lt_below hb6 ltg; have hl6_2 := Nat.le_of_lt hz6_2; have hA6 := bnext (w0 := w) bgo hb6; have hs6 := hA6.size; clear hb6)
    | (go_at_call 12; refine (c11 _ (hT.go bgo)).mono ?_; rintro r w5 ⟨rfl, hb5⟩; obtain ⟨hc5, hf5⟩ := bcell hb5; have hz5_0 : w.heap.size < w5.heap.size := lt_below hb5 ltg; have hl5_0 := Nat.le_of_lt hz5_0; have hz5_1 : w.heap.size + 1 < w5.heap.size := lt_below hb5 ltg; have hl5_1 := Nat.le_of_lt hz5_1; have hA5 := bnext (w0 := w) bgo hb5; have hs5 := hA5.size; clear hb5)
    | (have := hA7; go_at_call 13; refine (c12 _ (hT.go bgo)).mono ?_; rintro r w8 ⟨rfl, hb8⟩; obtain ⟨hc8, hf8⟩ := bcell hb8; have hz8_0 : w.heap.size < w8.heap.size := lt_below hb8 ltg; have hl8_0 := Nat.le_of_lt hz8_0; have hz8_1 : w.heap.size + 1 < w8.heap.size := lt_below hb8 ltg; have hl8_1 := Nat.le_of_lt hz8_1; have hz8_2 : w5.heap.size < w8.heap.size := lt_below hb8 ltg; have hl8_2 := Nat.le_of_lt hz8_2; have hz8_3 : w6.heap.size < w8.heap.size := lt_below hb8 ltg; have hl8_3 := Nat.le_of_lt hz8_3; have hz8_4 : w7.heap.size < w8.heap.size := lt_below hb8 ltg; have hl8_4 := Nat.le_of_lt hz8_4; have hA8 := bnext (w0 := w) bgo hb8; have hs8 := hA8.size; clear hb8)
    | (go_at_call 13; refine (c12 _ (hT.go bgo)).mono ?_; rintro r w7 ⟨rfl, hb7⟩; obtain ⟨hc7, hf7⟩ := bcell hb7; have hz7_0 : w.heap.size < w7.heap.size := lt_below hb7 ltg; have hl7_0 := Nat.le_of_lt hz7_0; have hz7_1 : w.heap.size + 1 < w7.heap.size := lt_below hb7 ltg; have hl7_1 := Nat.le_of_lt hz7_1; have hz7_2 : w5.heap.size < w7.heap.size := lt_below hb7 ltg; have hl7_2 := Nat.le_of_lt hz7_2; have hz7_3 : w6.heap.size < w7.heap.size := lt_below hb7 ltg; have hl7_3 := Nat.le_of_lt hz7_3; have hA7 := bnext (w0 := w) bgo hb7; have hs7 := hA7.size; clear hb7)
    | (have := hA9; go_at_call 16; refine (l1 _).mono ?_; rintro r w10 ⟨rfl, hb10⟩; obtain ⟨hc10, hf10⟩ := bcell hb10; have hz10_0 : w.heap.size < w10.heap.size := lt_below hb10 ltg; have hl10_0 := Nat.le_of_lt hz10_0; have hz10_1 : w.heap.size + 1 < w10.heap.size := lt_below hb10 ltg; have hl10_1 := Nat.le_of_lt hz10_1; have hz10_2 : w7.heap.size < w10.heap.size := lt_below hb10 ltg; have hl10_2 := Nat.le_of_lt hz10_2; have hz10_3 : w8.heap.size < w10.heap.size := lt_below hb10 ltg; have hl10_3 := Nat.le_of_lt hz10_3; have hA10 := bnext (w0 := w) bgo hb10; have hs10 := hA10.size; clear hb10)
    | (go_at_call 16; refine (l1 _).mono ?_; rintro r w9 ⟨rfl, hb9⟩; obtain ⟨hc9, hf9⟩ := bcell hb9; have hz9_0 : w.heap.size < w9.heap.size := lt_below hb9 ltg; have hl9_0 := Nat.le_of_lt hz9_0; have hz9_1 : w.heap.size + 1 < w9.heap.size := lt_below hb9 ltg; have hl9_1 := Nat.le_of_lt hz9_1; have hz9_2 : w7.heap.size < w9.heap.size := lt_below hb9 ltg; have hl9_2 := Nat.le_of_lt hz9_2; have hz9_3 : w8.heap.size < w9.heap.size := lt_below hb9 ltg; have hl9_3 := Nat.le_of_lt hz9_3; have hA9 := bnext (w0 := w) bgo hb9; have hs9 := hA9.size; clear hb9))
  go_ret
  exact ⟨by first | rfl | simp, bgo⟩
end
theorem binconvRises_any (m t d : Int) (A B : Nat) (w : World) (hT : Tab w) (hA : A < 2 ^ 256) (hB : B < 2 ^ 256) : Calls Tryd.prog 6 #[.int .i64 m, .int .i64 t, .int .i64 d, A4 A, A4 B] w fun r w' => r = .returned (.bool true) ∧ Below w.heap.size w w' := by
  have c7 := fun W (hW : Below w.heap.size w W) => awake12 W (hT.go hW)
  have c8 := fun W => rgood_any m A hA W
  have c8b := fun W => rgood_any m B hB W
  have c14 : ∀ W, Calls Tryd.prog 15 #[.int .i64 t] W fun r w' => r = .returned (.bool (decide (binN t))) ∧ W = w' := fun W => (rbinary_any t W).mono fun r w' h => ⟨h.1, h.2.symm⟩
  have c10 := fun W => rdir12 d W
  by_cases h : goodN m A ∧ goodN m B ∧ binN t ∧ knB d
  · obtain ⟨h0, h1, h2, h3⟩ := h
    have g0 : cnG m t d A := ⟨h0, h2, h3⟩
    have g1 : cnG m t d B := ⟨h1, h2, h3⟩
    rw [decide_eq_true h0] at c8
    rw [decide_eq_true h1] at c8b
    rw [decide_eq_true h2] at c14
    rw [decide_eq_true h3] at c10
    have c11 := fun W h => unpack_any m A W h hA
    rw [show unE m A = 0 from if_pos h0] at c11
    have c11b := fun W h => unpack_any m B W h hB
    rw [show unE m B = 0 from if_pos h1] at c11b
    have c12 := fun W hh => conv_v m t d A W hh hA
    rw [show cnV m t d A = cvV t d (unD m A) from if_pos g0, show cnF m t d A = cvF t d (unD m A) from if_pos g0, show cnE m t d A = 0 from if_pos g0] at c12
    have c12b := fun W hh => conv_v m t d B W hh hB
    rw [show cnV m t d B = cvV t d (unD m B) from if_pos g1, show cnF m t d B = cvF t d (unD m B) from if_pos g1, show cnE m t d B = 0 from if_pos g1] at c12b
    have i0 := und_is h0
    have i1 := und_is h1
    have k0 := (back_un h0).2
    have k1 := (back_un h1).2
    have w0 := good_256 (cv_good d h2 (unD m A))
    have w1 := good_256 (cv_good d h2 (unD m B))
    by_cases hs : (unD m A).c = 3 ∨ (unD m B).c = 3 ∨ (unD m A).s = true ∨ (unD m B).s = true
    · refine cris_s m t d A B w hT c7 _ _ _ _ _ _ _ _ _ _ c8 c8b c14 c10 c11 c11b ?_
      by_cases a : (unD m A).c = 3
      · exact Or.inl (by simpa using a)
      · refine Or.inr ⟨by simpa using a, ?_⟩
        by_cases b : (unD m B).c = 3
        · exact Or.inl (by simpa using b)
        · refine Or.inr ⟨by simpa using b, ?_⟩
          cases e1 : (unD m A).s
          · cases e2 : (unD m B).s
            · simp [a, b, e1, e2] at hs
            · exact Or.inr ⟨rfl, rfl⟩
          · exact Or.inl rfl
    · have n0 : (unD m A).c ≠ 3 := fun q => hs (Or.inl q)
      have n1 : (unD m B).c ≠ 3 := fun q => hs (Or.inr (Or.inl q))
      have s0 : (unD m A).s = false := by
        cases e : (unD m A).s
        · rfl
        · exact absurd (Or.inr (Or.inr (Or.inl e))) hs
      have s1 : (unD m B).s = false := by
        cases e : (unD m B).s
        · rfl
        · exact absurd (Or.inr (Or.inr (Or.inr e))) hs
      have key : ∀ X Y : Dat, isD (fN m) (leastN m) (mostN m) X → isD (fN m) (leastN m) (mostN m) Y → X.c ≠ 3 → Y.c ≠ 3 → X.s = false → Y.s = false → pkV m X ≤ pkV m Y → cvV t d X ≤ cvV t d Y := by
        rintro ⟨a1, a2, a3, a4, a5⟩ ⟨b1, b2, b3, b4, b5⟩ u1 u2 u3 u4 u5 u6 u7
        dsimp only at u3 u4 u5 u6
        subst u5 u6
        exact cv_rise d h0.1 h2 u1 u2 u3 u4 u7
      rcases Nat.lt_trichotomy A B with hlt | heq | hgt
      · have hk := key _ _ i0 i1 n0 n1 s0 s1 (by rw [k0, k1]; omega)
        refine cris_l m t d A B w hT c7 _ _ _ _ _ _ _ _ _ _ c8 c8b c14 c10 c11 c11b (by simpa using n0) (by simpa using n1) s0 s1 _ _ _ _ c12 c12b (fun W => ?_) (fun W => ?_)
        · have := less_v A B W hA hB
          rw [decide_eq_true hlt] at this
          exact this
        · have := less_v _ _ W w1 w0
          rw [decide_eq_false (by omega)] at this
          exact this
      · subst heq
        have c11' : ∀ W, Tab W → Calls Tryd.prog 12 #[.int .i64 m, A4 A] W fun r w' => r = .returned (.tuple #[DV (unD m A).c false (unD m A).g (unD m A).x (unD m A).k, .int .i64 0]) ∧ Below W.heap.size W w' := fun W hh => by
          have := c11 W hh
          rw [show (unD m A).v = DV (unD m A).c (unD m A).s (unD m A).g (unD m A).x (unD m A).k from rfl, s0] at this
          exact this
        refine cris_e m t d A w hT c7 _ _ _ _ _ _ (by simpa using n0) c8 c14 c10 c11' c12 (fun W => ?_)
        have := less_v A A W hA hA
        rw [decide_eq_false (by omega)] at this
        exact this
      · have hk := key _ _ i1 i0 n1 n0 s1 s0 (by rw [k0, k1]; omega)
        refine cris_g m t d A B w hT c7 _ _ _ _ _ _ _ _ _ _ c8 c8b c14 c10 c11 c11b (by simpa using n0) (by simpa using n1) s0 s1 _ _ _ _ c12 c12b (fun W => ?_) (fun W => ?_) (fun W => ?_)
        · have := less_v A B W hA hB
          rw [decide_eq_false (by omega)] at this
          exact this
        · have := less_v B A W hB hA
          rw [decide_eq_true hgt] at this
          exact this
        · have := less_v _ _ W w0 w1
          rw [decide_eq_false (by omega)] at this
          exact this
  · refine cris_n m t d A B w hT c7 _ _ _ _ ?_ c8 c8b c14 c10
    by_cases a0 : goodN m A
    · by_cases a1 : goodN m B
      · by_cases a2 : binN t
        · have a3 : ¬ knB d := fun a3 => h ⟨a0, a1, a2, a3⟩
          rw [decide_eq_false (p := knB d) a3, Bool.and_false]
        · rw [decide_eq_false (p := binN t) a2, Bool.and_false, Bool.false_and]
      · rw [decide_eq_false (p := goodN m B) a1, Bool.and_false, Bool.false_and, Bool.false_and]
    · rw [decide_eq_false (p := goodN m A) a0, Bool.false_and, Bool.false_and, Bool.false_and]
end
section
attribute [local irreducible] W4

theorem cvF_or (t d : Int) (D : Dat) : bits .or .i64 0 (cvF t d D) = cvF t d D := by
  have h : cvF t d D = 0 ∨ cvF t d D = 1 ∨ cvF t d D = 8 ∨ cvF t d D = 10 ∨ cvF t d D = 12 := by
    unfold cvF rdF
    repeat' split
    all_goals simp
  rcases h with h | h | h | h | h <;> rw [h] <;> decide
section
variable (m n t d : Int) (B : Nat) (w : World) (hT : Tab w)
  (c7 : ∀ W, Below w.heap.size w W → Calls Tryd.prog 8 #[] W fun r w' => r = .returned (.bool true) ∧ Below W.heap.size W w')
include hT c7
set_option maxHeartbeats 2000000 in
theorem between_n (b1 b2 b3 b4 : Bool) (hn : (b1 && b2 && b3 && b4) = false)
    (c8 : ∀ W, Calls Tryd.prog 9 #[.int .i64 m, A4 B] W fun r w' => r = .returned (.bool b1) ∧ Below W.heap.size W w')
    (c9 : ∀ W, Calls Tryd.prog 10 #[.int .i64 m, .int .i64 n] W fun r w' => r = .returned (.bool b2) ∧ Below W.heap.size W w')
    (c14 : ∀ W, Calls Tryd.prog 15 #[.int .i64 t] W fun r w' => r = .returned (.bool b3) ∧ W = w')
    (c10 : ∀ W, Calls Tryd.prog 11 #[.int .i64 d] W fun r w' => r = .returned (.bool b4) ∧ W = w') :
    Calls Tryd.prog 4 #[.int .i64 m, .int .i64 n, .int .i64 t, .int .i64 d, A4 B] w fun r w' => r = .returned (.bool true) ∧ Below w.heap.size w w' := by
  cases b1 <;> cases b2 <;> cases b3 <;> cases b4 <;> simp only [Bool.and_self, Bool.and_true, Bool.and_false, Bool.true_and, Bool.false_and, Bool.true_eq_false] at hn
  all_goals (
    clear hn
    go_enter Tryd.func4, Tryd.ntmps4
    go_wp2_with (first
      | (go_at_call 8; refine (c7 _ bgo).mono ?_; rintro r w1 ⟨rfl, hb1⟩; obtain ⟨hc1, hf1⟩ := bcell hb1; have hz1_0 : w.heap.size < w1.heap.size := lt_below hb1 ltg; have hl1_0 := Nat.le_of_lt hz1_0; have hA1 := bnext (w0 := w) bgo hb1; have hs1 := hA1.size; clear hb1)
      | (go_at_call 9; refine (c8 _).mono ?_; rintro r w2 ⟨rfl, hb2⟩; obtain ⟨hc2, hf2⟩ := bcell hb2; have hz2_0 : w.heap.size < w2.heap.size := lt_below hb2 ltg; have hl2_0 := Nat.le_of_lt hz2_0; have hA2 := bnext (w0 := w) bgo hb2; have hs2 := hA2.size; clear hb2)
      | (go_at_call 10; refine (c9 _).mono ?_; rintro r w3 ⟨rfl, hb3⟩; obtain ⟨hc3, hf3⟩ := bcell hb3; have hz3_0 : w.heap.size < w3.heap.size := lt_below hb3 ltg; have hl3_0 := Nat.le_of_lt hz3_0; have hA3 := bnext (w0 := w) bgo hb3; have hs3 := hA3.size; clear hb3)
      | (go_at_call 15; refine (c14 _).mono ?_; rintro r w4 ⟨rfl, rfl⟩)
      | (go_at_call 11; refine (c10 _).mono ?_; rintro r w4 ⟨rfl, rfl⟩))
    go_ret
    exact ⟨rfl, bgo⟩)
set_option maxHeartbeats 4000000 in
theorem between_y (V X : Nat) (F1 F2 F : Int) (hF : bits .or .i64 F1 F2 = F)
    (c8 : ∀ W, Calls Tryd.prog 9 #[.int .i64 m, A4 B] W fun r w' => r = .returned (.bool true) ∧ Below W.heap.size W w')
    (c9 : ∀ W, Calls Tryd.prog 10 #[.int .i64 m, .int .i64 n] W fun r w' => r = .returned (.bool true) ∧ Below W.heap.size W w')
    (c14 : ∀ W, Calls Tryd.prog 15 #[.int .i64 t] W fun r w' => r = .returned (.bool true) ∧ W = w')
    (c10 : ∀ W, Calls Tryd.prog 11 #[.int .i64 d] W fun r w' => r = .returned (.bool true) ∧ W = w')
    (c12 : ∀ W, Tab W → Calls Tryd.prog 13 #[.int .i64 m, .int .i64 n, .int .i64 d, A4 B] W fun r w' => r = .returned (.tuple #[A4 V, .int .i64 F1, .int .i64 0]) ∧ Below W.heap.size W w')
    (c12b : ∀ W, Tab W → Calls Tryd.prog 13 #[.int .i64 n, .int .i64 t, .int .i64 d, A4 V] W fun r w' => r = .returned (.tuple #[A4 X, .int .i64 F2, .int .i64 0]) ∧ Below W.heap.size W w')
    (c12c : ∀ W, Tab W → Calls Tryd.prog 13 #[.int .i64 m, .int .i64 t, .int .i64 d, A4 B] W fun r w' => r = .returned (.tuple #[A4 X, .int .i64 F, .int .i64 0]) ∧ Below W.heap.size W w') :
    Calls Tryd.prog 4 #[.int .i64 m, .int .i64 n, .int .i64 t, .int .i64 d, A4 B] w fun r w' => r = .returned (.bool true) ∧ Below w.heap.size w w' := by
  have hQ := A4_self X
  go_enter Tryd.func4, Tryd.ntmps4
  go_wp2_with (first
    | (go_at_call 8; refine (c7 _ bgo).mono ?_; rintro r w1 ⟨rfl, hb1⟩; obtain ⟨hc1, hf1⟩ := bcell hb1; have hz1_0 : w.heap.size < w1.heap.size := lt_below hb1 ltg; have hl1_0 := Nat.le_of_lt hz1_0; have hA1 := bnext (w0 := w) bgo hb1; have hs1 := hA1.size; clear hb1)
    | (go_at_call 9; refine (c8 _).mono ?_; rintro r w2 ⟨rfl, hb2⟩; obtain ⟨hc2, hf2⟩ := bcell hb2; have hz2_0 : w.heap.size < w2.heap.size := lt_below hb2 ltg; have hl2_0 := Nat.le_of_lt hz2_0; have hA2 := bnext (w0 := w) bgo hb2; have hs2 := hA2.size; clear hb2)
    | (go_at_call 10; refine (c9 _).mono ?_; rintro r w3 ⟨rfl, hb3⟩; obtain ⟨hc3, hf3⟩ := bcell hb3; have hz3_0 : w.heap.size < w3.heap.size := lt_below hb3 ltg; have hl3_0 := Nat.le_of_lt hz3_0; have hA3 := bnext (w0 := w) bgo hb3; have hs3 := hA3.size; clear hb3)
    | (go_at_call 15; refine (c14 _).mono ?_; rintro r w4 ⟨rfl, rfl⟩)
    | (go_at_call 11; refine (c10 _).mono ?_; rintro r w4 ⟨rfl, rfl⟩)
    | (have := hA6; go_at_call 13; refine (c12c _ (hT.go bgo)).mono ?_; rintro r w7 ⟨rfl, hb7⟩; obtain ⟨hc7, hf7⟩ := bcell hb7; have hz7_0 : w.heap.size < w7.heap.size := lt_below hb7 ltg; have hl7_0 := Nat.le_of_lt hz7_0; have hz7_1 : w5.heap.size < w7.heap.size := lt_below hb7 ltg; have hl7_1 := Nat.le_of_lt hz7_1; have hz7_2 : w6.heap.size < w7.heap.size := lt_below hb7 ltg; have hl7_2 := Nat.le_of_lt hz7_2; have hA7 := bnext (w0 := w) bgo hb7; have hs7 := hA7.size; clear hb7)
    | (have := hA5; go_at_call 13; refine (c12b _ (hT.go bgo)).mono ?_; rintro r w6 ⟨rfl, hb6⟩; obtain ⟨hc6, hf6⟩ := bcell hb6; have hz6_0 : w.heap.size < w6.heap.size := lt_below hb6 ltg; have hl6_0 := Nat.le_of_lt hz6_0; have hz6_1 : w5.heap.size < w6.heap.size := lt_below hb6 ltg; have hl6_1 := Nat.le_of_lt hz6_1; have hA6 := bnext (w0 := w) bgo hb6; have hs6 := hA6.size; clear hb6)
    | (go_at_call 13; refine (c12 _ (hT.go bgo)).mono ?_; rintro r w5 ⟨rfl, hb5⟩; obtain ⟨hc5, hf5⟩ := bcell hb5; have hz5_0 : w.heap.size < w5.heap.size := lt_below hb5 ltg; have hl5_0 := Nat.le_of_lt hz5_0; have hA5 := bnext (w0 := w) bgo hb5; have hs5 := hA5.size; clear hb5))
  go_ret
  exact ⟨by first | rfl | simp, bgo⟩
end
theorem binconvBetween_any (m n t d : Int) (B : Nat) (w : World) (hT : Tab w) (hB : B < 2 ^ 256) : Calls Tryd.prog 4 #[.int .i64 m, .int .i64 n, .int .i64 t, .int .i64 d, A4 B] w fun r w' => r = .returned (.bool true) ∧ Below w.heap.size w w' := by
  have c7 := fun W (hW : Below w.heap.size w W) => awake12 W (hT.go hW)
  have c8 := fun W => rgood_any m B hB W
  have c9 := fun W => rholds_v m n W
  have c14 : ∀ W, Calls Tryd.prog 15 #[.int .i64 t] W fun r w' => r = .returned (.bool (decide (binN t))) ∧ W = w' := fun W => (rbinary_any t W).mono fun r w' h => ⟨h.1, h.2.symm⟩
  have c10 := fun W => rdir12 d W
  by_cases h : goodN m B ∧ holdsP m n ∧ binN t ∧ knB d
  · obtain ⟨h1, h2, h3, h4⟩ := h
    rw [decide_eq_true h1] at c8
    rw [decide_eq_true h2] at c9
    rw [decide_eq_true h3] at c14
    rw [decide_eq_true h4] at c10
    have hn := hold_bin h1.1 h2
    have hc : cnG m n d B := ⟨h1, hn, h4⟩
    have hcc : cnG m t d B := ⟨h1, h3, h4⟩
    obtain ⟨D', i1, i2, i3, i4⟩ := cv_widen h1.1 h2 (und_is h1) d
    obtain ⟨g1, g2⟩ := pk_good hn i1
    obtain ⟨j1, j2⟩ := i4 t d
    have hc' : cnG n t d (pkV n D') := ⟨g1, h3, h4⟩
    have c12 := fun W h => conv_v m n d B W h hB
    have c12b := fun W h => conv_v n t d (pkV n D') W h (good_256 g1)
    have c12c := fun W h => conv_v m t d B W h hB
    rw [show cnV m n d B = pkV n D' by unfold cnV; rw [if_pos hc, i2], show cnF m n d B = if (unD m B).g then 1 else 0 by unfold cnF; rw [if_pos hc, i3], show cnE m n d B = 0 from if_pos hc] at c12
    rw [show cnV n t d (pkV n D') = cvV t d (unD m B) by unfold cnV; rw [if_pos hc', g2, j1], show cnF n t d (pkV n D') = if (unD m B).g then 0 else cvF t d (unD m B) by unfold cnF; rw [if_pos hc', g2, j2], show cnE n t d (pkV n D') = 0 from if_pos hc'] at c12b
    rw [show cnV m t d B = cvV t d (unD m B) from if_pos hcc, show cnF m t d B = cvF t d (unD m B) from if_pos hcc, show cnE m t d B = 0 from if_pos hcc] at c12c
    refine between_y m n t d B w hT c7 _ _ _ _ _ ?_ c8 c9 c14 c10 c12 c12b c12c
    have hi := und_is h1
    cases hg : (unD m B).g
    · exact cvF_or t d (unD m B)
    · have e1 : cvF t d (unD m B) = 1 := by
        rcases hi with ⟨_, q, _⟩ | ⟨_, q, _⟩ | ⟨q, _⟩
        · rw [hg] at q; exact absurd q (by decide)
        · rw [hg] at q; exact absurd q (by decide)
        · unfold cvF
          rw [if_neg (by omega), if_pos q, hg]
          rfl
      show bits .or .i64 1 0 = _
      rw [e1]
      decide
  · refine between_n m n t d B w hT c7 _ _ _ _ ?_ c8 c9 c14 c10
    by_cases a1 : goodN m B
    · by_cases a2 : holdsP m n
      · by_cases a3 : binN t
        · rw [decide_eq_false (p := knB d) (fun a4 => h ⟨a1, a2, a3, a4⟩), Bool.and_false]
        · rw [decide_eq_false (p := binN t) a3, Bool.and_false, Bool.false_and]
      · rw [decide_eq_false (p := holdsP m n) a2, Bool.and_false, Bool.false_and, Bool.false_and]
    · rw [decide_eq_false (p := goodN m B) a1, Bool.false_and, Bool.false_and, Bool.false_and]
end
end Go.Proofs.YtiojbgdfmabjdaaDoor
