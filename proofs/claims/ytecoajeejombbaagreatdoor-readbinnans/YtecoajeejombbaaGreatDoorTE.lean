/-
  What the texts below lack: Hld, Fit, Eq, Bt, Mt, Rg, Ta, Tb.
-/
import Derived.Test.YtecoajeejombbaaGreatDoorJ14
import Derived.Test.YtecoajeejombbaaGreatDoorJ15
import Derived.Test.YtecoajeejombbaaGreatDoorJ11
import Derived.Test.YtecoajeejombbaaGreatDoorJ9
import Derived.Test.YtecoajeejombbaaGreatDoorJ6
import Derived.Test.YtecoajeejombbaaGreatDoorJ3
import Derived.Deep.QuietTactic
import Derived.BigQuiet
import Derived.Test.YtecoajeejombbaaGreatDoorJ16
import Derived.DeepKeys
import Derived.Test.YtecoajeejombbaaGreatDoorJ17
import Derived.Test.YtecoajeejombbaaGreatDoorJ1
import Derived.Test.YtecoajeejombbaaGreatDoorJ19
import Derived.Test.YtecoajeejombbaaGreatDoorJ21
set_option linter.unusedVariables false
set_option linter.unusedSimpArgs false
set_option maxRecDepth 20000
set_option linter.unusedSectionVars false
namespace Go.Proofs.YtecoajeejombbaaGreatDoor
open Go.RowKit

/-- what is between what bounds -/
theorem fields_bounds (n : Int) : (0 ≤ baseN n ∧ baseN n ≤ 10) ∧ (0 ≤ widthN n ∧ widthN n ≤ 256) ∧ (0 ≤ precN n ∧ precN n ≤ 241) ∧ (-17000 ≤ leastN n ∧ leastN n ≤ 0) ∧ (0 ≤ mostN n ∧ mostN n ≤ 17000) := by
  by_cases h : okN n
  · rcases okN_cases h with rfl | rfl | rfl | rfl | rfl | rfl | rfl | rfl | rfl | rfl | rfl | rfl <;> decide
  · obtain ⟨h0, h1, h2, h3, h4, h5, h6, h7, h8, h9⟩ := fields_none h
    rw [h2, h3, h4, h6, h7]; decide
end Go.Proofs.YtecoajeejombbaaGreatDoor

namespace Go.Proofs.YtecoajeejombbaaGreatDoor
open Go.RowKit

theorem num_drewN {w : World} {a : Option Addr} {n c : Nat} {x : Nat → Int} (h : Num w a n c x) (m : Nat) : Num (w.drewN m) a n c x := h
set_option maxHeartbeats 1000000 in
set_option maxHeartbeats 1000000 in
theorem rfits_any (n : Int) (x : Nat → Int) (hx : Words x) (ax : Array Value) (hax : ∀ i, i < 4 → ax[i]? = some (.int .u64 (x i))) (hs : ax.size = 4) (w : World) :
    Calls Tryz.prog 88 #[.int .i64 n, .agg ax] w fun e w' => e = .returned (.bool (decide (fitsP n x))) ∧ Below w.heap.size w w' := by
  have c1 := fun w => rofv_any n w
  have f1 := fields_bounds n
  by_cases hn : okN n
  · have hE : infoE n = 0 := if_pos hn
    rw [hE] at c1
    have hd : decide (fitsP n x) = decide (lenL (lowW x 4) 4 ≤ widthN n) := by unfold fitsP; simp [hn]
    go_enter Tryz.func88, Tryz.ntmps88
    go_wp2_with (go_at_call 25; refine (c1 _).mono ?_; rintro e w1 ⟨rfl, hb⟩)
    have hN := ((box_num hx hax hb).next (below1' w1 (.cells #[.int .i64 (numN n), .string (nameN n), .int .i64 (baseN n), .int .i64 (widthN n), .int .i64 (precN n), .int .i64 (expN n), .int .i64 (leastN n), .int .i64 (mostN n), .int .i64 (payN n), .bool (denseN n)] 56)))
    have cl := fun m => (rlen_num _ _ _ _ _ (by decide) (num_drewN hN m)).mono (fun e w' h => (⟨h.1, h.2.symm⟩ : e = .returned (.int .i64 (lenL (lowW x 4) 4)) ∧ w' = _))
    clear hN
    go_quiet ((go_at_call 26; exact Calls.quiet_of_same (cl _)))
    all_goals
      go_wp2
      go_ret
      refine ⟨?_, below_drewN (((below1' w _).trans (hb.mono (below1' w _).size)).alloc (Nat.le_trans (below1' w _).size hb.size) _)⟩
      rw [hd]
      rfl
  · have hE : infoE n = 1 := if_neg hn
    rw [hE] at c1
    have hd : decide (fitsP n x) = false := decide_eq_false fun h => hn h.1
    rw [hd]
    go_enter Tryz.func88, Tryz.ntmps88
    go_wp2_with (go_at_call 25; refine (c1 _).mono ?_; rintro e w1 ⟨rfl, hb⟩)
    go_quiet (fail)
    all_goals
      go_wp2
      go_ret
      exact ⟨rfl, below_drewN (((below1' w _).trans (hb.mono (below1' w _).size)).alloc (Nat.le_trans (below1' w _).size hb.size) _)⟩

end Go.Proofs.YtecoajeejombbaaGreatDoor

namespace Go.Proofs.YtecoajeejombbaaGreatDoor
open Go.RowKit

theorem eq27d (d : Nat) (c c' : Int) (s s' g g' : Bool) (x x' : Int) (a0 a1 a2 a3 b0 b1 b2 b3 : Int) (w : World) :
    Sem.run Tryz.prog (Op.equalIn (d + 2 + 1) 37 (.agg #[.int .i64 c, .bool s, .bool g, .int .i64 x, .int .u64 a0, .int .u64 a1, .int .u64 a2, .int .u64 a3]) (.agg #[.int .i64 c', .bool s', .bool g', .int .i64 x', .int .u64 b0, .int .u64 b1, .int .u64 b2, .int .u64 b3])) w = .ok (decide (c = c' ∧ s = s' ∧ g = g' ∧ x = x' ∧ a0 = b0 ∧ a1 = b1 ∧ a2 = b2 ∧ a3 = b3)) w := by
  have hst : Tryz.prog.stoodInHeld 37 = false := by kernel_rfl
  have h24 := eq24d d a0 a1 a2 a3 b0 b1 b2 b3 w
  have hp3 : ∀ (xs : Array Value) (o : Nat) (v : Value), xs[o]? = some v → Sem.run Tryz.prog (part 3 xs o) w = .ok v w := fun xs o v h => by simp [go_sem, part, h]
  rw [Op.equalIn]
  simp only [Sem.run_bind, run_underlying Tryz.underlying37, Result.andThen_ok]
  have hprog : Sem.run Tryz.prog program w = .ok Tryz.prog w := rfl
  rw [hprog]
  simp only [Result.andThen_ok, hst, Bool.false_eq_true, if_false]
  simp [List.forIn_toArray, List.forIn_cons, go_sem, h24]
  by_cases h1 : c = c'
  · by_cases h2 : s = s'
    · by_cases h3 : g = g'
      · by_cases h4 : x = x'
        · by_cases h5 : a0 = b0 <;> by_cases h6 : a1 = b1 <;> by_cases h7 : a2 = b2 <;> by_cases h8 : a3 = b3 <;> simp [h1, h2, h3, h4, h5, h6, h7, h8]
        · simp [h1, h2, h3, h4]
      · simp [h1, h2, h3]
    · simp [h1, h2]
  · simp [h1]
theorem eq27 (c c' : Int) (s s' g g' : Bool) (x x' : Int) (a0 a1 a2 a3 b0 b1 b2 b3 : Int) (w : World) :
    Sem.run Tryz.prog (Op.equalIn 10000 37 (.agg #[.int .i64 c, .bool s, .bool g, .int .i64 x, .int .u64 a0, .int .u64 a1, .int .u64 a2, .int .u64 a3]) (.agg #[.int .i64 c', .bool s', .bool g', .int .i64 x', .int .u64 b0, .int .u64 b1, .int .u64 b2, .int .u64 b3])) w = .ok (decide (c = c' ∧ s = s' ∧ g = g' ∧ x = x' ∧ a0 = b0 ∧ a1 = b1 ∧ a2 = b2 ∧ a3 = b3)) w :=
  eq27d 9997 c c' s s' g g' x x' a0 a1 a2 a3 b0 b1 b2 b3 w
end Go.Proofs.YtecoajeejombbaaGreatDoor

namespace Go.Proofs.YtecoajeejombbaaGreatDoor
open Go.RowKit

section
variable (n : Int) (f e : Nat) (l m : Int) (w : World) (hT : Tab w) (c x : Int) (s g : Bool) (k : Nat)
  (c31 : ∀ w, Tab w → Calls Tryz.prog 71 #[.int .i64 n] w fun x w' => x = .returned (.tuple #[LV f e l m, .int .i64 0]) ∧ Below w.heap.size w w')
include hT c31
end
def unE (n : Int) (B : Nat) : Int := if goodN n B then 0 else 1
end Go.Proofs.YtecoajeejombbaaGreatDoor

namespace Go.Proofs.YtecoajeejombbaaGreatDoor

theorem fields_in {f e B : Nat} (hB : B < 2 ^ (f + e + 1)) : ∃ S E F, S ≤ 1 ∧ E < 2 ^ e ∧ F < 2 ^ f ∧ B = E * 2 ^ f + F + S * 2 ^ (f + e) := by
  refine ⟨B / 2 ^ (f + e), B / 2 ^ f % 2 ^ e, B % 2 ^ f, ?_, Nat.mod_lt _ (Nat.two_pow_pos _), Nat.mod_lt _ (Nat.two_pow_pos _), ?_⟩
  · have : B / 2 ^ (f + e) < 2 := Nat.div_lt_of_lt_mul (by rw [Nat.mul_comm]; rw [Nat.pow_succ] at hB; omega)
    omega
  · have h1 := Nat.div_add_mod' B (2 ^ f)
    have h2 := Nat.div_add_mod' (B / 2 ^ f) (2 ^ e)
    rw [Nat.div_div_eq_div_mul, ← Nat.pow_add] at h2
    have h3 : (B / 2 ^ (f + e) * 2 ^ e + B / 2 ^ f % 2 ^ e) * 2 ^ f = B / 2 ^ f * 2 ^ f := by rw [h2]
    rw [Nat.add_mul, Nat.mul_assoc, Nat.mul_comm (2 ^ e) (2 ^ f), ← Nat.pow_add] at h3
    omega
end Go.Proofs.YtecoajeejombbaaGreatDoor

namespace Go.Proofs.YtecoajeejombbaaGreatDoor
open Go.RowKit
attribute [local go_sem ↓] Go.wp_at_zero Go.wp_at_succ

set_option maxHeartbeats 1000000 in
theorem number_nv {K V : Nat} {v : Value} {w : World} (h : NV K V v w) (hK : K < 1000) (hV : V < 9223372036854775808) :
    Calls Tryz.prog 50 #[v] w fun e w' => e = .returned (.int .i64 V) ∧ w' = w := by
  obtain ⟨g, k, cap, z, rfl, hk, hN, hv⟩ := h
  obtain ⟨h1, h2, h3, h4, h5⟩ := hN
  rcases h5 with ⟨h5, _⟩ | ⟨b, off, e, hb, hc⟩
  · cases h5
  · cases e
    rcases Nat.eq_zero_or_pos k with hk0 | hk0
    · subst hk0
      have : V = 0 := by have : val z 0 = 0 := rfl
                         omega
      subst this
      go_enter Tryz.func50, Tryz.ntmps50
      go_wp2
      go_ret
      exact ⟨rfl, rfl⟩
    · have hc0 := hc 0 hk0
      have hz0 := h3 0
      have e0 : z 0 = (V : Int) := by
        have hl := nv_low h3 h4 hv
        obtain ⟨j, rfl⟩ : ∃ j, k = 1 + j := ⟨k - 1, by omega⟩
        have hs := val_split z 1 j
        have hb2 := val_bd (segW_words h3 1 j) j
        have h10 : val z 1 = z 0 := by show val z 0 + z 0 * 18446744073709551616 ^ 0 = z 0; simp [val]
        rw [hv, h10] at hs
        simp only [Int.pow_one] at hs
        have hm : 0 ≤ val (segW z 1 j) j := hb2.1
        by_cases hp : 0 < val (segW z 1 j) j
        · exfalso; omega
        · have : val (segW z 1 j) j = 0 := by omega
          rw [this] at hs; omega
      have hk1 : ¬ ((k : Int) = 0) := by omega
      rw [e0] at hc0
      simp only [Nat.add_zero] at hc0
      have hkb : (k == 0) = false := by simp; omega
      have hki : (0 : Int) < k := by omega
      clear hc h3 h4 hv e0 hz0
      go_enter Tryz.func50, Tryz.ntmps50
      go_wp2
      go_ret
      exact ⟨rfl, rfl⟩
end Go.Proofs.YtecoajeejombbaaGreatDoor

namespace Go.Proofs.YtecoajeejombbaaGreatDoor
open Go.RowKit

def tpN (n : Int) : Nat := (2 ^ eN n - 1) * 2 ^ fN n
def sgN (n : Int) (s : Bool) : Nat := if s then 2 ^ (fN n + eN n) else 0
def rP (n d : Int) (s : Bool) (N D : Nat) (x : Int) : Nat := (rQ n N D x - leastN n).toNat * 2 ^ fN n + rC n d s N D x
def capV (T : Nat) (i : Bool) (p : Nat) : Nat := if T ≤ p then (if i then T else T - 1) else p
/-- what the coefficient is -/
theorem r_coef {n : Int} (d : Int) (s : Bool) {N D : Nat} (x : Int) (hb : binN n) (hN : N ≠ 0) (hD : D ≠ 0) :
    leastN n ≤ rQ n N D x ∧ rC n d s N D x ≤ 2 ^ (fN n + 1) ∧ (rQ n N D x ≠ leastN n → 2 ^ fN n ≤ rC n d s N D x) ∧ ((fN n : Int) + 1 < (bl (rC n d s N D x) : Int) ↔ 2 ^ (fN n + 1) ≤ rC n d s N D x) := by
  have hq : leastN n ≤ rQ n N D x := Int.le_max_left _ _
  have hq2 : ld N D + (rX n N D x - rQ n N D x) ≤ (fN n : Int) := by unfold rQ; omega
  have hlt := nrQ_lt hN hD hq2
  have hge : rQ n N D x ≠ leastN n → 2 ^ fN n ≤ nrQ N D (rX n N D x - rQ n N D x) := fun h => nrQ_ge hN hD (by unfold rQ at h ⊢; omega)
  have hC : rC n d s N D x = nrQ N D (rX n N D x - rQ n N D x) ∨ rC n d s N D x = nrQ N D (rX n N D x - rQ n N D x) + 1 := by
    unfold rC nrC
    cases nrF d s N D (rX n N D x - rQ n N D x)
    · exact Or.inl rfl
    · exact Or.inr rfl
  refine ⟨hq, by omega, fun h => by have := hge h; omega, ?_⟩
  rw [← bl_ge]; omega
theorem r_over {n : Int} (d : Int) (s : Bool) {N D : Nat} (x : Int) (hb : binN n) (hN : N ≠ 0) (hD : D ≠ 0) : (mostN n < rQ' n d s N D x ↔ tpN n ≤ rP n d s N D x) ∧ (¬ mostN n < rQ' n d s N D x → (rQ' n d s N D x - leastN n).toNat * 2 ^ fN n + rC' n d s N D x = rP n d s N D x) := by
  obtain ⟨h1, h2, h3, h4⟩ := r_coef d s x hb hN hD
  have hF := bin_fm hb
  have hp := pow_e hF.e2 hF.e15
  have hm := hF.m
  have hpc : ((2 : Int) ^ eN n) = ((2 ^ eN n : Nat) : Int) := by simp
  rw [hpc] at hp hm
  unfold tpN rP rQ' rC'
  obtain ⟨a, ha⟩ : ∃ a : Nat, rQ n N D x = leastN n + a := ⟨(rQ n N D x - leastN n).toNat, by omega⟩
  rw [ha] at h1 h3 ⊢
  rw [show (leastN n + (a : Int) - leastN n).toNat = a by omega]
  rw [show 2 ^ (fN n + 1) = 2 ^ fN n + 2 ^ fN n by rw [Nat.pow_succ]; omega] at h2 h4
  have hFp : 0 < 2 ^ fN n := Nat.two_pow_pos _
  generalize rC n d s N D x = C at *
  generalize 2 ^ fN n = F at *
  generalize 2 ^ eN n = E at *
  generalize leastN n = l at *
  generalize mostN n = m at *
  obtain ⟨E', hE'⟩ : ∃ E' : Nat, E = E' + 3 := ⟨E - 3, by omega⟩
  subst hE'
  rw [show E' + 3 - 1 = E' + 2 by omega]
  by_cases hu : (fN n : Int) + 1 < (bl C : Int)
  · rw [if_pos hu, if_pos hu]
    have hC : C = F + F := by have := h4.1 hu; omega
    have e1 : a * F + C = (a + 2) * F := by rw [hC, Nat.add_mul]; omega
    rw [e1]
    refine ⟨⟨fun h => Nat.mul_le_mul_right _ (by omega), fun h => ?_⟩, fun h => ?_⟩
    · have := Nat.le_of_mul_le_mul_right h hFp
      omega
    · rw [show (l + (a : Int) + 1 - l).toNat = a + 1 by omega, hC, show (F + F) / 2 = F by omega]
      rw [Nat.add_mul, Nat.add_mul]; omega
  · rw [if_neg hu, if_neg hu]
    have hC : C < F + F := by
      have := mt h4.2 hu; omega
    refine ⟨⟨fun h => ?_, fun h => ?_⟩, fun h => ?_⟩
    · have hCF := h3 (by omega)
      have : (E' + 2) * F ≤ (a + 1) * F := Nat.mul_le_mul_right _ (by omega)
      rw [Nat.add_mul a] at this
      omega
    · rcases Nat.lt_or_ge a (E' + 1) with h5 | h5
      · have : (a + 2) * F ≤ (E' + 2) * F := Nat.mul_le_mul_right _ (by omega)
        rw [Nat.add_mul a] at this
        omega
      · omega
    · rw [show (l + (a : Int) - l).toNat = a by omega]
theorem pk_fin {n : Int} {s : Bool} {q : Int} {c : Nat} (hb : binN n) (h : isD (fN n) (leastN n) (mostN n) ⟨1, s, false, q, c⟩) : pkV n ⟨1, s, false, q, c⟩ = (q - leastN n).toNat * 2 ^ fN n + c + sgN n s := by
  unfold pkV sgN
  rw [if_pos ⟨hb, h⟩]
  unfold pk
  simp
theorem pk_inf {n : Int} {s : Bool} (hb : binN n) : pkV n ⟨2, s, false, 0, 0⟩ = tpN n + sgN n s := by
  unfold pkV sgN tpN
  rw [if_pos ⟨hb, Or.inr (Or.inl ⟨rfl, rfl, rfl, rfl⟩)⟩]
  unfold pk
  simp
theorem lg_top {n : Int} {s : Bool} (hb : binN n) : lgV n s = tpN n - 1 + sgN n s ∧ 1 ≤ tpN n := by
  unfold lgV sgN tpN
  rw [if_pos hb]
  have hF := bin_fm hb
  have hp := pow_e hF.e2 hF.e15
  have hpc : ((2 : Int) ^ eN n) = ((2 ^ eN n : Nat) : Int) := by simp
  rw [hpc] at hp
  have hFp : 0 < 2 ^ fN n := Nat.two_pow_pos _
  generalize 2 ^ fN n = F at *
  generalize 2 ^ eN n = E at *
  obtain ⟨E', rfl⟩ : ∃ E' : Nat, E = E' + 2 := ⟨E - 2, by omega⟩
  rw [show E' + 2 - 2 = E' by omega, show E' + 2 - 1 = E' + 1 by omega, Nat.add_mul]
  omega
theorem r_pat {n : Int} (d : Int) (s : Bool) {N D : Nat} (x : Int) (hb : binN n) (hN : N ≠ 0) (hD : D ≠ 0) : rdV n d s N D x = capV (tpN n) (inB d s) (rP n d s N D x) + sgN n s := by
  obtain ⟨h1, h2⟩ := r_over d s x hb hN hD
  unfold rdV capV
  rw [if_neg hN]
  by_cases ho : mostN n < rQ' n d s N D x
  · rw [if_pos ho, if_pos (h1.1 ho)]
    cases inB d s
    · simp only [Bool.false_eq_true, if_false]; exact (lg_top hb).1
    · simp only [if_true]; exact pk_inf hb
  · rw [if_neg ho, if_neg (mt h1.2 ho), pk_fin hb (r_isD hb hN hD ho), h2 ho]
theorem r_zero {n : Int} (d : Int) (s : Bool) (D : Nat) (x : Int) (hb : binN n) : rdV n d s 0 D x = sgN n s ∧ rdF n d s 0 D x = 0 := by
  have hF := bin_fm hb
  have hp := pow_e hF.e2 hF.e15
  have hm := hF.m
  have hz : isD (fN n) (leastN n) (mostN n) ⟨1, s, false, leastN n, 0⟩ := Or.inl ⟨rfl, rfl, Nat.two_pow_pos _, Int.le_refl _, by show leastN n ≤ mostN n; omega, Or.inr rfl⟩
  unfold rdV rdF
  rw [if_pos rfl, if_pos rfl, pk_fin hb hz]
  simp
theorem r_flag {n : Int} (d : Int) (s : Bool) {N D : Nat} (x : Int) (hb : binN n) (hN : N ≠ 0) (hD : D ≠ 0) : rdF n d s N D x = if tpN n ≤ rP n d s N D x then 10 else if nrR N D (rX n N D x - rQ n N D x) = 0 then 0 else if ld N D + rX n N D x < (fN n : Int) + leastN n then 12 else 8 := by
  obtain ⟨h1, h2⟩ := r_over d s x hb hN hD
  unfold rdF
  rw [if_neg hN]
  by_cases ho : mostN n < rQ' n d s N D x
  · rw [if_pos ho, if_pos (h1.1 ho)]
  · rw [if_neg ho, if_neg (mt h1.2 ho)]
    simp only [decide_eq_true_eq]
theorem tp_lt {n : Int} (hb : binN n) : tpN n < 2 ^ (fN n + eN n) := by
  unfold tpN
  rw [Nat.pow_add, Nat.mul_comm]
  have hE : 0 < 2 ^ eN n := Nat.two_pow_pos _
  exact Nat.mul_lt_mul_of_pos_left (by omega) (Nat.two_pow_pos _)
theorem cap_le (T : Nat) (i : Bool) (p : Nat) : capV T i p ≤ T := by
  unfold capV; split
  · split <;> omega
  · omega
end Go.Proofs.YtecoajeejombbaaGreatDoor

namespace Go.Proofs.YtecoajeejombbaaGreatDoor
open Go.RowKit

def othD (d : Int) : Int := if d = 3 ∨ d = 4 then 7 - d else d
theorem in_turn (d : Int) : inB (othD d) true = inB d false := by
  unfold othD inB
  by_cases h3 : d = 3
  · subst h3; rfl
  · by_cases h4 : d = 4
    · subst h4; rfl
    · simp only [h3, h4, or_self, if_false]
theorem fa_turn (d : Int) (o : Bool) (R D : Nat) : faB (othD d) true o R D = faB d false o R D := by
  unfold faB
  rw [in_turn]
  unfold othD
  by_cases h3 : d = 3
  · subst h3; rfl
  · by_cases h4 : d = 4
    · subst h4; rfl
    · simp only [h3, h4, or_self, if_false]
theorem nrF_turn (d : Int) (N D : Nat) (k : Int) : nrF (othD d) true N D k = nrF d false N D k := fa_turn d _ _ _
theorem rC_turn (n d : Int) (N D : Nat) (x : Int) : rC n (othD d) true N D x = rC n d false N D x := by unfold rC nrC; rw [nrF_turn]
theorem rP_turn (n d : Int) (N D : Nat) (x : Int) : rP n (othD d) true N D x = rP n d false N D x := by unfold rP; rw [rC_turn]
theorem kn_turn (d : Int) : knB (othD d) ↔ knB d := by unfold knB othD; split <;> omega
theorem rd_turn {n : Int} (d : Int) (N : Nat) {D : Nat} (x : Int) (hb : binN n) (hD : D ≠ 0) : rdV n (othD d) true N D x = rdV n d false N D x + 2 ^ (fN n + eN n) ∧ rdF n (othD d) true N D x = rdF n d false N D x ∧ rdV n d false N D x < 2 ^ (fN n + eN n) := by
  by_cases hN : N = 0
  · subst hN
    rw [(r_zero (othD d) true D x hb).1, (r_zero (othD d) true D x hb).2, (r_zero d false D x hb).1, (r_zero d false D x hb).2]
    have := Nat.two_pow_pos (fN n + eN n)
    unfold sgN
    simp only [if_true, Bool.false_eq_true, if_false]
    exact ⟨by omega, trivial, by omega⟩
  · rw [r_pat (othD d) true x hb hN hD, r_pat d false x hb hN hD, r_flag (othD d) true x hb hN hD, r_flag d false x hb hN hD, rP_turn, in_turn]
    unfold sgN
    simp only [if_true, Bool.false_eq_true, if_false, Nat.add_zero]
    exact ⟨trivial, trivial, Nat.lt_of_le_of_lt (cap_le _ _ _) (tp_lt hb)⟩
theorem un_turn {n : Int} {V : Nat} (hb : binN n) (hV : V < 2 ^ (fN n + eN n)) : goodN n V ∧ goodN n (V + 2 ^ (fN n + eN n)) ∧ ∃ c g x k, unD n V = ⟨c, false, g, x, k⟩ ∧ unD n (V + 2 ^ (fN n + eN n)) = ⟨c, true, g, x, k⟩ := by
  have hs : 2 ^ (fN n + eN n + 1) = 2 ^ (fN n + eN n) + 2 ^ (fN n + eN n) := by rw [Nat.pow_succ]; omega
  have g1 : goodN n V := ⟨hb, by omega⟩
  have g2 : goodN n (V + 2 ^ (fN n + eN n)) := ⟨hb, by omega⟩
  refine ⟨g1, g2, ?_⟩
  obtain ⟨S, E, F, hS, hE, hF, hB⟩ := fields_in g1.2
  have hS0 : S = 0 := by
    have : S = 0 ∨ S = 1 := by omega
    rcases this with h | h
    · exact h
    · subst h; omega
  subst hS0
  have e1 : unD n V = mean (fN n) (eN n) (leastN n) 0 E F := by unfold unD; rw [if_pos g1, hB, unp_mean _ (by decide) hE hF]
  have e2 : unD n (V + 2 ^ (fN n + eN n)) = mean (fN n) (eN n) (leastN n) 1 E F := by
    unfold unD; rw [if_pos g2, hB]
    have := unp_mean (leastN n) (show 1 ≤ 1 by decide) hE hF
    rw [← this]
    congr 1
    omega
  rw [e1, e2]
  unfold mean spc
  by_cases h1 : E = 2 ^ eN n - 1
  · rw [if_pos h1, if_pos h1]
    by_cases h2 : F = 0
    · rw [if_pos h2, if_pos h2]; exact ⟨_, _, _, _, rfl, rfl⟩
    · rw [if_neg h2, if_neg h2]
      by_cases h3 : F < 2 ^ (fN n - 1)
      · rw [if_pos h3, if_pos h3]; exact ⟨_, _, _, _, rfl, rfl⟩
      · rw [if_neg h3, if_neg h3]; exact ⟨_, _, _, _, rfl, rfl⟩
  · rw [if_neg h1, if_neg h1]
    by_cases h2 : E = 0
    · rw [if_pos h2, if_pos h2]; exact ⟨_, _, _, _, rfl, rfl⟩
    · rw [if_neg h2, if_neg h2]; exact ⟨_, _, _, _, rfl, rfl⟩
end Go.Proofs.YtecoajeejombbaaGreatDoor
