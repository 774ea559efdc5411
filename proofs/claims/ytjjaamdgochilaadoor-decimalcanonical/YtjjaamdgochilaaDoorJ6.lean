/-
  Texts that the proof leans on, joined: Rgt, Nsr, Dlm, Dst, Dlg, Ndv, Fr.
-/
import Derived.Test.YtjjaamdgochilaaDoorJ5
set_option linter.unusedVariables false
set_option linter.unusedSimpArgs false
set_option maxRecDepth 20000
set_option linter.unusedSectionVars false
namespace Go.Proofs.YtjjaamdgochilaaDoor
open Go.RowKit
attribute [local go_sem] setCell_drewN alloc_drewN

/-- whether a bit goes out that is 1 -/
def goneB (x : Nat → Int) (q r : Nat) : Bool := decide (0 < sizeL x q) || decide (x q % 2 ^ r ≠ 0)
/-- the same, of the words below k -/
def goneK (x : Nat → Int) (q r k : Nat) : Bool := if k ≤ q then decide (0 < sizeL x k) else goneB x q r
theorem goneK_zero (x : Nat → Int) (q r : Nat) : goneK x q r 0 = false := by unfold goneK; rw [if_pos (Nat.zero_le _)]; rfl
theorem goneK_lt0 {x : Nat → Int} {q r k : Nat} (h : k < q) (hz : x k = 0) : goneK x q r (k + 1) = goneK x q r k := by
  unfold goneK; rw [if_pos (by omega), if_pos (by omega)]; simp [sizeL, hz]
theorem goneK_lt1 {x : Nat → Int} {q r k : Nat} (h : k < q) (hz : ¬ x k = 0) : goneK x q r (k + 1) = true := by
  unfold goneK; rw [if_pos (by omega)]; simp [sizeL, hz]
theorem goneK_eq (x : Nat → Int) (k r : Nat) : goneK x k r (k + 1) = (goneK x k r k || decide (x k % 2 ^ r ≠ 0)) := by
  unfold goneK; rw [if_neg (by omega), if_pos (Nat.le_refl _)]; rfl
theorem goneK_gt {x : Nat → Int} {q r k : Nat} (h : q < k) : goneK x q r (k + 1) = goneK x q r k := by
  unfold goneK; rw [if_neg (by omega), if_neg (by omega)]
theorem goneK_end {x : Nat → Int} {q r n : Nat} (h : q < n) : goneK x q r n = goneB x q r := by
  unfold goneK; rw [if_neg (by omega)]
theorem and_mask {y : Int} {r : Nat} (hy : 0 ≤ y ∧ y ≤ 18446744073709551615) (hr : r < 64) : bits BinOp.and IntKind.u64 y (2 ^ r - 1) = y % 2 ^ r := by
  have h1 := p2_pos r
  have h2 := p2_le hr
  rw [u64_and _ _ hy.1 (by omega) (by omega) (by omega)]
  obtain ⟨n, rfl⟩ := Int.eq_ofNat_of_zero_le hy.1
  have e : ((2 : Int) ^ r - 1).toNat = 2 ^ r - 1 := by rw [← powCast]; omega
  rw [e, Int.toNat_natCast, Nat.and_two_pow_sub_one_eq_mod, Int.natCast_emod, powCast]

end Go.Proofs.YtjjaamdgochilaaDoor

namespace Go.Proofs.YtjjaamdgochilaaDoor
open Go.RowKit
/-- what a word sends down into the one below it -/
def dnW (y : Int) (r : Nat) : Int := IntKind.u64.wrap (y * 2 ^ (64 - r))
theorem shr_or {y : Nat → Int} (hy : Words y) {r : Nat} (hr : r < 64) (q i : Nat) : orW (y (q + i) / 2 ^ r) (dnW (y (q + i + 1)) r) = shrW y q r i := by
  unfold shrW dnW
  by_cases h : r = 0
  · subst h
    rw [if_pos rfl, wrap_mod]
    have e : y (q + i + 1) * 2 ^ (64 - 0) % 18446744073709551616 = 0 := Int.mul_emod_left _ _
    rw [e, Int.pow_zero, Int.ediv_one, orW_zero _ (hy _)]
  · rw [if_neg h]
theorem Num.drop {w : World} {b off n c q : Nat} {x : Nat → Int} (h : Num w (some ⟨b, off, none⟩) n c x) (hq : q ≤ n) : Num w (some ⟨b, off + q, none⟩) (n - q) (c - q) (fun i => x (q + i)) := by
  obtain ⟨h1, h2, h3, h4, h5⟩ := h
  refine ⟨by omega, by omega, fun i => h3 (q + i), fun i hi => h4 (q + i) (by omega), ?_⟩
  rcases h5 with ⟨h5, _⟩ | ⟨b', off', h6, h7, h8⟩
  · cases h5
  · cases h6
    exact Or.inr ⟨b, off + q, rfl, h7, fun i hi => by have := h8 (q + i) (by omega); rw [Nat.add_assoc]; exact this⟩
theorem Num.take {w : World} {b off n c q : Nat} {x : Nat → Int} (h : Num w (some ⟨b, off, none⟩) n c x) (hq : q ≤ n) : Num w (some ⟨b, off, none⟩) q c (segW x 0 q) := by
  obtain ⟨h1, h2, h3, h4, h5⟩ := h
  refine ⟨by omega, by omega, segW_words h3 0 q, fun i hi => segW_zero x 0 q i hi, ?_⟩
  rcases h5 with ⟨h5, _⟩ | ⟨b', off', h6, h7, h8⟩
  · cases h5
  · cases h6
    exact Or.inr ⟨b, off, rfl, h7, fun i hi => by rw [h8 i (by omega), segW_lt x 0 q i hi, Nat.zero_add]⟩
end Go.Proofs.YtjjaamdgochilaaDoor

namespace Go.Proofs.YtjjaamdgochilaaDoor
open Go.RowKit

/-- what is left, and the divisor, by their two highest words and what is below -/
structure Gs (R D u1 u0 v1 v0 P a b : Int) : Prop where
  hR : R = a + (u1 * 18446744073709551616 + u0) * (P * 18446744073709551616)
  hD : D = b + (v1 * 18446744073709551616 + v0) * P
  p : 0 < P
  a0 : 0 ≤ a
  a1 : a < P * 18446744073709551616
  b0 : 0 ≤ b
  b1 : b < P
  u1w : 0 ≤ u1 ∧ u1 ≤ 18446744073709551615
  u0w : 0 ≤ u0 ∧ u0 ≤ 18446744073709551615
  v1w : 9223372036854775808 ≤ v1 ∧ v1 ≤ 18446744073709551615
  v0w : 0 ≤ v0 ∧ v0 ≤ 18446744073709551615
  lt : R < D * 18446744073709551616

section
variable {R D u1 u0 v1 v0 P a b : Int}
theorem Gs.highR (h : Gs R D u1 u0 v1 v0 P a b) : R < ((u1 * 18446744073709551616 + u0) + 1) * 18446744073709551616 * P := by
  have := h.hR; have := h.a1
  have e : ((u1 * 18446744073709551616 + u0) + 1) * 18446744073709551616 * P = (u1 * 18446744073709551616 + u0) * (P * 18446744073709551616) + P * 18446744073709551616 := by grind
  omega
theorem Gs.lowD (h : Gs R D u1 u0 v1 v0 P a b) : (v1 * 18446744073709551616 + v0) * P ≤ D := by have := h.hD; have := h.b0; omega
/-- products of a digit with the divisor, from both sides -/
theorem Gs.times_ge (h : Gs R D u1 u0 v1 v0 P a b) {k N : Int} (hk : 0 ≤ k) (hN : N ≤ k * (v1 * 18446744073709551616 + v0)) : N * P ≤ k * D := by
  have h1 : k * ((v1 * 18446744073709551616 + v0) * P) ≤ k * D := Int.mul_le_mul_of_nonneg_left h.lowD hk
  have h2 : N * P ≤ k * (v1 * 18446744073709551616 + v0) * P := Int.mul_le_mul_of_nonneg_right hN (Int.le_of_lt h.p)
  rw [Int.mul_assoc] at h2
  omega
/-- the first guess is not too small -/
theorem Gs.first (h : Gs R D u1 u0 v1 v0 P a b) : R < ((u1 * 18446744073709551616 + u0) / v1 + 1) * D := by
  have hv : 0 < v1 := by have := h.v1w; omega
  have h1 := h.highR
  have hq := Int.lt_mul_ediv_self_add (x := u1 * 18446744073709551616 + u0) hv
  have hq0 : 0 ≤ (u1 * 18446744073709551616 + u0) / v1 := Int.ediv_nonneg (by have := h.u1w; have := h.u0w; omega) (Int.le_of_lt hv)
  have := h.v0w
  generalize (u1 * 18446744073709551616 + u0) / v1 = k at *
  have h2 : (u1 * 18446744073709551616 + u0 + 1) * 18446744073709551616 ≤ (k + 1) * (v1 * 18446744073709551616 + v0) := by
    have e : (k + 1) * (v1 * 18446744073709551616 + v0) = (v1 * k + v1) * 18446744073709551616 + (k + 1) * v0 := by grind
    have : 0 ≤ (k + 1) * v0 := Int.mul_nonneg (by omega) (by omega)
    omega
  have h3 := h.times_ge (by omega) h2
  omega
end

/-- words shifted down: their value -/
theorem dn_val {y : Nat → Int} (hy : Words y) {r : Nat} (hr : r < 64) : ∀ m, val (shrW y 0 r) m * 2 ^ r + y 0 % 2 ^ r = val y m + y m % 2 ^ r * 18446744073709551616 ^ m
  | 0 => by simp [val]
  | m + 1 => by
    have ih := dn_val hy hr m
    have hp := p2_pos r
    have e1 : shrW y 0 r m = y m / 2 ^ r + y (m + 1) % 2 ^ r * 2 ^ (64 - r) := by
      have h1 := shr_or hy hr 0 m
      rw [Nat.zero_add] at h1
      rw [← h1]
      unfold dnW
      have hme : y (m + 1) * 2 ^ (64 - r) % 18446744073709551616 = y (m + 1) % 2 ^ r * 2 ^ (64 - r) := by
        have h3 := Int.mul_emod_mul_of_pos (y (m + 1)) (2 ^ r) (p2_pos (64 - r))
        rw [← p2_split (show r ≤ 64 by omega), Int.mul_comm (y (m + 1)), h3, Int.mul_comm]
      have hlt : y m / 2 ^ r < 2 ^ (64 - r) := by
        refine Int.ediv_lt_of_lt_mul hp ?_
        rw [p2_split (show r ≤ 64 by omega)]
        have := hy m; omega
      by_cases h0 : r = 0
      · subst h0
        have : y (m + 1) * 2 ^ (64 - 0) % 18446744073709551616 = 0 := Int.mul_emod_left _ _
        rw [wrap_mod, this, orW_zero _ (div_word _ _ (hy m))]
        simp [Int.emod_one]
      · have h64 : 64 - (64 - r) = r := by omega
        have ho := or_shl (y := y (m + 1)) (b := y m / 2 ^ r) (r := 64 - r) (by omega) (hy (m + 1)).1 ⟨(div_word _ _ (hy m)).1, hlt⟩
        rw [ho, hme]; omega
    show (val (shrW y 0 r) m + shrW y 0 r m * 18446744073709551616 ^ m) * 2 ^ r + y 0 % 2 ^ r = val y m + y m * 18446744073709551616 ^ m + y (m + 1) % 2 ^ r * 18446744073709551616 ^ (m + 1)
    have e2 := Int.emod_add_mul_ediv (y m) (2 ^ r)
    have e3 := p2_split (show r ≤ 64 by omega)
    rw [e1, Int.pow_succ]
    generalize (18446744073709551616 : Int) ^ m = Q at *
    generalize y m / 2 ^ r = A at *
    generalize y m % 2 ^ r = A' at *
    generalize y (m + 1) % 2 ^ r = C at *
    generalize y 0 % 2 ^ r = Z at *
    generalize (2 : Int) ^ (64 - r) = T at *
    generalize (2 : Int) ^ r = S at *
    grind
end Go.Proofs.YtjjaamdgochilaaDoor

namespace Go.Proofs.YtjjaamdgochilaaDoor
open Go.RowKit

theorem seg_next (z : Nat → Int) (off j : Nat) : val (segW z off (j + 1)) (j + 1) = val (segW z off j) j + z (off + j) * 18446744073709551616 ^ j := by
  show val (segW z off (j + 1)) j + segW z off (j + 1) j * 18446744073709551616 ^ j = _
  rw [segW_lt z off (j + 1) j (by omega), val_congr (x := segW z off (j + 1)) (y := segW z off j) j fun i hi => by rw [segW_lt _ _ _ i (by omega), segW_lt _ _ _ i hi]]
end Go.Proofs.YtjjaamdgochilaaDoor

namespace Go.Proofs.YtjjaamdgochilaaDoor
open Go.RowKit
theorem val_pos {z : Nat → Int} (hz : Words z) : ∀ m, 0 < m → sizeL z m = m → 0 < val z m
  | 0, h, _ => by omega
  | m + 1, _, h => by
    have hne : z m ≠ 0 := by
      intro e
      have : sizeL z (m + 1) = sizeL z m := by simp [sizeL, e]
      have := sizeL_le z m
      omega
    have h1 := (val_bd hz m).1
    have h2 := hz m
    have h3 := pw_pos m
    show 0 < val z m + z m * 18446744073709551616 ^ m
    have : 0 < z m * 18446744073709551616 ^ m := Int.mul_pos (by omega) h3
    omega

theorem val_split (z : Nat → Int) (j : Nat) : ∀ m, val z (j + m) = val z j + val (segW z j m) m * 18446744073709551616 ^ j
  | 0 => by simp [val]
  | m + 1 => by
    rw [seg_next]
    show val z (j + m) + z (j + m) * 18446744073709551616 ^ (j + m) = _
    rw [val_split z j m, Int.pow_add]; grind
end Go.Proofs.YtjjaamdgochilaaDoor

namespace Go.Proofs.YtjjaamdgochilaaDoor
open Go.RowKit
theorem quo_val {x : Nat → Int} {d : Int} (hx : Words x) (hd : 0 < d) (m : Nat) : val (quoW x d m) m = val x m / d ∧ remJ x d m m = val x m % d := by
  have h := div_val x d m m (Nat.le_refl _)
  simp only [Nat.sub_self, val, Int.pow_zero, Int.mul_one, Int.zero_add, Int.sub_zero] at h
  have hb := remJ_bd x d m m hd
  have e := (Int.ediv_emod_unique hd (a := val x m) (r := remJ x d m m) (q := val (quoW x d m) m)).2 ⟨h, hb.1, hb.2⟩
  exact ⟨e.1.symm, e.2.symm⟩
end Go.Proofs.YtjjaamdgochilaaDoor

namespace Go.Proofs.YtjjaamdgochilaaDoor
open Go.RowKit
attribute [local go_sem] setCell_drewN alloc_drewN

theorem owns_base {w : World} {base g k cap : Nat} {xs : List Value} (h : w.ownsRow base 22 1 (.slice (some ⟨g, 0, none⟩) k cap) k xs) : base ≤ g := by
  obtain ⟨hl, h⟩ := h
  rcases h with ⟨h, _⟩ | ⟨g', cap', cur, he, hb, _⟩
  · cases h
  · cases he; exact hb

set_option maxHeartbeats 1000000 in
theorem ftrim_some (b off n c : Nat) (x : Nat → Int) (w : World) (hn : n < 4294967296) (h : Num w (some ⟨b, off, none⟩) n c x) :
    Calls Tryd.prog 58 #[.slice (some ⟨b, off, none⟩) n c] w fun e w' => ∃ g cap, e = .returned (.slice (some ⟨g, 0, none⟩) (sizeL x n) cap) ∧ Num w' (some ⟨g, 0, none⟩) (sizeL x n) cap x ∧ Below w.heap.size w w' ∧ w.heap.size ≤ g := by
  obtain ⟨h1, h2, h3, h4, h5⟩ := h
  have hc : b < w.heap.size ∧ ∀ i, i < n → w.cell? ⟨b, off + i, none⟩ = some (.int .u64 (x i)) := by
    rcases h5 with ⟨h, _⟩ | ⟨b', off', h, hbs, hc⟩
    · cases h
    · cases h; exact ⟨hbs, hc⟩
  obtain ⟨hbs, hc⟩ := hc
  clear h5
  obtain ⟨i0, hi, hz0, hz1, hz2⟩ := info_parts Tryd.info22
  unfold maxLen at h2
  go_enter Tryd.func58, Tryd.ntmps58
  go_wp2
  go_loop [3] (fun t => ∃ k : Nat, k ≤ n ∧ sizeL x k = sizeL x n ∧ (∀ i, k ≤ i → x i = 0) ∧ t = .int .i64 k) (fun t => (intOf t).toNat)
  case atStart => exact ⟨n, Nat.le_refl _, rfl, h4, rfl⟩
  case round =>
    obtain ⟨k, hk, hs, hz, rfl⟩ := hrel
    clear h4
    by_cases h0 : k = 0
    · subst h0
      have HS : Hid (sizeL x n = 0) := hs.symm
      have HN : Hid (Num (w.alloc (.cells #[] 22)) (some ⟨w.heap.size, 0, none⟩) 0 0 x) := ⟨Nat.le_refl _, by unfold maxLen; omega, h3, hz, Or.inr ⟨w.heap.size, 0, rfl, by simp, fun i hi => by omega⟩⟩
      clear hs hz hc h3
      go_wp2
      go_ret
      refine ⟨w.heap.size, 0, ?_, ?_, (Below.refl _ _).alloc (Nat.le_refl _) _, Nat.le_refl _⟩
      · rw [HS.out]; rfl
      · rw [HS.out]; exact HN.out
    · obtain ⟨j, rfl⟩ : ∃ j, k = j + 1 := ⟨k - 1, by omega⟩
      have hcj := hc j (by omega)
      by_cases hzj : x j = 0
      · have HS : Hid (sizeL x j = sizeL x n) := by
          have : sizeL x (j + 1) = sizeL x j := by simp [sizeL, hzj]
          exact this.symm.trans hs
        have HZ : Hid (∀ i, j ≤ i → x i = 0) := fun i hji => by
          by_cases e : i = j
          · rw [e]; exact hzj
          · exact hz i (by omega)
        clear hs hz hc
        go_wp2
        go_round
        case rel => exact ⟨j, by omega, HS.out, HZ.out, by go_num⟩
        case measure => simp [intOf]
      · have HS : Hid (sizeL x n = j + 1) := by
          have : sizeL x (j + 1) = j + 1 := by simp [sizeL, hzj]
          exact hs.symm.trans this
        have HZ : Hid (∀ i, j + 1 ≤ i → x i = 0) := hz
        have HC : Hid (∀ i, i < n → w.cell? ⟨b, off + i, none⟩ = some (.int .u64 (x i))) := hc
        clear hs hz hc
        have HOWN : (w.alloc (.cells #[] 22)).ownsRow w.heap.size 22 1 (.slice (some ⟨w.heap.size, 0, none⟩) 0 0) 0 [] :=
          ⟨rfl, Or.inr ⟨w.heap.size, 0, #[], rfl, Nat.le_refl _, (MapKept.heap_alloc w _).1, Nat.le_refl _, by unfold maxLen; omega, rfl, rfl⟩⟩
        have HNEWS : ∀ (q : Nat) (u : Value), ((List.range (j + 1)).map fun i => Value.int .u64 (x i))[q]? = some u → (w.alloc (.cells #[] 22)).cell? ((⟨b, off, none⟩ : Addr).add q) = some u := by
          intro q u hq
          have hql : q < j + 1 := by
            rcases Nat.lt_or_ge q (j + 1) with h | h
            · exact h
            · rw [List.getElem?_eq_none (by simpa using h)] at hq; cases hq
          have e2 : u = .int .u64 (x q) := by simpa [hql] using hq.symm
          rw [e2]
          have ea : (⟨b, off, none⟩ : Addr).add q = ⟨b, off + q, none⟩ := by simp [Addr.add]
          rw [ea]
          exact (((Below.refl w.heap.size w).alloc (Nat.le_refl _) _).cell (p := ⟨b, off + q, none⟩) hbs).trans (HC.out q (by omega))
        have HONE : ∀ u ∈ ((List.range (j + 1)).map fun i => Value.int .u64 (x i)), u.oneCell' = true := by
          intro u hu
          obtain ⟨q, _, rfl⟩ := List.mem_map.1 hu
          rfl
        go_wp2_with (at_builtin; refine wpList_append_lies _ rfl (.tmp 18) (.tmp 21) 57 rfl w.heap.size 22 i0 (.int .u64 0) 1 8 Tryd.underlying57 hi hz0 hz1 hz2 rfl (by decide) (.slice (some ⟨w.heap.size, 0, none⟩) 0 0) 0 [] rfl HOWN ⟨b, off, none⟩ (j + 1) c ((List.range (j + 1)).map fun i => Value.int .u64 (x i)) rfl (by simp) HNEWS HONE (by omega) (by unfold maxLen; omega) (by omega) (by simp) (w.heap.size + 1) (by simp) ?_; intro g cap w1 hown hgrow hat hlt; clear HOWN HNEWS HONE)
        have hown' : w1.ownsRow w.heap.size 22 1 (.slice (some ⟨g, 0, none⟩) (j + 1) cap) (j + 1) ((List.range (j + 1)).map fun i => Value.int .u64 (x i)) := by
          have e0 : 0 + (j + 1) = j + 1 := by omega
          rw [e0] at hown
          simpa using hown
        have HN := num_of_owns (w := w) h3 HZ.out hown' hlt
        have HFG : w.heap.size ≤ g := owns_base hown'
        have HB : Below w.heap.size w w1 := ((Below.refl _ _).alloc (Nat.le_refl _) _).grown hgrow (by simp) (by intro k hk; cases hk; exact Nat.le_refl _)
        clear hown hown' hgrow
        go_wp2
        go_ret
        refine ⟨g, cap, ?_, ?_, HB, HFG⟩
        · rw [HS.out]; simp
        · rw [HS.out]; exact HN

set_option maxHeartbeats 400000 in
theorem ftrim_nil (x : Nat → Int) (w : World) (hx : ∀ i, x i = 0) :
    Calls Tryd.prog 58 #[.slice none 0 0] w fun e w' => ∃ g cap, e = .returned (.slice (some ⟨g, 0, none⟩) 0 cap) ∧ Num w' (some ⟨g, 0, none⟩) 0 cap x ∧ Below w.heap.size w w' ∧ w.heap.size ≤ g := by
  go_enter Tryd.func58, Tryd.ntmps58
  go_wp2
  go_loop [3] (fun t => t = .int .i64 0) (fun t => (intOf t).toNat)
  case atStart => rfl
  case round =>
    subst hrel
    go_wp2
    go_ret
    refine ⟨w.heap.size, 0, rfl, ?_, (Below.refl _ _).alloc (Nat.le_refl _) _, Nat.le_refl _⟩
    exact ⟨Nat.le_refl _, by unfold maxLen; omega, fun i => by rw [hx i]; decide, fun i _ => hx i, Or.inr ⟨w.heap.size, 0, rfl, by simp, fun i hi => by omega⟩⟩
theorem ftrim_any (a : Option Addr) (n c : Nat) (x : Nat → Int) (w : World) (hn : n < 4294967296) (h : Num w a n c x) :
    Calls Tryd.prog 58 #[.slice a n c] w fun e w' => ∃ g cap, e = .returned (.slice (some ⟨g, 0, none⟩) (sizeL x n) cap) ∧ Num w' (some ⟨g, 0, none⟩) (sizeL x n) cap x ∧ Below w.heap.size w w' ∧ w.heap.size ≤ g := by
  have h' := h
  obtain ⟨h1, h2, h3, h4, h5⟩ := h'
  rcases h5 with ⟨rfl, rfl⟩ | ⟨b, off, rfl, _, _⟩
  · obtain rfl : n = 0 := by omega
    exact ftrim_nil x w (fun i => h4 i (Nat.zero_le _))
  · exact ftrim_some b off n c x w hn h
set_option maxHeartbeats 1000000 in
theorem frless_any (a a' : Option Addr) (n c n' c' : Nat) (x y : Nat → Int) (w : World) (hn : n < 4294967290) (hn' : n' < 4294967290) (h : Num w a n c x) (h' : Num w a' n' c' y) :
    Calls Tryd.prog 63 #[.slice a n c, .slice a' n' c'] w fun e w' => ∃ g k cap, e = .returned (.slice (some ⟨g, 0, none⟩) k cap) ∧ k ≤ max n n' ∧ Num w' (some ⟨g, 0, none⟩) k cap (difZ x y (max n n')) ∧ Below w.heap.size w w' ∧ w.heap.size ≤ g ∧ sizeL (difZ x y (max n n')) k = k := by
  have hx := h.2.2.1
  have hy := h'.2.2.1
  have zx := h.2.2.2.1
  have zy := h'.2.2.2.1
  obtain ⟨M, hM⟩ : ∃ M, max n n' = M := ⟨_, rfl⟩
  have hMi : max (n : Int) n' = (M : Int) := by omega
  have hMb : M < 4294967292 := by omega
  have hmk := fun w => make_any (max (n : Int) n') M hMi (by omega) w
  have hfin : ∀ (ss : Array Value), ss.size = M → (∀ j h, ss[j]'h = Value.int .u64 (difW x y j)) → Num (w.alloc (.cells ss 22)) (some ⟨w.heap.size, 0, none⟩) M M (difZ x y (max n n')) := fun ss h1 h2 => num_of_block (by omega) (difZ_words x y _) (fun i hi => by unfold difZ; rw [if_neg (by omega)]) h1 (fun j hj => by rw [h2 j hj]; unfold difZ; rw [if_pos (by omega)])
  have hw1 := fun (i : Nat) (ss : Array Value) => word_any a n c i x (w.alloc (.cells ss 22)) (h.next (below1 w _))
  have hw2 := fun (i : Nat) (ss : Array Value) => word_any a' n' c' i y (w.alloc (.cells ss 22)) (h'.next (below1 w _))
  have HM : Hid (max n n' = M) := hM
  have HZ : Hid ((arrOf (fun _ => 0) M).size = M ∧ ∀ j h, (arrOf (fun _ => 0) M)[j]'h = Value.int .u64 0) := ⟨arrOf_size _ _, fun j h => arrOf_get _ _ _ _⟩
  clear h h' zx zy hM hMi
  generalize arrOf (fun _ => 0) M = zz at *
  go_enter Tryd.func63, Tryd.ntmps63
  go_wp2
  go_loopw [6, 7, 16, 19] (fun c u7 i u20 wr => ∃ (k : Nat) (ss : Array Value), k ≤ M ∧ i = .int .i64 k ∧ c = .int .u64 (borW x y k) ∧ ss.size = M ∧ (∀ j h, ss[j]'h = Value.int .u64 (if j < k then difW x y j else 0)) ∧ wr = w.alloc (.cells ss 22)) (fun _ _ i _ _ => M - (intOf i).toNat)
  case atStart => exact ⟨0, zz, Nat.zero_le _, rfl, rfl, HZ.out.1, fun j h => by rw [HZ.out.2 j h]; simp, rfl⟩
  case round =>
    obtain ⟨k, ss, hk, rfl, rfl, hsz, hss, rfl⟩ := hrel
    have hcar := borW_01 x y k
    by_cases h8 : k < M
    · have h8i : (k : Int) < M := by omega
      have h8s : k < ss.size := by omega
      have bx := hx k
      have b_y := hy k
      have hsk : ss[k]? = some (.int .u64 0) := by rw [Array.getElem?_eq_getElem h8s, hss k h8s, if_neg (by omega)]
      have hadd := fun w => sub64 (x k) (y k) (borW x y k) bx.1 b_y.1 (by omega) hcar.1 hcar.2 w
      have hwa := hw1 k ss
      have hwb := hw2 k ss
      have HR : Hid (∀ (i : Nat) (h : i < (ss.setIfInBounds k (.int .u64 (difW x y k))).size), (ss.setIfInBounds k (.int .u64 (difW x y k)))[i]'h = Value.int .u64 (if i < k + 1 then difW x y i else 0)) := set_next hss
      clear hss hw1 hw2 hfin hmk hx hy
      go_wp2_with (first | (go_at_call_of 64 (Value.slice a n c); refine hwa.mono ?_; rintro e w' ⟨rfl, rfl⟩) | (go_at_call_of 64 (Value.slice a' n' c'); refine hwb.mono ?_; rintro e w' ⟨rfl, rfl⟩))
      go_roundw
      case rel => exact ⟨k + 1, ss.setIfInBounds k (.int .u64 (difW x y k)), by omega, by go_num, rfl, by simp [hsz], HR.out, rfl⟩
      case measure => simp [intOf]; omega
    · obtain rfl : k = M := by omega
      have hss' : ∀ j h, ss[j]'h = Value.int .u64 (difW x y j) := by
        intro j h; rw [hss j h, if_pos (by omega)]
      have hT := ftrim_any _ _ _ _ _ (by omega) (hfin ss hsz hss')
      have hle := sizeL_le (difZ x y (max n n')) k
      clear hss hss' hw1 hw2 hfin hmk hx hy
      go_wp2_with (go_at_call 58; refine hT.mono ?_; rintro e w1 ⟨g, cap, rfl, hN, hB, hfg⟩)
      go_ret
      exact ⟨g, _, cap, rfl, Nat.le_trans hle (Nat.le_of_eq HM.out.symm), hN, (below1 w _).trans (hB.mono (by simp)), by simp at hfg; omega, sizeL_sizeL _ _⟩
set_option maxHeartbeats 1000000 in
theorem frgt_p (b off n c q r : Nat) (s : Int) (x : Nat → Int) (w : World) (hn : n < 4000000000) (hq0 : q < 100000) (hr0 : r < 64) (hrp : 0 < r) (hq : s / 64 = q) (hr : s % 64 = r) (hs : 0 ≤ s) (hqn : q < n) (h : Num w (some ⟨b, off, none⟩) n c x) :
    Calls Tryd.prog 33 #[.slice (some ⟨b, off, none⟩) n c, .int .i64 s] w fun e w' => ∃ g k cap, e = .returned (.tuple #[.slice (some ⟨g, 0, none⟩) k cap, .bool (goneB x q r)]) ∧ k ≤ n ∧ Num w' (some ⟨g, 0, none⟩) k cap (shrW x q r) ∧ Below w.heap.size w w' ∧ w.heap.size ≤ g := by
  have hx := h.2.2.1
  have zx := h.2.2.2.1
  have hc : b < w.heap.size ∧ ∀ i, i < n → w.cell? ⟨b, off + i, none⟩ = some (.int .u64 (x i)) := by
    rcases h.2.2.2.2 with ⟨h, _⟩ | ⟨b', off', h, hbs, hc⟩
    · cases h
    · cases h; exact ⟨hbs, hc⟩
  obtain ⟨hbs, hc⟩ := hc
  have hcap := h.1
  have hs6 : s < 6400064 := by omega
  obtain ⟨i0, hi, hz0, hz1, hz2⟩ := info_parts Tryd.info22
  have HX : Hid (Num w (some ⟨b, off, none⟩) n c x) := h
  clear h
  go_enter Tryd.func33, Tryd.ntmps33
  go_wp2
  go_loop [6, 7, 13] (fun g u7 i => ∃ (k : Nat), k ≤ n ∧ i = .int .i64 k ∧ g = .bool (goneK x q r k)) (fun _ _ i => n - (intOf i).toNat)
  case atStart => exact ⟨0, Nat.zero_le _, rfl, by rw [goneK_zero]⟩
  case round =>
    obtain ⟨k, hk, rfl, rfl⟩ := hrel
    by_cases h8 : k < n
    · have h8i : (k : Int) < n := by omega
      by_cases hkq : k < q
      · have bx := hx k
        have hcx := hc k h8
        clear hc hx zx hi hz0 hz1 hz2
        have hkq' : (k : Int) < q := by omega
        by_cases hz : x k = 0
        · have hz' : (x k != 0) = false := by simp [hz]
          have hne : ((k : Int) == q) = false := by simp; omega
          have HG : Hid (goneK x q r (k + 1) = goneK x q r k) := goneK_lt0 hkq hz
          generalize goneK x q r k = z at *
          go_wp2
          go_round
          case rel => exact ⟨k + 1, by omega, by go_num, by rw [HG.out]⟩
          case measure => simp [intOf]; omega
        · have hz' : (x k != 0) = true := by simp [hz]
          have HG : Hid (goneK x q r (k + 1) = true) := goneK_lt1 hkq hz
          generalize goneK x q r k = z at *
          go_wp2
          go_round
          case rel => exact ⟨k + 1, by omega, by go_num, by rw [HG.out]⟩
          case measure => simp [intOf]; omega
      · have hkq' : ¬ (k : Int) < q := by omega
        by_cases hke : k = q
        · subst hke
          have bx := hx k
          have hcx := hc k h8
          have hand := and_mask bx hr0
          have hpp := p2_pos r
          have hpl := p2_le hr0
          have HG : Hid (goneK x k r (k + 1) = (goneK x k r k || decide (x k % 2 ^ r ≠ 0))) := goneK_eq x k r
          clear hc hx zx hi hz0 hz1 hz2
          by_cases hm : x k % 2 ^ r = 0
          · rw [hm] at hand
            generalize goneK x k r k = z at *
            skip
            go_wp2
            go_round
            case rel => exact ⟨k + 1, by omega, by go_num, by rw [HG.out]; simp [hm]⟩
            case measure => simp [intOf]; omega
          · have hm' : (x k % 2 ^ r != 0) = true := by simp [hm]
            generalize goneK x k r k = z at *
            skip
            go_wp2
            go_round
            case rel => exact ⟨k + 1, by omega, by go_num, by rw [HG.out]; simp [hm]⟩
            case measure => simp [intOf]; omega
        · have hcx := hc k h8
          have HG : Hid (goneK x q r (k + 1) = goneK x q r k) := goneK_gt (by omega)
          generalize goneK x q r k = z at *
          clear hc hx zx hi hz0 hz1 hz2
          have hne : ((k : Int) == q) = false := by simp; omega
          go_wp2
          go_round
          case rel => exact ⟨k + 1, by omega, by go_num, by rw [HG.out]⟩
          case measure => simp [intOf]; omega
    · obtain rfl : k = n := by omega
      have HGB : Hid (goneK x q r k = goneB x q r) := goneK_end hqn
      generalize goneK x q r k = gz at *
      go_wp2
      go_loopw [8, 9, 10] (fun v i u10 wr => ∃ (j : Nat) (ao : Option Addr) (cp : Nat), j ≤ k - q ∧ i = .int .i64 ((q : Int) + j) ∧ v = .slice ao j cp ∧ wr.ownsRow w.heap.size 22 1 (.slice ao j cp) j (wl (shrW x q r) j) ∧ Below w.heap.size w wr) (fun _ i _ _ => k + 1 - (intOf i).toNat)
      case atStart => exact ⟨0, none, 0, Nat.zero_le _, by go_num, rfl, World.ownsRow_nil _ _ _ _, Below.refl _ _⟩
      case round =>
        obtain ⟨j, ao, cp, hj, rfl, rfl, hown, hB⟩ := hrel
        by_cases hlt : q + j < k
        · have hlt' : (q : Int) + j < k := by omega
          have bx := hx (q + j)
          have b_y := hx (q + j + 1)
          have e1 : ((q : Int) + j).toNat = q + j := by omega
          have hcx : wr.cell? ⟨b, off + (q + j), none⟩ = some (.int .u64 (x (q + j))) := (hB.cell (p := ⟨b, off + (q + j), none⟩) hbs).trans (hc (q + j) hlt)
          have HW : Hid (Calls Tryd.prog 64 #[.slice (some ⟨b, off, none⟩) k c, .int .i64 ((q : Int) + j + 1)] wr fun e w' => e = .returned (.int .u64 (x (q + j + 1))) ∧ wr = w') := by
            have := word_any (some ⟨b, off, none⟩) k c (q + j + 1) x wr (HX.out.next hB)
            rw [show ((q + j + 1 : Nat) : Int) = (q : Int) + j + 1 by omega] at this
            exact this.mono fun _ _ h => ⟨h.1, h.2.symm⟩
          have hbw := hB.size
          have HO : Hid (wr.ownsRow w.heap.size 22 1 (.slice ao j cp) j (wl (shrW x q r) j)) := hown
          have HVAL : Hid (shrW x q r j = bits BinOp.or IntKind.u64 (x (q + j) / 2 ^ r) (IntKind.u64.wrap (x (q + j + 1) * 2 ^ (64 - r)))) := by show _ = _; unfold shrW; rw [if_neg (by omega)]; rfl
          have HOWN : (wr.alloc (.cells #[.int .u64 (bits BinOp.or IntKind.u64 (x (q + j) / 2 ^ r) (IntKind.u64.wrap (x (q + j + 1) * 2 ^ (64 - r))))] 22)).ownsRow w.heap.size 22 1 (.slice ao j cp) j (wl (shrW x q r) j) := hown.alloc _
          have HNEWS : ∀ (p : Nat) (u : Value), [Value.int .u64 (bits BinOp.or IntKind.u64 (x (q + j) / 2 ^ r) (IntKind.u64.wrap (x (q + j + 1) * 2 ^ (64 - r))))][p]? = some u → (wr.alloc (.cells #[.int .u64 (bits BinOp.or IntKind.u64 (x (q + j) / 2 ^ r) (IntKind.u64.wrap (x (q + j + 1) * 2 ^ (64 - r))))] 22)).cell? ((⟨wr.heap.size, 0, none⟩ : Addr).add p) = some u := by
            intro p u hp
            match p, hp with
            | 0, hp => simp at hp; subst hp; simp [Addr.add]
          have HONE : ∀ u ∈ [Value.int .u64 (bits BinOp.or IntKind.u64 (x (q + j) / 2 ^ r) (IntKind.u64.wrap (x (q + j + 1) * 2 ^ (64 - r))))], u.oneCell' = true := by
            intro u hu; simp at hu; subst hu; rfl
          clear hc hx zx hown
          go_wp2_with (first | (at_builtin; refine wpList_append_lies _ rfl (.tmp 77) (.tmp 79) 57 rfl w.heap.size 22 i0 (.int .u64 0) 1 8 Tryd.underlying57 hi hz0 hz1 hz2 rfl (by decide) (.slice ao j cp) j (wl (shrW x q r) j) rfl HOWN ⟨wr.heap.size, 0, none⟩ 1 1 [Value.int .u64 (bits BinOp.or IntKind.u64 (x (q + j) / 2 ^ r) (IntKind.u64.wrap (x (q + j + 1) * 2 ^ (64 - r))))] rfl rfl HNEWS HONE (by omega) (by unfold maxLen; omega) (by omega) (by simp; omega) (wr.heap.size + 1) (by simp) ?_; intro g cap w1 hown1 hgrow hat hlt1; clear HOWN HNEWS HONE) | (go_at_call 64; refine HW.out.mono ?_; rintro e w' ⟨rfl, rfl⟩))
          have hown2 : w1.ownsRow w.heap.size 22 1 (.slice (some ⟨g, 0, none⟩) (j + 1) cap) (j + 1) (wl (shrW x q r) (j + 1)) := by
            rw [← HVAL.out, wl_succ] at hown1; exact hown1
          have HB2 : Below w.heap.size w w1 := (hB.alloc hbw _).grown hgrow (by simp; omega) (by
            intro p hp
            rcases ao with _ | ⟨bb, oo, sp⟩
            · cases hp
            · cases hp
              obtain ⟨_, h1⟩ := HO.out
              rcases h1 with ⟨h1, _⟩ | ⟨g', _, _, h1, h2, _⟩
              · cases h1
              · cases h1; exact h2)
          clear hown1 hgrow
          go_wp2
          go_roundw
          case rel => exact ⟨j + 1, some ⟨g, 0, none⟩, cap, by omega, by go_num, rfl, hown2, HB2⟩
          case measure => simp [intOf]; omega
        · have HZ : ∀ i, j ≤ i → shrW x q r i = 0 := fun i hi => shrW_zero zx q r i (by omega)
          have hT := ftrim_any ao j cp _ wr (by omega) (num_of_owns' (shrW_words hx q r) HZ hown)
          have hle := sizeL_le (shrW x q r) j
          have hlt' : ¬ (q : Int) + j < k := by omega
          clear hc hx zx hown HZ
          go_wp2_with (go_at_call 58; refine hT.mono ?_; rintro e w1 ⟨g, cap, rfl, hN, hB1, hfg⟩)
          go_ret2
          exact ⟨g, _, cap, by rw [HGB.out]; rfl, by omega, hN, hB.trans (hB1.mono hB.size), Nat.le_trans hB.size hfg⟩
set_option maxHeartbeats 1000000 in
theorem fleft_z (b off n c q : Nat) (s : Int) (x : Nat → Int) (w : World) (hn : n < 4000000000) (hq0 : q < 100000)  (hq : s / 64 = q) (hr : s % 64 = 0) (hs : 0 ≤ s) (h : Num w (some ⟨b, off, none⟩) n c x) :
    Calls Tryd.prog 52 #[.slice (some ⟨b, off, none⟩) n c, .int .i64 s] w fun e w' => ∃ g k cap, e = .returned (.slice (some ⟨g, 0, none⟩) k cap) ∧ k ≤ n + q + 1 ∧ Num w' (some ⟨g, 0, none⟩) k cap (finL x q 0) ∧ Below w.heap.size w w' ∧ w.heap.size ≤ g ∧ sizeL (finL x q 0) k = k := by
  have hx := h.2.2.1
  have zx := h.2.2.2.1
  have hc : b < w.heap.size ∧ ∀ i, i < n → w.cell? ⟨b, off + i, none⟩ = some (.int .u64 (x i)) := by
    rcases h.2.2.2.2 with ⟨h, _⟩ | ⟨b', off', h, hbs, hc⟩
    · cases h
    · cases h; exact ⟨hbs, hc⟩
  obtain ⟨hbs, hc⟩ := hc
  have hcap := h.1
  have hs6 : s < 6400064 := by omega
  obtain ⟨M, hM⟩ : ∃ M, n + q + 1 = M := ⟨_, rfl⟩
  have hMi : (n : Int) + q + 1 = (M : Int) := by omega
  have hmk := fun w => make_any ((n : Int) + q + 1) M hMi (by omega) w
  have hfin : ∀ (ss : Array Value) (m : Nat), ss.size = M → (∀ j h, ss[j]'h = Value.int .u64 (stL x q 0 n j)) → Num ((w.alloc (.cells ss 22)).drewN m) (some ⟨w.heap.size, 0, none⟩) M M (finL x q 0) := fun ss m h1 h2 => (num_of_block (by omega) (finL_words hx q 0) (fun i hi => finL_zero hx zx q 0 (by omega) i (by omega)) h1 (fun j hj => by rw [h2 j hj, stL_end hx zx q 0 j (by omega)])).drewN m
  have HM : Hid (n + q + 1 = M) := hM
  have HZ : Hid ((arrOf (fun _ => 0) M).size = M ∧ ∀ j h, (arrOf (fun _ => 0) M)[j]'h = Value.int .u64 0) := ⟨arrOf_size _ _, fun j h => arrOf_get _ _ _ _⟩
  have hcw : ∀ (ss : Array Value) i, i < n → (w.alloc (.cells ss 22)).cell? ⟨b, off + i, none⟩ = some (.int .u64 (x i)) := fun ss i hi => ((below1 w _).cell (p := ⟨b, off + i, none⟩) hbs).trans (hc i hi)
  clear h zx hMi hc
  generalize arrOf (fun _ => 0) M = zz at *
  go_enter Tryd.func52, Tryd.ntmps52
  go_wp2
  go_loopw [6, 16] (fun u6 i wr => ∃ (k m : Nat) (ss : Array Value), k ≤ n ∧ i = .int .i64 k ∧ ss.size = M ∧ (∀ j h, ss[j]'h = Value.int .u64 (stL x q 0 k j)) ∧ wr = (w.alloc (.cells ss 22)).drewN m) (fun _ i _ => n - (intOf i).toNat)
  case atStart => exact ⟨0, 0, zz, Nat.zero_le _, rfl, HZ.out.1, fun j h => by rw [HZ.out.2 j h]; unfold stL; (by_cases e : j < q + 0); (rw [if_pos e]; unfold finL; rw [if_neg (by omega)]); (rw [if_neg e]; split; (unfold lowp; rw [if_neg (by omega)]); rfl), rfl⟩
  case round =>
    obtain ⟨k, m, ss, hk, rfl, hsz, hss, rfl⟩ := hrel
    by_cases h8 : k < n
    · have h8i : (k : Int) < n := by omega
      have h8s : k + q < ss.size := by omega
      have h8t : (k : Int) + q < M := by omega
      have h8u : (k : Int) + q + 1 < M := by omega
      have bx := hx k
      have hcx := hcw ss k h8
      have hsk : ss[k + q]? = some (.int .u64 (lowp x q 0 (q + k))) := by rw [Array.getElem?_eq_getElem h8s, hss _ h8s]; unfold stL; rw [if_neg (by omega), if_pos (by omega), Nat.add_comm]
      have hgo : ∀ h, ss[k + q]'h = .int .u64 (lowp x q 0 (q + k)) := fun h => by rw [hss _ h]; unfold stL; rw [if_neg (by omega), if_pos (by omega), Nat.add_comm]
      have hlow := lowp_word hx q 0 (q + k)
      have e1 : ((k : Int) + q).toNat = k + q := by omega
      have e2 : ((k : Int) + q + 1).toNat = k + q + 1 := by omega
      have HF : Hid (finL x q 0 (q + k) = bits BinOp.or IntKind.u64 (lowp x q 0 (q + k)) (x k)) := by
        show _ = _; unfold finL; rw [if_pos (by omega), show q + k - q = k by omega]; simp [orW, wrap_id _ bx]
      have HR : Hid (∀ (i : Nat) (h : i < (ss.setIfInBounds (k + q) (.int .u64 (finL x q 0 (q + k)))).size), (ss.setIfInBounds (k + q) (.int .u64 (finL x q 0 (q + k))))[i]'h = Value.int .u64 (stL x q 0 (k + 1) i)) := stL_step0 hss
      clear hss hfin hmk hx
      generalize hlo : lowp x q 0 (q + k) = lo at *
      clear hcw
      go_wp2
      go_region
      go_wp2
      go_roundw
      case rel => refine ⟨k + 1, m + 1, ss.setIfInBounds (k + q) (.int .u64 (finL x q 0 (q + k))), by omega, by go_num, by simp [hsz], HR.out, ?_⟩; rw [HF.out]
      case measure => simp [intOf]; omega
    · obtain rfl : k = n := by omega
      have hT := ftrim_any _ _ _ _ _ (by omega) (hfin ss m hsz hss)
      have hle := sizeL_le (finL x q 0) M
      clear hss hfin hmk hx hcw
      go_wp2_with (go_at_call 58; refine hT.mono ?_; rintro e w1 ⟨g, cap, rfl, hN, hB, hfg⟩)
      go_ret
      exact ⟨g, _, cap, rfl, Nat.le_trans hle (Nat.le_of_eq HM.out.symm), hN, (below_drewN (below1 w _) m).trans (hB.mono (by simp)), by simp at hfg; omega, sizeL_sizeL _ _⟩

set_option maxHeartbeats 1000000 in
theorem fleft_p (b off n c q r : Nat) (s : Int) (x : Nat → Int) (w : World) (hn : n < 4000000000) (hq0 : q < 100000) (hr0 : r < 64) (hrp : 0 < r) (hq : s / 64 = q) (hr : s % 64 = r) (hs : 0 ≤ s) (h : Num w (some ⟨b, off, none⟩) n c x) :
    Calls Tryd.prog 52 #[.slice (some ⟨b, off, none⟩) n c, .int .i64 s] w fun e w' => ∃ g k cap, e = .returned (.slice (some ⟨g, 0, none⟩) k cap) ∧ k ≤ n + q + 1 ∧ Num w' (some ⟨g, 0, none⟩) k cap (finL x q r) ∧ Below w.heap.size w w' ∧ w.heap.size ≤ g ∧ sizeL (finL x q r) k = k := by
  have hx := h.2.2.1
  have zx := h.2.2.2.1
  have hc : b < w.heap.size ∧ ∀ i, i < n → w.cell? ⟨b, off + i, none⟩ = some (.int .u64 (x i)) := by
    rcases h.2.2.2.2 with ⟨h, _⟩ | ⟨b', off', h, hbs, hc⟩
    · cases h
    · cases h; exact ⟨hbs, hc⟩
  obtain ⟨hbs, hc⟩ := hc
  have hcap := h.1
  have hs6 : s < 6400064 := by omega
  obtain ⟨M, hM⟩ : ∃ M, n + q + 1 = M := ⟨_, rfl⟩
  have hMi : (n : Int) + q + 1 = (M : Int) := by omega
  have hmk := fun w => make_any ((n : Int) + q + 1) M hMi (by omega) w
  have hfin : ∀ (ss : Array Value) (m : Nat), ss.size = M → (∀ j h, ss[j]'h = Value.int .u64 (stL x q r n j)) → Num ((w.alloc (.cells ss 22)).drewN m) (some ⟨w.heap.size, 0, none⟩) M M (finL x q r) := fun ss m h1 h2 => (num_of_block (by omega) (finL_words hx q r) (fun i hi => finL_zero hx zx q r (by omega) i (by omega)) h1 (fun j hj => by rw [h2 j hj, stL_end hx zx q r j (by omega)])).drewN m
  have HM : Hid (n + q + 1 = M) := hM
  have HZ : Hid ((arrOf (fun _ => 0) M).size = M ∧ ∀ j h, (arrOf (fun _ => 0) M)[j]'h = Value.int .u64 0) := ⟨arrOf_size _ _, fun j h => arrOf_get _ _ _ _⟩
  have hcw : ∀ (ss : Array Value) i, i < n → (w.alloc (.cells ss 22)).cell? ⟨b, off + i, none⟩ = some (.int .u64 (x i)) := fun ss i hi => ((below1 w _).cell (p := ⟨b, off + i, none⟩) hbs).trans (hc i hi)
  clear h zx hMi hc
  generalize arrOf (fun _ => 0) M = zz at *
  go_enter Tryd.func52, Tryd.ntmps52
  go_wp2
  go_loopw [6, 16] (fun u6 i wr => ∃ (k m : Nat) (ss : Array Value), k ≤ n ∧ i = .int .i64 k ∧ ss.size = M ∧ (∀ j h, ss[j]'h = Value.int .u64 (stL x q r k j)) ∧ wr = (w.alloc (.cells ss 22)).drewN m) (fun _ i _ => n - (intOf i).toNat)
  case atStart => exact ⟨0, 0, zz, Nat.zero_le _, rfl, HZ.out.1, fun j h => by rw [HZ.out.2 j h]; unfold stL; (by_cases e : j < q + 0); (rw [if_pos e]; unfold finL; rw [if_neg (by omega)]); (rw [if_neg e]; split; (unfold lowp; rw [if_neg (by omega)]); rfl), rfl⟩
  case round =>
    obtain ⟨k, m, ss, hk, rfl, hsz, hss, rfl⟩ := hrel
    by_cases h8 : k < n
    · have h8i : (k : Int) < n := by omega
      have h8s : k + q < ss.size := by omega
      have h8t : (k : Int) + q < M := by omega
      have h8u : (k : Int) + q + 1 < M := by omega
      have bx := hx k
      have hcx := hcw ss k h8
      have hsk : ss[k + q]? = some (.int .u64 (lowp x q r (q + k))) := by rw [Array.getElem?_eq_getElem h8s, hss _ h8s]; unfold stL; rw [if_neg (by omega), if_pos (by omega), Nat.add_comm]
      have hgo : ∀ h, ss[k + q]'h = .int .u64 (lowp x q r (q + k)) := fun h => by rw [hss _ h]; unfold stL; rw [if_neg (by omega), if_pos (by omega), Nat.add_comm]
      have h8v : k + q + 1 < ss.size := by omega
      have hsl : ss[k + q + 1]? = some (.int .u64 0) := by rw [Array.getElem?_eq_getElem h8v, hss _ h8v]; unfold stL; rw [if_neg (by omega), if_neg (by omega)]
      have hlow := lowp_word hx q r (q + k)
      have e1 : ((k : Int) + q).toNat = k + q := by omega
      have e2 : ((k : Int) + q + 1).toNat = k + q + 1 := by omega
      have HF : Hid (finL x q r (q + k) = bits BinOp.or IntKind.u64 (lowp x q r (q + k)) (IntKind.u64.wrap (x k * 2 ^ r))) := by
        show _ = _; unfold finL; rw [if_pos (by omega), show q + k - q = k by omega]; rfl
      have HR : Hid (∀ (i : Nat) (h : i < ((ss.setIfInBounds (k + q) (.int .u64 (finL x q r (q + k)))).setIfInBounds (k + q + 1) (.int .u64 (x k / 2 ^ (64 - r)))).size), ((ss.setIfInBounds (k + q) (.int .u64 (finL x q r (q + k)))).setIfInBounds (k + q + 1) (.int .u64 (x k / 2 ^ (64 - r))))[i]'h = Value.int .u64 (stL x q r (k + 1) i)) := stL_step1 hrp hss
      clear hss hfin hmk hx
      generalize hlo : lowp x q r (q + k) = lo at *
      have hcx' := hcw (ss.setIfInBounds (k + q) (.int .u64 (bits BinOp.or IntKind.u64 lo (IntKind.u64.wrap (x k * 2 ^ r))))) k h8
      clear hcw
      go_wp2
      go_region
      go_wp2
      go_roundw
      case rel => refine ⟨k + 1, m + 1, (ss.setIfInBounds (k + q) (.int .u64 (finL x q r (q + k)))).setIfInBounds (k + q + 1) (.int .u64 (x k / 2 ^ (64 - r))), by omega, by go_num, by simp [hsz], HR.out, ?_⟩; rw [HF.out]
      case measure => simp [intOf]; omega
    · obtain rfl : k = n := by omega
      have hT := ftrim_any _ _ _ _ _ (by omega) (hfin ss m hsz hss)
      have hle := sizeL_le (finL x q r) M
      clear hss hfin hmk hx hcw
      go_wp2_with (go_at_call 58; refine hT.mono ?_; rintro e w1 ⟨g, cap, rfl, hN, hB, hfg⟩)
      go_ret
      exact ⟨g, _, cap, rfl, Nat.le_trans hle (Nat.le_of_eq HM.out.symm), hN, (below_drewN (below1 w _) m).trans (hB.mono (by simp)), by simp at hfg; omega, sizeL_sizeL _ _⟩
end Go.Proofs.YtjjaamdgochilaaDoor
