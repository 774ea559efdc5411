/-
  Texts that the proof leans on.
-/
import Derived.Test.YtpemdcnneabbfaaDoorJ14
set_option linter.unusedVariables false
set_option linter.unusedSimpArgs false
set_option linter.unusedSectionVars false
set_option maxRecDepth 20000
namespace Go.Proofs.YtpemdcnneabbfaaDoor
open Go.RowKit
theorem ncmp_b (a a' : Option Addr) (n c n' c' : Nat) (x y : Nat → Int) (w : World) (hn : n < 4294967296) (hn' : n' < 4294967296) (h : Num w a n c x) (h' : Num w a' n' c' y) :
    Calls Tryd.prog 37 #[.slice a n c, .slice a' n' c'] w fun e w' => e = .returned (.int .i64 (sgn (val x n) (val y n'))) ∧ Below w.heap.size w w' :=
  (ncmp_any a a' n c n' c' x y w hn hn' h h').mono fun e w' ⟨h1, m, hm⟩ => ⟨h1, hm ▸ below_drewN (Below.refl _ _) m⟩
theorem num_none (w : World) : Num w none 0 0 (fun _ => 0) := ⟨Nat.le_refl _, by unfold maxLen; omega, fun _ => (by decide : (0 : Int) ≤ 0 ∧ (0 : Int) ≤ 18446744073709551615), fun _ _ => rfl, Or.inl ⟨rfl, rfl⟩⟩
section
set_option maxHeartbeats 1000000 in
theorem mulAdd_any (a n z C : Int) (w : World) (ha : 0 ≤ a ∧ a ≤ 18446744073709551615) (hn : 0 ≤ n ∧ n ≤ 18446744073709551615) (hz : 0 ≤ z ∧ z ≤ 18446744073709551615) (hC : 0 ≤ C ∧ C ≤ 18446744073709551615) :
    Calls Tryd.prog 84 #[.int .u64 a, .int .u64 n, .int .u64 z, .int .u64 C] w fun e w' => ∃ l h, e = .returned (.tuple #[.int .u64 l, .int .u64 h]) ∧ l + h * 18446744073709551616 = a * n + z + C ∧ (0 ≤ l ∧ l ≤ 18446744073709551615) ∧ (0 ≤ h ∧ h ≤ 18446744073709551615) ∧ w = w' := by
  have hms := mul_step a n z C ha hn hz hC
  have hmul := mul64 a n ha hn w
  have hL0 : 0 ≤ a * n % 18446744073709551616 := Int.emod_nonneg _ (by decide)
  have hA1 := fun w => add64z (a * n % 18446744073709551616) z hL0 hz.1 w
  have hs0 : 0 ≤ (a * n % 18446744073709551616 + z) % 18446744073709551616 := Int.emod_nonneg _ (by decide)
  have hA2 := fun w => add64z ((a * n % 18446744073709551616 + z) % 18446744073709551616) C hs0 hC.1 w
  have ht0 : 0 ≤ ((a * n % 18446744073709551616 + z) % 18446744073709551616 + C) % 18446744073709551616 ∧ ((a * n % 18446744073709551616 + z) % 18446744073709551616 + C) % 18446744073709551616 ≤ 18446744073709551615 := by omega
  generalize ((a * n % 18446744073709551616 + z) % 18446744073709551616 + C) % 18446744073709551616 = t2 at *
  generalize ((a * n % 18446744073709551616 + z) % 18446744073709551616 + C) / 18446744073709551616 = f2 at *
  generalize (a * n % 18446744073709551616 + z) % 18446744073709551616 = t1 at *
  generalize (a * n % 18446744073709551616 + z) / 18446744073709551616 = f1 at *
  generalize a * n % 18446744073709551616 = lo at *
  generalize a * n / 18446744073709551616 = hi at *
  have HMS : Hid (t2 + (hi + f1 + f2) * 18446744073709551616 = a * n + z + C) := hms.1
  have hb1 : 0 ≤ hi + f1 := hms.2.1
  have hb2 : hi + f1 ≤ 18446744073709551615 := hms.2.2.1
  have hb3 : 0 ≤ hi + f1 + f2 := hms.2.2.2.1
  have hb4 : hi + f1 + f2 ≤ 18446744073709551615 := hms.2.2.2.2
  clear hms
  go_enter Tryd.func84, Tryd.ntmps84
  go_wp2_with (go_at_call 88; refine hmul.mono ?_; rintro e w' ⟨rfl, rfl⟩)
  go_ret2
  exact ⟨t2, hi + f1 + f2, rfl, HMS.out, ht0, ⟨hb3, hb4⟩, rfl⟩

theorem apart_of {w : World} {a : Option Addr} {n c : Nat} {x : Nat → Int} (h : Num w a n c x) : Apart a w.heap.size := by
  intro p hp
  rcases h.2.2.2.2 with ⟨h, _⟩ | ⟨b, off, h, hb, _⟩
  · rw [h] at hp; cases hp
  · rw [h] at hp; cases hp; exact Nat.ne_of_lt hb
theorem val_zero : ∀ m, val (fun _ => 0) m = 0 := by intro m; induction m with | zero => rfl | succ m ih => simp only [val]; rw [ih]; simp
end
theorem wrap_mod (a : Int) : IntKind.u64.wrap a = a % 18446744073709551616 := by
  simp only [IntKind.wrap, IntKind.bits, IntKind.signed]
  simp
theorem p2_pos (n : Nat) : (0 : Int) < 2 ^ n := Int.pow_pos (by decide)
theorem p2_split {r : Nat} (hr : r ≤ 64) : (2 : Int) ^ (64 - r) * 2 ^ r = 18446744073709551616 := by
  rw [← Int.pow_add, show 64 - r + r = 64 by omega]; rfl
/-- what goes beyond a word that is shifted by r -/
def hiW (x : Int) (r : Nat) : Int := x * 2 ^ r / 18446744073709551616
theorem hiW_eq (x : Int) {r : Nat} (hr : r ≤ 64) : x / 2 ^ (64 - r) = hiW x r := by
  unfold hiW
  rw [← p2_split hr, Int.mul_ediv_mul_of_pos_left _ _ (p2_pos r)]
theorem hiW_bd {x : Int} (hx : 0 ≤ x ∧ x ≤ 18446744073709551615) (r : Nat) : 0 ≤ hiW x r ∧ hiW x r < 2 ^ r := by
  have hp := p2_pos r
  unfold hiW
  refine ⟨Int.ediv_nonneg (Int.mul_nonneg hx.1 (by omega)) (by decide), Int.ediv_lt_of_lt_mul (by decide) ?_⟩
  rw [Int.mul_comm (2 ^ r)]
  exact Int.mul_lt_mul_of_pos_right (by omega) hp
theorem p2_le {r : Nat} (hr : r < 64) : (2 : Int) ^ r ≤ 9223372036854775808 := by
  have h := p2_split (show r ≤ 64 by omega)
  have h1 : (2 : Int) ^ (64 - r) = 2 ^ (63 - r) * 2 := by rw [← Int.pow_succ]; congr 1; omega
  have h2 := p2_pos (63 - r)
  rw [h1] at h
  have : (1 : Int) * (2 * 2 ^ r) ≤ 2 ^ (63 - r) * (2 * 2 ^ r) := Int.mul_le_mul_of_nonneg_right (by omega) (by have := p2_pos r; omega)
  rw [← Int.mul_assoc] at this
  have e : (2 : Int) ^ (63 - r) * (2 * 2 ^ r) = 18446744073709551616 := by rw [← Int.mul_assoc]; exact h
  omega
/-- the two parts of a shifted word have no bit in common -/
theorem or_shl {y b : Int} {r : Nat} (hr : r < 64) (hy : 0 ≤ y) (hb : 0 ≤ b ∧ b < 2 ^ r) : orW b (IntKind.u64.wrap (y * 2 ^ r)) = y * 2 ^ r % 18446744073709551616 + b := by
  have hle := p2_le hr
  have hp := p2_pos r
  have hme : y * 2 ^ r % (2 ^ (64 - r) * 2 ^ r) = y % 2 ^ (64 - r) * 2 ^ r := by
    have := Int.mul_emod_mul_of_pos y (2 ^ (64 - r)) hp
    rw [Int.mul_comm y, Int.mul_comm (2 ^ (64 - r)), this, Int.mul_comm]
  rw [orW_eq b _ (by omega) (wrap_word _), wrap_mod, ← p2_split (show r ≤ 64 by omega), hme]
  have hm0 := Int.emod_nonneg y (show (2 : Int) ^ (64 - r) ≠ 0 by have := p2_pos (64 - r); omega)
  obtain ⟨u, hu⟩ := Int.eq_ofNat_of_zero_le hm0
  obtain ⟨b', rfl⟩ := Int.eq_ofNat_of_zero_le hb.1
  rw [hu]
  have e1 : ((u : Int) * 2 ^ r).toNat = 2 ^ r * u := by
    have : ((u : Int) * 2 ^ r) = ((2 ^ r * u : Nat) : Int) := by rw [Int.natCast_mul, powCast, Int.mul_comm]
    rw [this]; exact Int.toNat_natCast _
  have hb2 : b' < 2 ^ r := by
    have h := hb.2
    rw [← powCast] at h; omega
  rw [e1, Int.toNat_natCast, Nat.or_comm, ← Nat.two_pow_add_eq_or_of_lt hb2]
  rw [Int.natCast_add, Int.natCast_mul, powCast, Int.mul_comm]
/-- what comes in from the word below -/
def prevW (x : Nat → Int) (r i : Nat) : Int := if i = 0 then 0 else hiW (x (i - 1)) r
/-- the words of x times 2^r -/
def shW (x : Nat → Int) (r i : Nat) : Int := x i * 2 ^ r % 18446744073709551616 + prevW x r i
theorem prevW_bd {x : Nat → Int} (hx : Words x) (r i : Nat) : 0 ≤ prevW x r i ∧ prevW x r i < 2 ^ r := by
  unfold prevW; split
  · have := p2_pos r; omega
  · exact hiW_bd (hx _) r
theorem shW_or {x : Nat → Int} (hx : Words x) {r : Nat} (hr : r < 64) (i : Nat) : orW (prevW x r i) (IntKind.u64.wrap (x i * 2 ^ r)) = shW x r i := or_shl hr (hx i).1 (prevW_bd hx r i)
theorem prevW_word {x : Nat → Int} (hx : Words x) {r : Nat} (hr : r < 64) (i : Nat) : 0 ≤ prevW x r i ∧ prevW x r i ≤ 18446744073709551615 := by
  have := prevW_bd hx r i
  have := p2_le hr
  omega
theorem shW_words {x : Nat → Int} (hx : Words x) {r : Nat} (hr : r < 64) : Words (shW x r) := fun i => by
  rw [← shW_or hx hr i]; exact orW_word _ _ (prevW_word hx hr i) (wrap_word _)
theorem sh_val (x : Nat → Int) (r : Nat) : ∀ m, val (shW x r) m + prevW x r m * 18446744073709551616 ^ m = val x m * 2 ^ r
  | 0 => by simp [val, prevW]
  | m + 1 => by
    have ih := sh_val x r m
    show val (shW x r) m + shW x r m * 18446744073709551616 ^ m + prevW x r (m + 1) * 18446744073709551616 ^ (m + 1) = (val x m + x m * 18446744073709551616 ^ m) * 2 ^ r
    have e1 : prevW x r (m + 1) = x m * 2 ^ r / 18446744073709551616 := rfl
    have e2 : shW x r m = x m * 2 ^ r % 18446744073709551616 + prevW x r m := rfl
    have e3 := Int.emod_add_mul_ediv (x m * 2 ^ r) 18446744073709551616
    rw [e1, e2, Int.pow_succ]
    generalize x m * 2 ^ r / 18446744073709551616 = K at *
    generalize x m * 2 ^ r % 18446744073709551616 = R at *
    generalize (18446744073709551616 : Int) ^ m = P at *
    grind
theorem sh_end {x : Nat → Int} {n : Nat} (zx : ∀ i, n ≤ i → x i = 0) (r m : Nat) (h : n < m) : val (shW x r) m = val x n * 2 ^ r := by
  have e := sh_val x r m
  have e1 : prevW x r m = 0 := by
    unfold prevW hiW; rw [if_neg (by omega), zx (m - 1) (by omega)]; simp
  rw [e1, val_more zx m (by omega)] at e
  omega
/-- words that are moved up by q -/
def upW (f : Nat → Int) (q j : Nat) : Int := if q ≤ j then f (j - q) else 0
theorem val_up (f : Nat → Int) (q : Nat) : ∀ m, val (upW f q) (q + m) = val f m * 18446744073709551616 ^ q
  | 0 => by
    have : ∀ k, k ≤ q → val (upW f q) k = 0 := by
      intro k
      induction k with
      | zero => intro _; rfl
      | succ k ih =>
        intro hk
        show val (upW f q) k + upW f q k * 18446744073709551616 ^ k = 0
        rw [ih (by omega)]
        unfold upW; rw [if_neg (by omega)]; simp
    rw [Nat.add_zero, this q (Nat.le_refl _)]; simp [val]
  | m + 1 => by
    have ih := val_up f q m
    show val (upW f q) (q + m) + upW f q (q + m) * 18446744073709551616 ^ (q + m) = (val f m + f m * 18446744073709551616 ^ m) * 18446744073709551616 ^ q
    rw [ih]
    have e : upW f q (q + m) = f m := by unfold upW; rw [if_pos (by omega)]; congr 1; omega
    rw [e, Int.pow_add]
    generalize (18446744073709551616 : Int) ^ m = P
    generalize (18446744073709551616 : Int) ^ q = Q
    grind
theorem finL_up {x : Nat → Int} (hx : Words x) (q : Nat) {r : Nat} (hr : r < 64) : finL x q r = upW (shW x r) q := by
  funext j
  unfold finL upW
  by_cases h : q ≤ j
  · rw [if_pos h, if_pos h, ← shW_or hx hr (j - q)]
    congr 1
    unfold lowp prevW
    by_cases h0 : j - q = 0
    · rw [if_pos h0, if_neg (by omega)]
    · rw [if_neg h0]
      by_cases hr0 : 0 < r
      · rw [if_pos (by omega), hiW_eq _ (by omega)]
      · obtain rfl : r = 0 := by omega
        rw [if_neg (by omega)]
        unfold hiW
        have := hx (j - q - 1)
        omega
  · rw [if_neg h, if_neg h]
theorem p64 (q r : Nat) : (2 : Int) ^ r * 18446744073709551616 ^ q = 2 ^ (64 * q + r) := by
  rw [Int.pow_add, Int.pow_mul, Int.mul_comm]; rfl
/-- the value of what the document's Left lays -/
theorem finL_val {x : Nat → Int} {n : Nat} (hx : Words x) (zx : ∀ i, n ≤ i → x i = 0) (q : Nat) {r : Nat} (hr : r < 64) : val (finL x q r) (n + q + 1) = val x n * 2 ^ (64 * q + r) := by
  rw [finL_up hx q hr, show n + q + 1 = q + (n + 1) by omega, val_up, sh_end zx r (n + 1) (by omega), Int.mul_assoc, p64]
section
/-- the words of z, from off on k of y's that are shifted by r laid over them -/
def upZ (z y : Nat → Int) (r off k j : Nat) : Int := if off ≤ j ∧ j < off + k then shW y r (j - off) else z j
theorem upZ_next (z y : Nat → Int) (r off k j : Nat) : (if j = off + k then shW y r k else upZ z y r off k j) = upZ z y r off (k + 1) j := by
  unfold upZ
  by_cases e : j = off + k
  · subst e
    rw [if_pos rfl, if_pos (by omega)]; congr 1; omega
  · rw [if_neg e]
    by_cases e2 : off ≤ j ∧ j < off + k
    · rw [if_pos e2, if_pos (by omega)]
    · rw [if_neg e2, if_neg (by omega)]

set_option maxHeartbeats 1000000 in
theorem shiftUp_any (g N off m c k c' r : Nat) (a' : Option Addr) (z y : Nat → Int) (w : World) (hm : off + m ≤ N) (hN : N < 4294967296) (hk : k < m) (hr : r < 64) (h : Own g N z w) (h' : Num w a' k c' y) (hA : Apart a' g) :
    Calls Tryd.prog 75 #[.slice (some ⟨g, off, none⟩) m c, .slice a' k c', .int .i64 r] w fun e w' => e = .returned (.tuple #[]) ∧ Own g N (upZ z y r off (k + 1)) w' ∧ Upd g w w' := by
  have hy := h'.2.2.1
  have hri : (r : Int) < 64 := by omega
  have e64 : ((64 : Int) - r).toNat = 64 - r := by omega
  have hk0 := h'.2.2.2.1 k (Nat.le_refl _)
  go_enter Tryd.func75, Tryd.ntmps75
  go_wp2
  go_loopw [6, 7, 8, 11] (fun cv u7 u8 i wr => ∃ (j : Nat), j ≤ k ∧ i = .int .i64 j ∧ cv = .int .u64 (prevW y r j) ∧ Own g N (upZ z y r off j) wr ∧ Upd g w wr) (fun _ _ _ i _ => k - (intOf i).toNat)
  case atStart => exact ⟨0, Nat.zero_le _, rfl, rfl, h.congr fun i _ => by unfold upZ; rw [if_neg (by omega)], Upd.refl _ _⟩
  case round =>
    obtain ⟨j, hj, rfl, rfl, hO, hU⟩ := hrel
    have hpb := prevW_word hy hr j
    by_cases hlt : j < k
    · have hji : (j : Int) < k := by omega
      have hjm : (j : Int) < m := by omega
      obtain ⟨b, off', rfl, hb, hc⟩ := (hU.num' hA h').cells (by omega)
      have hcj := hc j hlt
      have hco : ∃ u, wr.cell? ⟨g, off + j, none⟩ = some (.int .u64 u) := ⟨_, hO.cell (off + j) (by omega)⟩
      obtain ⟨u, hco⟩ := hco
      have hfo := hO.frozen (off + j)
      have b_y := hy j
      have HP : Hid (prevW y r (j + 1) = y j / 2 ^ (64 - r)) := by show _ = _; rw [hiW_eq _ (by omega)]; rfl
      have HS : Hid (bits BinOp.or IntKind.u64 (IntKind.u64.wrap (y j * 2 ^ r)) (prevW y r j) = shW y r j) := by
        show _ = _
        rw [← shW_or hy hr j]
        exact orW_comm _ _ (wrap_word _) hpb
      have HO : Hid (Own g N (upZ z y r off (j + 1)) (wr.setCell ⟨g, off + j, none⟩ (.int .u64 (shW y r j)))) := (hO.set (off + j) _).congr fun i _ => upZ_next z y r off j i
      have HU : Hid (Upd g w (wr.setCell ⟨g, off + j, none⟩ (.int .u64 (shW y r j)))) := hU.set (off + j) _
      rw [← HS.out] at HO HU
      clear hO hU hc h h' hA hy hk0 HS
      generalize prevW y r j = pv at *
      go_wp2
      go_roundw
      case rel => exact ⟨j + 1, by omega, by go_num, by rw [HP.out], HO.out, HU.out⟩
      case measure => simp [intOf]; omega
    · obtain rfl : j = k := by omega
      have hjm : (j : Int) < m := by omega
      have hco : ∃ u, wr.cell? ⟨g, off + j, none⟩ = some (.int .u64 u) := ⟨_, hO.cell (off + j) (by omega)⟩
      obtain ⟨u, hco⟩ := hco
      have hfo := hO.frozen (off + j)
      have e1 : shW y r j = prevW y r j := by unfold shW; rw [hk0]; simp
      have HO : Hid (Own g N (upZ z y r off (j + 1)) (wr.setCell ⟨g, off + j, none⟩ (.int .u64 (prevW y r j)))) := (hO.set (off + j) _).congr fun i _ => by rw [← e1]; exact upZ_next z y r off j i
      have HU : Hid (Upd g w (wr.setCell ⟨g, off + j, none⟩ (.int .u64 (prevW y r j)))) := hU.set (off + j) _
      clear hO hU h h' hA hy hk0 e1
      generalize prevW y r j = pv at *
      go_wp2
      go_end0
      exact ⟨rfl, HO.out, HU.out⟩

theorem bare_own {g N c : Nat} {z : Nat → Int} {w : World} {V : Int} (hO : Own g N z w) (hW : Words z) (hN : N < 4000000000) (hc : N ≤ c) (hc2 : c ≤ maxLen) (hv : val z N = V) :
    ∃ k z', k ≤ N ∧ Num w (some ⟨g, 0, none⟩) k c z' ∧ val z' k = V ∧ sizeL z' k = k ∧ Calls Tryd.prog 50 #[.slice (some ⟨g, 0, none⟩) N c] w fun e w' => e = .returned (.slice (some ⟨g, 0, none⟩) k c) ∧ w = w' := by
  have h := hO.num hW 0 N c (by omega) hc hc2
  refine ⟨sizeL (segW z 0 N) N, segW z 0 N, sizeL_le _ _, h.bare, ?_, sizeL_sizeL _ _, bare_any _ N c _ w (by omega) h⟩
  rw [val_bare, val_congr (x := segW z 0 N) (y := z) N fun i hi => by rw [segW_lt _ 0 N i hi, Nat.zero_add], hv]

set_option maxRecDepth 20000 in
set_option maxHeartbeats 1000000 in
theorem nshl_any (a : Option Addr) (n c : Nat) (x : Nat → Int) (d : Int) (w : World) (hn : n < 4000000000) (h : Num w a n c x) (hd : 0 ≤ d) (hs : (sizeL x n : Int) + (d + 63) / 64 ≤ 2000) :
    Calls Tryd.prog 61 #[.slice a n c, .int .i64 d] w fun e w' => ∃ g k cap z, e = .returned (.tuple #[.slice (some ⟨g, 0, none⟩) k cap, .int .i64 0]) ∧ k ≤ 2001 ∧ Num w' (some ⟨g, 0, none⟩) k cap z ∧ val z k = val x n * 2 ^ d.toNat ∧ sizeL z k = k ∧ Below w.heap.size w w' := by
  have hb := bare_any a n c x w (by omega) h
  rw [← val_bare n]
  have hx := h.2.2.1
  have hle := sizeL_le x n
  have hN := h.bare
  generalize sizeL x n = s at *
  clear h
  obtain ⟨q, hq⟩ : ∃ q : Nat, d / 64 = q := ⟨(d / 64).toNat, by omega⟩
  obtain ⟨r, hr⟩ : ∃ r : Nat, d % 64 = r := ⟨(d % 64).toNat, by omega⟩
  have hr64 : r < 64 := by omega
  have hdn : d.toNat = 64 * q + r := by omega
  rw [hdn]
  obtain ⟨N, hNs⟩ : ∃ N, s + q + 1 = N := ⟨_, rfl⟩
  have hNi : (s : Int) + q + 1 = N := by omega
  have hq2 : (q : Int) ≤ 2000 := by omega
  have hmk := fun w => make_any ((s : Int) + q + 1) N hNi (by omega) w
  have hA := apart_of hN
  have hO := Own.new w (fun _ => 0) N
  have hBW := below1 w (.cells (arrOf (fun _ => 0) N) 22)
  have hsu := shiftUp_any w.heap.size N q (N - q) (N - q) s c r a (fun _ => 0) x _ (by omega) (by omega) (by omega) hr64 hO (hN.next hBW) hA
  have hqN : (q : Int) ≤ N := by omega
  have HVL : Hid (val (upZ (fun _ => 0) x r q (s + 1)) N = val x s * 2 ^ (64 * q + r)) := by
    show _ = _
    rw [← hNs, show s + q + 1 = q + (s + 1) by omega]
    rw [val_congr (y := upW (shW x r) q) (q + (s + 1)) fun i hi => by
      unfold upZ upW
      by_cases e : q ≤ i
      · rw [if_pos (by omega), if_pos e]
      · rw [if_neg (by omega), if_neg e]]
    rw [val_up, sh_end hN.2.2.2.1 r (s + 1) (by omega), Int.mul_assoc, p64]
  have HW : Hid (Words (upZ (fun _ => 0) x r q (s + 1))) := fun i => by
    unfold upZ; split
    · exact shW_words hx hr64 _
    · exact (by decide : (0 : Int) ≤ 0 ∧ (0 : Int) ≤ 18446744073709551615)
  generalize hz : upZ (fun _ => 0) x r q (s + 1) = zz at *
  have HB : Hid (Below w.heap.size w (w.alloc (.cells (arrOf (fun _ => 0) N) 22))) := hBW
  have HNS : Hid (N ≤ 2001) := by show _ ≤ _; omega
  have hup : (s : Int) + q ≤ 2000 := by omega
  have hup2 : 0 < r → (s : Int) + (q + 1) ≤ 2000 := by omega
  clear hBW hN hA hO hNi hz hs hdn hx
  by_cases hr0 : 0 < r
  · have hr0' : (0 : Int) < r := by omega
    have hu := hup2 hr0
    clear hup2
    go_enter Tryd.func61, Tryd.ntmps61
    go_wp2_with (first | (go_at_call_of 50 (Value.slice a n c); refine hb.mono ?_; rintro e w' ⟨rfl, rfl⟩) | (go_at_call 75; refine hsu.mono ?_; rintro e w1 ⟨rfl, hO1, hU1⟩))
    obtain ⟨k, z', hkN, hNk, hvk, hsk, hbr⟩ := bare_own hO1 HW.out (by have := HNS.out; omega) (Nat.le_refl N) (by unfold maxLen; have := HNS.out; omega) HVL.out
    have HB2 : Hid (Below w.heap.size w w1) := HB.out.trans (hU1.below (Nat.le_refl _))
    have HNk : Hid (Num w1 (some ⟨w.heap.size, 0, none⟩) k N z') := hNk
    clear hO1 hU1 hNk
    go_wp2_with (go_at_call 50; refine hbr.mono ?_; rintro e w3 ⟨rfl, rfl⟩)
    go_ret2
    exact ⟨_, k, N, z', rfl, by have := HNS.out; omega, HNk.out, hvk, hsk, HB2.out⟩
  · obtain rfl : r = 0 := by omega
    clear hup2
    go_enter Tryd.func61, Tryd.ntmps61
    go_wp2_with (first | (go_at_call_of 50 (Value.slice a n c); refine hb.mono ?_; rintro e w' ⟨rfl, rfl⟩) | (go_at_call 75; refine hsu.mono ?_; rintro e w1 ⟨rfl, hO1, hU1⟩))
    obtain ⟨k, z', hkN, hNk, hvk, hsk, hbr⟩ := bare_own hO1 HW.out (by have := HNS.out; omega) (Nat.le_refl N) (by unfold maxLen; have := HNS.out; omega) HVL.out
    have HB2 : Hid (Below w.heap.size w w1) := HB.out.trans (hU1.below (Nat.le_refl _))
    have HNk : Hid (Num w1 (some ⟨w.heap.size, 0, none⟩) k N z') := hNk
    clear hO1 hU1 hNk
    go_wp2_with (go_at_call 50; refine hbr.mono ?_; rintro e w3 ⟨rfl, rfl⟩)
    go_ret2
    exact ⟨_, k, N, z', rfl, by have := HNS.out; omega, HNk.out, hvk, hsk, HB2.out⟩
end
section
attribute [local go_sem] setCell_drewN alloc_drewN

/-- whether a bit goes out that is 1 -/
def goneB (x : Nat → Int) (q r : Nat) : Bool := decide (0 < sizeL x q) || decide (x q % 2 ^ r ≠ 0)
theorem and_mask {y : Int} {r : Nat} (hy : 0 ≤ y ∧ y ≤ 18446744073709551615) (hr : r < 64) : bits BinOp.and IntKind.u64 y (2 ^ r - 1) = y % 2 ^ r := by
  have h1 := p2_pos r
  have h2 := p2_le hr
  rw [u64_and _ _ hy.1 (by omega) (by omega) (by omega)]
  obtain ⟨n, rfl⟩ := Int.eq_ofNat_of_zero_le hy.1
  have e : ((2 : Int) ^ r - 1).toNat = 2 ^ r - 1 := by rw [← powCast]; omega
  rw [e, Int.toNat_natCast, Nat.and_two_pow_sub_one_eq_mod, Int.natCast_emod, powCast]
end
section
theorem sizeL_more {x : Nat → Int} {n : Nat} (hz : ∀ i, n ≤ i → x i = 0) : ∀ m, n ≤ m → sizeL x m = sizeL x n
  | 0, h => by have : n = 0 := by omega
               subst this; rfl
  | m + 1, h => by
    by_cases e : n = m + 1
    · subst e; rfl
    · rw [show sizeL x (m + 1) = sizeL x m by simp [sizeL, hz m (by omega)]]
      exact sizeL_more hz m (by omega)

/-- what a word sends down into the one below it -/
def dnW (y : Int) (r : Nat) : Int := IntKind.u64.wrap (y * 2 ^ (64 - r))
theorem shr_or {y : Nat → Int} (hy : Words y) {r : Nat} (hr : r < 64) (q i : Nat) : orW (y (q + i) / 2 ^ r) (dnW (y (q + i + 1)) r) = shrW y q r i := by
  unfold shrW dnW
  by_cases h : r = 0
  · subst h
    rw [if_pos rfl, wrap_mod]
    have e : y (q + i + 1) * 2 ^ (64 - 0) % 18446744073709551616 = 0 := Int.mul_emod_left _ _
    rw [e, Int.pow_zero, Int.ediv_one, orW_zero _ (hy _)]
  · rw [if_neg h]
/-- the words of z, those from k on (and below m) y's, shifted down by r -/
def dnZ (z y : Nat → Int) (r m k j : Nat) : Int := if k ≤ j ∧ j < m then shrW y 0 r j else z j

set_option maxHeartbeats 1000000 in
theorem shiftDown_any (g N m c c' r : Nat) (a' : Option Addr) (z y : Nat → Int) (w : World) (hm : m ≤ N) (hN : N < 4294967296) (hr : r < 64) (h : Own g N z w) (h' : Num w a' m c' y) (hA : Apart a' g) :
    Calls Tryd.prog 72 #[.slice (some ⟨g, 0, none⟩) m c, .slice a' m c', .int .i64 r] w fun e w' => e = .returned (.tuple #[]) ∧ Own g N (dnZ z y r m 0) w' ∧ Upd g w w' := by
  have hy := h'.2.2.1
  have hri : (r : Int) < 64 := by omega
  have e64 : ((64 : Int) - r).toNat = 64 - r := by omega
  have hk0 := h'.2.2.2.1 m (Nat.le_refl _)
  go_enter Tryd.func72, Tryd.ntmps72
  go_wp2
  go_loopw [6, 7] (fun cv i wr => ∃ (k : Nat), k ≤ m ∧ i = .int .i64 ((k : Int) - 1) ∧ cv = .int .u64 (dnW (y k) r) ∧ Own g N (dnZ z y r m k) wr ∧ Upd g w wr) (fun _ i _ => (intOf i + 1).toNat)
  case atStart => exact ⟨m, Nat.le_refl _, by go_num, by rw [hk0]; unfold dnW; rw [Int.zero_mul, wrap_id 0 (by decide)], h.congr fun i _ => by unfold dnZ; rw [if_neg (by omega)], Upd.refl _ _⟩
  case round =>
    obtain ⟨k, hk, rfl, rfl, hO, hU⟩ := hrel
    have hpb : 0 ≤ dnW (y k) r ∧ dnW (y k) r ≤ 18446744073709551615 := wrap_word _
    by_cases h0 : k = 0
    · subst h0
      have HO : Hid (Own g N (dnZ z y r m 0) wr) := hO
      have HU : Hid (Upd g w wr) := hU
      clear hO hU h h' hA hy hk0
      go_wp2
      go_end0
      exact ⟨rfl, HO.out, HU.out⟩
    · obtain ⟨j, rfl⟩ : ∃ j, k = j + 1 := ⟨k - 1, by omega⟩
      have ej : ((j + 1 : Nat) : Int) - 1 = j := by omega
      rw [ej]
      have hjm : (j : Int) < m := by omega
      obtain ⟨b, off', rfl, hb, hc⟩ := (hU.num' hA h').cells (by omega)
      have hcj := hc j (by omega)
      have hco : ∃ u, wr.cell? ⟨g, j, none⟩ = some (.int .u64 u) := ⟨_, hO.cell j (by omega)⟩
      obtain ⟨u, hco⟩ := hco
      have hfo := hO.frozen j
      have b_y := hy j
      have hbg : b ≠ g := hA _ rfl
      have hcj2 : ∀ v, (wr.setCell ⟨g, j, none⟩ v).cell? ⟨b, off' + j, none⟩ = some (.int .u64 (y j)) := fun v => (World.cell?_of_block (w := wr) (a := ⟨b, off' + j, none⟩) (Below.heap_setCell wr ⟨g, j, none⟩ v b hbg)).trans hcj
      have HS : Hid (bits BinOp.or IntKind.u64 (y j / 2 ^ r) (dnW (y (j + 1)) r) = shrW y 0 r j) := by
        show _ = _
        have := shr_or hy hr 0 j
        rw [Nat.zero_add] at this
        exact this
      have HO : Hid (Own g N (dnZ z y r m j) (wr.setCell ⟨g, j, none⟩ (.int .u64 (shrW y 0 r j)))) := (hO.set j _).congr fun i _ => by
        unfold dnZ
        by_cases e : i = j
        · subst e; rw [if_pos rfl, if_pos (by omega)]
        · rw [if_neg e]
          by_cases e2 : j + 1 ≤ i ∧ i < m
          · rw [if_pos e2, if_pos (by omega)]
          · rw [if_neg e2, if_neg (by omega)]
      have HU : Hid (Upd g w (wr.setCell ⟨g, j, none⟩ (.int .u64 (shrW y 0 r j)))) := hU.set j _
      rw [← HS.out] at HO HU
      have HDW : Hid (IntKind.u64.wrap (y j * 2 ^ (64 - r)) = dnW (y j) r) := rfl
      clear hO hU hc h h' hA hy hk0 HS ej
      generalize dnW (y (j + 1)) r = pv at *
      go_wp2
      go_roundw
      case rel => exact ⟨j, by omega, by go_num, by rw [← HDW.out], HO.out, HU.out⟩
      case measure => simp [intOf]

theorem Num.drop {w : World} {b off n c q : Nat} {x : Nat → Int} (h : Num w (some ⟨b, off, none⟩) n c x) (hq : q ≤ n) : Num w (some ⟨b, off + q, none⟩) (n - q) (c - q) (fun i => x (q + i)) := by
  obtain ⟨h1, h2, h3, h4, h5⟩ := h
  refine ⟨by omega, by omega, fun i => h3 (q + i), fun i hi => h4 (q + i) (by omega), ?_⟩
  rcases h5 with ⟨h5, _⟩ | ⟨b', off', h6, h7, h8⟩
  · cases h5
  · cases h6
    exact Or.inr ⟨b, off + q, rfl, h7, fun i hi => by have := h8 (q + i) (by omega); rw [Nat.add_assoc]; exact this⟩
theorem Num.take {w : World} {b off n c q : Nat} {x : Nat → Int} (h : Num w (some ⟨b, off, none⟩) n c x) (hq : q ≤ n) : Num w (some ⟨b, off, none⟩) q c (segW x 0 q) := by
  obtain ⟨h1, h2, h3, h4, h5⟩ := h
  refine ⟨by omega, by omega, segW_words h3 0 q, fun i hi => segW_zero x 0 q i hi, ?_⟩
  rcases h5 with ⟨h5, _⟩ | ⟨b', off', h6, h7, h8⟩
  · cases h5
  · cases h6
    exact Or.inr ⟨b, off, rfl, h7, fun i hi => by rw [h8 i (by omega), segW_lt x 0 q i hi, Nat.zero_add]⟩
theorem out_test {y : Int} {r : Nat} (hr : r < 64) : (IntKind.u64.wrap (y * 2 ^ (64 - r)) != 0) = decide (y % 2 ^ r ≠ 0) := by
  have hp := p2_pos (64 - r)
  have e : y * 2 ^ (64 - r) % 18446744073709551616 = y % 2 ^ r * 2 ^ (64 - r) := by
    have h1 := Int.mul_emod_mul_of_pos y (2 ^ r) hp
    have h2 := p2_split (show r ≤ 64 by omega)
    rw [← h2, Int.mul_comm y, h1, Int.mul_comm]
  rw [wrap_mod, e]
  by_cases h : y % 2 ^ r = 0
  · simp [h]
  · have : y % 2 ^ r * 2 ^ (64 - r) ≠ 0 := Int.mul_ne_zero h (by omega)
    simp [h, this]

set_option maxRecDepth 20000 in
set_option maxHeartbeats 2000000 in
theorem nshr_any (a : Option Addr) (n c q r : Nat) (x : Nat → Int) (d : Int) (w : World) (hn : n < 4000000000) (h : Num w a n c x) (hd : 1 ≤ d) (hq : d / 64 = q) (hr : d % 64 = r) (hqs : q < sizeL x n) :
    Calls Tryd.prog 58 #[.slice a n c, .int .i64 d] w fun e w' => ∃ g k cap, e = .returned (.tuple #[.slice (some ⟨g, 0, none⟩) k cap, .bool (goneB x q r)]) ∧ k ≤ n ∧ Num w' (some ⟨g, 0, none⟩) k cap (shrW x q r) ∧ sizeL (shrW x q r) k = k ∧ Below w.heap.size w w' := by
  have hb := bare_any a n c x w (by omega) h
  have hx := h.2.2.1
  have hle := sizeL_le x n
  have hN := h.bare
  generalize sizeL x n = s at *
  clear h
  have hr64 : r < 64 := by omega
  obtain ⟨b, off, rfl, hbs, hc⟩ := hN.cells (by omega)
  have hcq := hc q hqs
  have bq := hx q
  have hcap := hN.1
  have ht := out_test (y := x q) hr64
  have e64 : ((64 : Int) - r).toNat = 64 - r := by omega
  have hr64i : (r : Int) < 64 := by omega
  have hbt := bare_any (some ⟨b, off, none⟩) q c (segW x 0 q) w (by omega) (hN.take (by omega))
  have es : sizeL (segW x 0 q) q = sizeL x q := sizeL_congr q fun i hi => by rw [segW_lt x 0 q i hi, Nat.zero_add]
  rw [es] at hbt
  have hsq := sizeL_le x q
  obtain ⟨N, hNs⟩ : ∃ N, s - q = N := ⟨_, rfl⟩
  have hNi : (s : Int) - q = N := by omega
  have hmk := fun w => make_any ((s : Int) - q) N hNi (by omega) w
  have hA := apart_of (hN.drop (q := q) (by omega))
  have hO := Own.new w (fun _ => 0) N
  have hBW := below1 w (.cells (arrOf (fun _ => 0) N) 22)
  have hsd := shiftDown_any w.heap.size N N N (c - q) r (some ⟨b, off + q, none⟩) (fun _ => 0) (fun i => x (q + i)) _ (Nat.le_refl _) (by omega) hr64 hO (by have := (hN.drop (q := q) (by omega)).next hBW; rw [hNs] at this; exact this) hA
  have HZ : Hid (∀ j, N ≤ j → shrW x q r j = 0) := fun j hj => shrW_zero hN.2.2.2.1 q r j (by omega)
  have HW : Hid (Words (shrW x q r)) := shrW_words hx q r
  have HD : Hid (∀ i, i < N → dnZ (fun _ => 0) (fun i => x (q + i)) r N 0 i = shrW x q r i) := fun i hi => by
    unfold dnZ; rw [if_pos (by omega)]; unfold shrW; simp only [Nat.zero_add, Nat.add_assoc]
  have HB : Hid (Below w.heap.size w (w.alloc (.cells (arrOf (fun _ => 0) N) 22))) := hBW
  have HNN : Hid (N ≤ s) := by show _ ≤ _; omega
  have hqsi : (q : Int) < s := by omega
  have hqc : (q : Int) ≤ c := by omega
  have HG : Hid (goneB x q r = (decide (0 < sizeL x q) || decide (x q % 2 ^ r ≠ 0))) := rfl
  have fin : ∀ w1, Own w.heap.size N (dnZ (fun _ => 0) (fun i => x (q + i)) r N 0) w1 → ∃ k, k ≤ N ∧ Num w1 (some ⟨w.heap.size, 0, none⟩) k N (shrW x q r) ∧ sizeL (shrW x q r) k = k ∧ Calls Tryd.prog 50 #[.slice (some ⟨w.heap.size, 0, none⟩) N N] w1 fun e w' => e = .returned (.slice (some ⟨w.heap.size, 0, none⟩) k N) ∧ w1 = w' := by
    intro w1 hO1
    have hO2 := hO1.congr HD.out
    have h1 := hO2.num HW.out 0 N N (by omega) (Nat.le_refl _) (by unfold maxLen; omega)
    have e : segW (shrW x q r) 0 N = shrW x q r := by
      funext i
      by_cases hi : i < N
      · rw [segW_lt _ 0 N i hi, Nat.zero_add]
      · rw [segW_zero _ 0 N i (by omega), HZ.out i (by omega)]
    rw [e] at h1
    exact ⟨sizeL (shrW x q r) N, sizeL_le _ _, h1.bare, sizeL_sizeL _ _, bare_any _ N N _ w1 (by omega) h1⟩
  have FIN : Hid (∀ w1, Own w.heap.size N (dnZ (fun _ => 0) (fun i => x (q + i)) r N 0) w1 → ∃ k, k ≤ N ∧ Num w1 (some ⟨w.heap.size, 0, none⟩) k N (shrW x q r) ∧ sizeL (shrW x q r) k = k ∧ Calls Tryd.prog 50 #[.slice (some ⟨w.heap.size, 0, none⟩) N N] w1 fun e w' => e = .returned (.slice (some ⟨w.heap.size, 0, none⟩) k N) ∧ w1 = w') := fin
  clear fin hBW hN hA hO hc hx HZ HW HD es hNi
  generalize dnZ (fun _ => 0) (fun i => x (q + i)) r N 0 = zz at *
  by_cases hm : x q % 2 ^ r = 0
  · have htf : (IntKind.u64.wrap (x q * 2 ^ (64 - r)) != 0) = false := by rw [ht]; simp [hm]
    have HGv : Hid (goneB x q r = decide (0 < sizeL x q)) := by show _ = _; rw [HG.out]; simp [hm]
    generalize sizeL x q = sq at *
    clear ht HG hm
    by_cases hsq0 : sq = 0
    · subst hsq0
      go_enter Tryd.func58, Tryd.ntmps58
      go_wp2_with (first | (go_at_call_of 50 (Value.slice (some ⟨b, off, none⟩) n c); refine hb.mono ?_; rintro e w' ⟨rfl, rfl⟩; clear hb) | (go_at_call_of 50 (Value.slice (some ⟨b, off, none⟩) q c); refine hbt.mono ?_; rintro e w' ⟨rfl, rfl⟩; clear hbt) | (go_at_call 72; refine hsd.mono ?_; rintro e w1 ⟨rfl, hO1, hU1⟩))
      obtain ⟨k, hkN, hNk, hsk, hbr⟩ := FIN.out w1 hO1
      have HB2 : Hid (Below w.heap.size w w1) := HB.out.trans (hU1.below (Nat.le_refl _))
      have HNk : Hid (Num w1 (some ⟨w.heap.size, 0, none⟩) k N (shrW x q r)) := hNk
      clear hO1 hU1 hNk
      go_wp2_with (go_at_call 50; refine hbr.mono ?_; rintro e w3 ⟨rfl, rfl⟩)
      go_ret2
      exact ⟨_, k, N, by rw [HGv.out]; rfl, by have := HNN.out; omega, HNk.out, hsk, HB2.out⟩
    · have hsq0' : (0 : Int) < sq := by omega
      go_enter Tryd.func58, Tryd.ntmps58
      go_wp2_with (first | (go_at_call_of 50 (Value.slice (some ⟨b, off, none⟩) n c); refine hb.mono ?_; rintro e w' ⟨rfl, rfl⟩; clear hb) | (go_at_call_of 50 (Value.slice (some ⟨b, off, none⟩) q c); refine hbt.mono ?_; rintro e w' ⟨rfl, rfl⟩; clear hbt) | (go_at_call 72; refine hsd.mono ?_; rintro e w1 ⟨rfl, hO1, hU1⟩))
      obtain ⟨k, hkN, hNk, hsk, hbr⟩ := FIN.out w1 hO1
      have HB2 : Hid (Below w.heap.size w w1) := HB.out.trans (hU1.below (Nat.le_refl _))
      have HNk : Hid (Num w1 (some ⟨w.heap.size, 0, none⟩) k N (shrW x q r)) := hNk
      clear hO1 hU1 hNk
      go_wp2_with (go_at_call 50; refine hbr.mono ?_; rintro e w3 ⟨rfl, rfl⟩)
      go_ret2
      exact ⟨_, k, N, by rw [HGv.out]; rfl, by have := HNN.out; omega, HNk.out, hsk, HB2.out⟩
  · have htt : (IntKind.u64.wrap (x q * 2 ^ (64 - r)) != 0) = true := by rw [ht]; simp [hm]
    have HGv : Hid (goneB x q r = true) := by show _ = _; rw [HG.out]; simp [hm]
    clear ht HG hm
    go_enter Tryd.func58, Tryd.ntmps58
    go_wp2_with (first | (go_at_call_of 50 (Value.slice (some ⟨b, off, none⟩) n c); refine hb.mono ?_; rintro e w' ⟨rfl, rfl⟩; clear hb) | (go_at_call_of 50 (Value.slice (some ⟨b, off, none⟩) q c); refine hbt.mono ?_; rintro e w' ⟨rfl, rfl⟩; clear hbt) | (go_at_call 72; refine hsd.mono ?_; rintro e w1 ⟨rfl, hO1, hU1⟩))
    obtain ⟨k, hkN, hNk, hsk, hbr⟩ := FIN.out w1 hO1
    have HB2 : Hid (Below w.heap.size w w1) := HB.out.trans (hU1.below (Nat.le_refl _))
    have HNk : Hid (Num w1 (some ⟨w.heap.size, 0, none⟩) k N (shrW x q r)) := hNk
    clear hO1 hU1 hNk
    go_wp2_with (go_at_call 50; refine hbr.mono ?_; rintro e w3 ⟨rfl, rfl⟩)
    go_ret2
    exact ⟨_, k, N, by rw [HGv.out]; rfl, by have := HNN.out; omega, HNk.out, hsk, HB2.out⟩
set_option maxHeartbeats 400000 in
theorem nshr_small (a : Option Addr) (n c : Nat) (x : Nat → Int) (d : Int) (w : World) (hn : n < 4000000000) (h : Num w a n c x) (hd : d < 1) :
    Calls Tryd.prog 58 #[.slice a n c, .int .i64 d] w fun e w' => e = .returned (.tuple #[.slice (some ⟨w.heap.size, 0, none⟩) (sizeL x n) (sizeL x n), .bool false]) ∧ w.alloc (.cells (arrOf x (sizeL x n)) 22) = w' := by
  have ht := ntrim_any a n c x w (by omega) h
  generalize sizeL x n = s at *
  clear h
  go_enter Tryd.func58, Tryd.ntmps58
  go_wp2_with (go_at_call 71; refine ht.mono ?_; rintro e w' ⟨rfl, rfl⟩)
  go_ret2
  exact ⟨rfl, rfl⟩
set_option maxRecDepth 20000 in
set_option maxHeartbeats 400000 in
theorem nshr_all_out (a : Option Addr) (n c : Nat) (x : Nat → Int) (d : Int) (w : World) (hn : n < 4000000000) (h : Num w a n c x) (hd : 1 ≤ d) (hd2 : d ≤ 9223372036854775807) (hq : (sizeL x n : Int) ≤ d / 64) :
    Calls Tryd.prog 58 #[.slice a n c, .int .i64 d] w fun e w' => e = .returned (.tuple #[.slice none 0 0, .bool (decide (0 < sizeL x n))]) ∧ w = w' := by
  have hb := bare_any a n c x w (by omega) h
  generalize sizeL x n = s at *
  clear h
  obtain ⟨q, hq2⟩ : ∃ q : Nat, d / 64 = q := ⟨(d / 64).toNat, by omega⟩
  obtain ⟨r, hr⟩ : ∃ r : Nat, d % 64 = r := ⟨(d % 64).toNat, by omega⟩
  rw [hq2] at hq
  have hqn : s ≤ q := by omega
  have hqm : ¬ q < s := by omega
  have hqb : (q : Int) ≤ 144115188075855871 := by omega
  go_enter Tryd.func58, Tryd.ntmps58
  go_wp2_with (go_at_call 50; refine hb.mono ?_; rintro e w' ⟨rfl, rfl⟩)
  go_ret2
  exact ⟨rfl, rfl⟩

/-- the words of x divided by 2^d; and what is told -/
def shrF (x : Nat → Int) (d : Int) : Nat → Int := if d < 1 then x else shrW x (d / 64).toNat (d % 64).toNat
def shrG (x : Nat → Int) (d : Int) : Bool := if d < 1 then false else goneB x (d / 64).toNat (d % 64).toNat
theorem goneB_out {x : Nat → Int} {n q r : Nat} (zx : ∀ i, n ≤ i → x i = 0) (h : sizeL x n ≤ q) : goneB x q r = decide (0 < sizeL x n) := by
  have z := sizeL_zero n zx
  unfold goneB
  rw [z q h, ← sizeL_sizeL x n, sizeL_more z q h]
  simp
theorem nshr_all (a : Option Addr) (n c : Nat) (x : Nat → Int) (d : Int) (w : World) (hn : n < 4000000000) (h : Num w a n c x) (hd2 : d ≤ 9223372036854775807) :
    Calls Tryd.prog 58 #[.slice a n c, .int .i64 d] w fun e w' => ∃ o k cap, e = .returned (.tuple #[.slice o k cap, .bool (shrG x d)]) ∧ k ≤ n ∧ Num w' o k cap (shrF x d) ∧ sizeL (shrF x d) k = k ∧ Below w.heap.size w w' := by
  have hle := sizeL_le x n
  by_cases hd : d < 1
  · have e1 : shrF x d = x := by unfold shrF; rw [if_pos hd]
    have e2 : shrG x d = false := by unfold shrG; rw [if_pos hd]
    rw [e1, e2]
    refine (nshr_small a n c x d w hn h hd).mono fun e w' hw => ⟨_, sizeL x n, sizeL x n, hw.1, hle, ?_, sizeL_sizeL x n, hw.2 ▸ below1 w _⟩
    rw [← hw.2]
    exact num_of_block (by omega) h.2.2.1 h.bare.2.2.2.1 (arrOf_size _ _) (fun j hj => arrOf_get _ _ _ _)
  · obtain ⟨q, hq⟩ : ∃ q : Nat, d / 64 = q := ⟨(d / 64).toNat, by omega⟩
    obtain ⟨r, hr⟩ : ∃ r : Nat, d % 64 = r := ⟨(d % 64).toNat, by omega⟩
    have e1 : shrF x d = shrW x q r := by unfold shrF; rw [if_neg hd, hq, hr, Int.toNat_natCast, Int.toNat_natCast]
    have e2 : shrG x d = goneB x q r := by unfold shrG; rw [if_neg hd, hq, hr, Int.toNat_natCast, Int.toNat_natCast]
    rw [e1, e2]
    by_cases hqs : q < sizeL x n
    · exact (nshr_any a n c q r x d w hn h (by omega) hq hr hqs).mono fun e w' ⟨g, k, cap, e1, h2, h3, h4, h5⟩ => ⟨_, k, cap, e1, h2, h3, h4, h5⟩
    · have e3 : shrW x q r = fun _ => 0 := by funext j; exact shrW_zero h.bare.2.2.2.1 q r j (by omega)
      rw [e3, goneB_out h.2.2.2.1 (by omega)]
      exact (nshr_all_out a n c x d w hn h (by omega) hd2 (by omega)).mono fun e w' hw => ⟨none, 0, 0, hw.1, Nat.zero_le _, num_none w', rfl, hw.2 ▸ Below.refl _ _⟩
end
theorem val_one1 (c : Int) : val (oneW c) 1 = c := by simp [val, oneW]
end Go.Proofs.YtpemdcnneabbfaaDoor
