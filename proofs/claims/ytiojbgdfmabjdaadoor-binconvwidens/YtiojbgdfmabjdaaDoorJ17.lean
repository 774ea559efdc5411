/-
  Texts that the proof leans on.
-/
import Derived.Test.YtiojbgdfmabjdaaDoorJ14
set_option linter.unusedVariables false
set_option linter.unusedSimpArgs false
set_option linter.unusedSectionVars false
set_option maxRecDepth 20000
namespace Go.Proofs.YtiojbgdfmabjdaaDoor
open Go.RowKit
theorem bor_val {x y b : Int} (hx : 0 ≤ x ∧ x ≤ 18446744073709551615) (hy : 0 ≤ y ∧ y ≤ 18446744073709551615) (hb : 0 ≤ b ∧ b ≤ 1) : (x - y - b) % 18446744073709551616 - bor x y b * 18446744073709551616 = x - y - b := by
  unfold bor; split <;> omega
theorem dif_val {x y : Nat → Int} (hx : Words x) (hy : Words y) : ∀ n, val (difW x y) n - borW x y n * 18446744073709551616 ^ n = val x n - val y n
  | 0 => by simp [val, borW]
  | n + 1 => by
    have ih := dif_val hx hy n
    have h := bor_val (hx n) (hy n) (borW_01 x y n)
    show val (difW x y) n + difW x y n * 18446744073709551616 ^ n - bor (x n) (y n) (borW x y n) * 18446744073709551616 ^ (n + 1) = val x n + x n * 18446744073709551616 ^ n - (val y n + y n * 18446744073709551616 ^ n)
    have hd : difW x y n = (x n - y n - borW x y n) % 18446744073709551616 := rfl
    rw [← hd] at h
    rw [Int.pow_succ]
    generalize (18446744073709551616 : Int) ^ n = P at *
    grind
section
set_option maxHeartbeats 400000 in
theorem nlen_any (a : Option Addr) (n c : Nat) (x : Nat → Int) (w : World) (hn : n < 100000000) (h : Num w a n c x) :
    Calls Tryd.prog 51 #[.slice a n c] w fun e w' => e = .returned (.int .i64 (lenL x n)) ∧ w = w' := by
  have hb := bare_any a n c x w (by omega) h
  have hle := sizeL_le x n
  by_cases h0 : sizeL x n = 0
  · have HL : Hid (lenL x n = 0) := by show _ = _; simp [lenL, h0]
    rw [h0] at hb
    clear h0 h
    go_enter Tryd.func51, Tryd.ntmps51
    go_wp2_with (go_at_call 65; refine hb.mono ?_; rintro e w' ⟨rfl, rfl⟩)
    go_ret
    exact ⟨ret_int HL.out.symm, rfl⟩
  · obtain ⟨j, hj⟩ : ∃ j, sizeL x n = j + 1 := ⟨sizeL x n - 1, by omega⟩
    have HL : Hid (lenL x n = 64 * (j : Int) + Lib.bitLen (x j).toNat) := by show _ = _; simp [lenL, hj]; omega
    obtain ⟨b, off, rfl, hbs, hc⟩ := h.cells (by omega)
    rw [hj] at hb
    have hcj := hc j (by omega)
    have hbx := h.2.2.1 j
    have hbl := bitLen64 (x j).toNat
    have hj' : j + 1 ≤ n := by omega
    clear h0 hc hj hle h
    have hcl := Tryd.bits_Len64 (x j) w hbx.1 hbx.2
    generalize Lib.bitLen (x j).toNat = L at *
    go_enter Tryd.func51, Tryd.ntmps51
    go_wp2_with (first | (go_at_call 65; refine hb.mono ?_; rintro e w' ⟨rfl, rfl⟩) | (go_at_call 50; refine hcl.mono ?_; rintro e w' ⟨rfl, rfl⟩))
    go_ret
    exact ⟨ret_int (by rw [HL.out]; omega), rfl⟩
set_option maxHeartbeats 400000 in
theorem rlen_nil (w : World) : Calls Tryd.prog 33 #[.slice none 0 0] w fun e w' => e = .returned (.int .i64 0) ∧ w = w' := by
  have hs := size_nil w
  go_enter Tryd.func33, Tryd.ntmps33
  go_wp2_with (go_at_call 49; refine hs.mono ?_; rintro e w' ⟨rfl, rfl⟩)
  go_ret
  exact ⟨rfl, rfl⟩
theorem rlen_num (a : Option Addr) (n c : Nat) (x : Nat → Int) (w : World) (hn : n < 100000000) (h : Num w a n c x) :
    Calls Tryd.prog 33 #[.slice a n c] w fun e w' => e = .returned (.int .i64 (lenL x n)) ∧ w = w' := by
  have h' := h
  obtain ⟨h1, h2, h3, h4, h5⟩ := h'
  rcases h5 with ⟨rfl, rfl⟩ | ⟨b, off, rfl, hb, hc⟩
  · obtain rfl : n = 0 := by omega
    exact rlen_nil w
  · exact (len_any b off n c x w hn h3 hc).mono fun e w' hw => ⟨hw.1, hw.2.symm⟩
end
theorem ncmp_b (a a' : Option Addr) (n c n' c' : Nat) (x y : Nat → Int) (w : World) (hn : n < 4294967296) (hn' : n' < 4294967296) (h : Num w a n c x) (h' : Num w a' n' c' y) :
    Calls Tryd.prog 47 #[.slice a n c, .slice a' n' c'] w fun e w' => e = .returned (.int .i64 (sgn (val x n) (val y n'))) ∧ Below w.heap.size w w' :=
  (ncmp_any a a' n c n' c' x y w hn hn' h h').mono fun e w' ⟨h1, m, hm⟩ => ⟨h1, hm ▸ below_drewN (Below.refl _ _) m⟩
theorem num_none (w : World) : Num w none 0 0 (fun _ => 0) := ⟨Nat.le_refl _, by unfold maxLen; omega, fun _ => (by decide : (0 : Int) ≤ 0 ∧ (0 : Int) ≤ 18446744073709551615), fun _ _ => rfl, Or.inl ⟨rfl, rfl⟩⟩
section
set_option maxHeartbeats 1000000 in
theorem mulAdd_any (a n z C : Int) (w : World) (ha : 0 ≤ a ∧ a ≤ 18446744073709551615) (hn : 0 ≤ n ∧ n ≤ 18446744073709551615) (hz : 0 ≤ z ∧ z ≤ 18446744073709551615) (hC : 0 ≤ C ∧ C ≤ 18446744073709551615) :
    Calls Tryd.prog 84 #[.int .u64 a, .int .u64 n, .int .u64 z, .int .u64 C] w fun e w' => ∃ l h, e = .returned (.tuple #[.int .u64 l, .int .u64 h]) ∧ l + h * 18446744073709551616 = a * n + z + C ∧ (0 ≤ l ∧ l ≤ 18446744073709551615) ∧ (0 ≤ h ∧ h ≤ 18446744073709551615) ∧ w = w' := by
  have hms := mul_step a n z C ha hn hz hC
  have hmul := mul64 a n ha hn w
  have hL0 : 0 ≤ a * n % 18446744073709551616 := Int.emod_nonneg _ (by decide)
  have hA1 := fun w => add64z (a * n % 18446744073709551616) z hL0 hz.1 w
  have hs0 : 0 ≤ (a * n % 18446744073709551616 + z) % 18446744073709551616 := Int.emod_nonneg _ (by decide)
  have hA2 := fun w => add64z ((a * n % 18446744073709551616 + z) % 18446744073709551616) C hs0 hC.1 w
  have ht0 : 0 ≤ ((a * n % 18446744073709551616 + z) % 18446744073709551616 + C) % 18446744073709551616 ∧ ((a * n % 18446744073709551616 + z) % 18446744073709551616 + C) % 18446744073709551616 ≤ 18446744073709551615 := by omega
  generalize ((a * n % 18446744073709551616 + z) % 18446744073709551616 + C) % 18446744073709551616 = t2 at *
  generalize ((a * n % 18446744073709551616 + z) % 18446744073709551616 + C) / 18446744073709551616 = f2 at *
  generalize (a * n % 18446744073709551616 + z) % 18446744073709551616 = t1 at *
  generalize (a * n % 18446744073709551616 + z) / 18446744073709551616 = f1 at *
  generalize a * n % 18446744073709551616 = lo at *
  generalize a * n / 18446744073709551616 = hi at *
  have HMS : Hid (t2 + (hi + f1 + f2) * 18446744073709551616 = a * n + z + C) := hms.1
  have hb1 : 0 ≤ hi + f1 := hms.2.1
  have hb2 : hi + f1 ≤ 18446744073709551615 := hms.2.2.1
  have hb3 : 0 ≤ hi + f1 + f2 := hms.2.2.2.1
  have hb4 : hi + f1 + f2 ≤ 18446744073709551615 := hms.2.2.2.2
  clear hms
  go_enter Tryd.func84, Tryd.ntmps84
  go_wp2_with (go_at_call 88; refine hmul.mono ?_; rintro e w' ⟨rfl, rfl⟩)
  go_ret2
  exact ⟨t2, hi + f1 + f2, rfl, HMS.out, ht0, ⟨hb3, hb4⟩, rfl⟩

theorem apart_of {w : World} {a : Option Addr} {n c : Nat} {x : Nat → Int} (h : Num w a n c x) : Apart a w.heap.size := by
  intro p hp
  rcases h.2.2.2.2 with ⟨h, _⟩ | ⟨b, off, h, hb, _⟩
  · rw [h] at hp; cases hp
  · rw [h] at hp; cases hp; exact Nat.ne_of_lt hb
theorem val_zero : ∀ m, val (fun _ => 0) m = 0 := by intro m; induction m with | zero => rfl | succ m ih => simp only [val]; rw [ih]; simp
end
theorem wrap_mod (a : Int) : IntKind.u64.wrap a = a % 18446744073709551616 := by
  simp only [IntKind.wrap, IntKind.bits, IntKind.signed]
  simp
theorem p2_pos (n : Nat) : (0 : Int) < 2 ^ n := Int.pow_pos (by decide)
theorem p2_split {r : Nat} (hr : r ≤ 64) : (2 : Int) ^ (64 - r) * 2 ^ r = 18446744073709551616 := by
  rw [← Int.pow_add, show 64 - r + r = 64 by omega]; rfl
/-- what goes beyond a word that is shifted by r -/
def hiW (x : Int) (r : Nat) : Int := x * 2 ^ r / 18446744073709551616
theorem hiW_eq (x : Int) {r : Nat} (hr : r ≤ 64) : x / 2 ^ (64 - r) = hiW x r := by
  unfold hiW
  rw [← p2_split hr, Int.mul_ediv_mul_of_pos_left _ _ (p2_pos r)]
theorem hiW_bd {x : Int} (hx : 0 ≤ x ∧ x ≤ 18446744073709551615) (r : Nat) : 0 ≤ hiW x r ∧ hiW x r < 2 ^ r := by
  have hp := p2_pos r
  unfold hiW
  refine ⟨Int.ediv_nonneg (Int.mul_nonneg hx.1 (by omega)) (by decide), Int.ediv_lt_of_lt_mul (by decide) ?_⟩
  rw [Int.mul_comm (2 ^ r)]
  exact Int.mul_lt_mul_of_pos_right (by omega) hp
theorem p2_le {r : Nat} (hr : r < 64) : (2 : Int) ^ r ≤ 9223372036854775808 := by
  have h := p2_split (show r ≤ 64 by omega)
  have h1 : (2 : Int) ^ (64 - r) = 2 ^ (63 - r) * 2 := by rw [← Int.pow_succ]; congr 1; omega
  have h2 := p2_pos (63 - r)
  rw [h1] at h
  have : (1 : Int) * (2 * 2 ^ r) ≤ 2 ^ (63 - r) * (2 * 2 ^ r) := Int.mul_le_mul_of_nonneg_right (by omega) (by have := p2_pos r; omega)
  rw [← Int.mul_assoc] at this
  have e : (2 : Int) ^ (63 - r) * (2 * 2 ^ r) = 18446744073709551616 := by rw [← Int.mul_assoc]; exact h
  omega
/-- the two parts of a shifted word have no bit in common -/
theorem or_shl {y b : Int} {r : Nat} (hr : r < 64) (hy : 0 ≤ y) (hb : 0 ≤ b ∧ b < 2 ^ r) : orW b (IntKind.u64.wrap (y * 2 ^ r)) = y * 2 ^ r % 18446744073709551616 + b := by
  have hle := p2_le hr
  have hp := p2_pos r
  have hme : y * 2 ^ r % (2 ^ (64 - r) * 2 ^ r) = y % 2 ^ (64 - r) * 2 ^ r := by
    have := Int.mul_emod_mul_of_pos y (2 ^ (64 - r)) hp
    rw [Int.mul_comm y, Int.mul_comm (2 ^ (64 - r)), this, Int.mul_comm]
  rw [orW_eq b _ (by omega) (wrap_word _), wrap_mod, ← p2_split (show r ≤ 64 by omega), hme]
  have hm0 := Int.emod_nonneg y (show (2 : Int) ^ (64 - r) ≠ 0 by have := p2_pos (64 - r); omega)
  obtain ⟨u, hu⟩ := Int.eq_ofNat_of_zero_le hm0
  obtain ⟨b', rfl⟩ := Int.eq_ofNat_of_zero_le hb.1
  rw [hu]
  have e1 : ((u : Int) * 2 ^ r).toNat = 2 ^ r * u := by
    have : ((u : Int) * 2 ^ r) = ((2 ^ r * u : Nat) : Int) := by rw [Int.natCast_mul, powCast, Int.mul_comm]
    rw [this]; exact Int.toNat_natCast _
  have hb2 : b' < 2 ^ r := by
    have h := hb.2
    rw [← powCast] at h; omega
  rw [e1, Int.toNat_natCast, Nat.or_comm, ← Nat.two_pow_add_eq_or_of_lt hb2]
  rw [Int.natCast_add, Int.natCast_mul, powCast, Int.mul_comm]
/-- what comes in from the word below -/
def prevW (x : Nat → Int) (r i : Nat) : Int := if i = 0 then 0 else hiW (x (i - 1)) r
/-- the words of x times 2^r -/
def shW (x : Nat → Int) (r i : Nat) : Int := x i * 2 ^ r % 18446744073709551616 + prevW x r i
theorem prevW_bd {x : Nat → Int} (hx : Words x) (r i : Nat) : 0 ≤ prevW x r i ∧ prevW x r i < 2 ^ r := by
  unfold prevW; split
  · have := p2_pos r; omega
  · exact hiW_bd (hx _) r
theorem shW_or {x : Nat → Int} (hx : Words x) {r : Nat} (hr : r < 64) (i : Nat) : orW (prevW x r i) (IntKind.u64.wrap (x i * 2 ^ r)) = shW x r i := or_shl hr (hx i).1 (prevW_bd hx r i)
theorem prevW_word {x : Nat → Int} (hx : Words x) {r : Nat} (hr : r < 64) (i : Nat) : 0 ≤ prevW x r i ∧ prevW x r i ≤ 18446744073709551615 := by
  have := prevW_bd hx r i
  have := p2_le hr
  omega
theorem shW_words {x : Nat → Int} (hx : Words x) {r : Nat} (hr : r < 64) : Words (shW x r) := fun i => by
  rw [← shW_or hx hr i]; exact orW_word _ _ (prevW_word hx hr i) (wrap_word _)
theorem sh_val (x : Nat → Int) (r : Nat) : ∀ m, val (shW x r) m + prevW x r m * 18446744073709551616 ^ m = val x m * 2 ^ r
  | 0 => by simp [val, prevW]
  | m + 1 => by
    have ih := sh_val x r m
    show val (shW x r) m + shW x r m * 18446744073709551616 ^ m + prevW x r (m + 1) * 18446744073709551616 ^ (m + 1) = (val x m + x m * 18446744073709551616 ^ m) * 2 ^ r
    have e1 : prevW x r (m + 1) = x m * 2 ^ r / 18446744073709551616 := rfl
    have e2 : shW x r m = x m * 2 ^ r % 18446744073709551616 + prevW x r m := rfl
    have e3 := Int.emod_add_mul_ediv (x m * 2 ^ r) 18446744073709551616
    rw [e1, e2, Int.pow_succ]
    generalize x m * 2 ^ r / 18446744073709551616 = K at *
    generalize x m * 2 ^ r % 18446744073709551616 = R at *
    generalize (18446744073709551616 : Int) ^ m = P at *
    grind
theorem sh_end {x : Nat → Int} {n : Nat} (zx : ∀ i, n ≤ i → x i = 0) (r m : Nat) (h : n < m) : val (shW x r) m = val x n * 2 ^ r := by
  have e := sh_val x r m
  have e1 : prevW x r m = 0 := by
    unfold prevW hiW; rw [if_neg (by omega), zx (m - 1) (by omega)]; simp
  rw [e1, val_more zx m (by omega)] at e
  omega
/-- words that are moved up by q -/
def upW (f : Nat → Int) (q j : Nat) : Int := if q ≤ j then f (j - q) else 0
theorem val_up (f : Nat → Int) (q : Nat) : ∀ m, val (upW f q) (q + m) = val f m * 18446744073709551616 ^ q
  | 0 => by
    have : ∀ k, k ≤ q → val (upW f q) k = 0 := by
      intro k
      induction k with
      | zero => intro _; rfl
      | succ k ih =>
        intro hk
        show val (upW f q) k + upW f q k * 18446744073709551616 ^ k = 0
        rw [ih (by omega)]
        unfold upW; rw [if_neg (by omega)]; simp
    rw [Nat.add_zero, this q (Nat.le_refl _)]; simp [val]
  | m + 1 => by
    have ih := val_up f q m
    show val (upW f q) (q + m) + upW f q (q + m) * 18446744073709551616 ^ (q + m) = (val f m + f m * 18446744073709551616 ^ m) * 18446744073709551616 ^ q
    rw [ih]
    have e : upW f q (q + m) = f m := by unfold upW; rw [if_pos (by omega)]; congr 1; omega
    rw [e, Int.pow_add]
    generalize (18446744073709551616 : Int) ^ m = P
    generalize (18446744073709551616 : Int) ^ q = Q
    grind
theorem finL_up {x : Nat → Int} (hx : Words x) (q : Nat) {r : Nat} (hr : r < 64) : finL x q r = upW (shW x r) q := by
  funext j
  unfold finL upW
  by_cases h : q ≤ j
  · rw [if_pos h, if_pos h, ← shW_or hx hr (j - q)]
    congr 1
    unfold lowp prevW
    by_cases h0 : j - q = 0
    · rw [if_pos h0, if_neg (by omega)]
    · rw [if_neg h0]
      by_cases hr0 : 0 < r
      · rw [if_pos (by omega), hiW_eq _ (by omega)]
      · obtain rfl : r = 0 := by omega
        rw [if_neg (by omega)]
        unfold hiW
        have := hx (j - q - 1)
        omega
  · rw [if_neg h, if_neg h]
theorem p64 (q r : Nat) : (2 : Int) ^ r * 18446744073709551616 ^ q = 2 ^ (64 * q + r) := by
  rw [Int.pow_add, Int.pow_mul, Int.mul_comm]; rfl
/-- the value of what the document's Left lays -/
theorem finL_val {x : Nat → Int} {n : Nat} (hx : Words x) (zx : ∀ i, n ≤ i → x i = 0) (q : Nat) {r : Nat} (hr : r < 64) : val (finL x q r) (n + q + 1) = val x n * 2 ^ (64 * q + r) := by
  rw [finL_up hx q hr, show n + q + 1 = q + (n + 1) by omega, val_up, sh_end zx r (n + 1) (by omega), Int.mul_assoc, p64]
end Go.Proofs.YtiojbgdfmabjdaaDoor
