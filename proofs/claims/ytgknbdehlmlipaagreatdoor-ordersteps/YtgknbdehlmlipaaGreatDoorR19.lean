/-
  Texts that the proof leans on.
-/
import Derived.Test.YtgknbdehlmlipaaGreatDoorR18
import Derived.Test.YtgknbdehlmlipaaGreatDoorR12
import Derived.Deep.QuietTactic
import Derived.BigQuiet
import Derived.Lib.RabinKarpLaws
set_option linter.unusedVariables false
set_option linter.unusedSimpArgs false
set_option linter.unusedSectionVars false
set_option maxRecDepth 20000
namespace Go.Proofs.YtgknbdehlmlipaaGreatDoor
open Go.RowKit
theorem wrap_mod (a : Int) : IntKind.u64.wrap a = a % 18446744073709551616 := by
  simp only [IntKind.wrap, IntKind.bits, IntKind.signed]
  simp
theorem p2_pos (n : Nat) : (0 : Int) < 2 ^ n := Int.pow_pos (by decide)
theorem p2_split {r : Nat} (hr : r ≤ 64) : (2 : Int) ^ (64 - r) * 2 ^ r = 18446744073709551616 := by
  rw [← Int.pow_add, show 64 - r + r = 64 by omega]; rfl
/-- what goes beyond a word that is shifted by r -/
def hiW (x : Int) (r : Nat) : Int := x * 2 ^ r / 18446744073709551616
theorem hiW_eq (x : Int) {r : Nat} (hr : r ≤ 64) : x / 2 ^ (64 - r) = hiW x r := by
  unfold hiW
  rw [← p2_split hr, Int.mul_ediv_mul_of_pos_left _ _ (p2_pos r)]
theorem hiW_bd {x : Int} (hx : 0 ≤ x ∧ x ≤ 18446744073709551615) (r : Nat) : 0 ≤ hiW x r ∧ hiW x r < 2 ^ r := by
  have hp := p2_pos r
  unfold hiW
  refine ⟨Int.ediv_nonneg (Int.mul_nonneg hx.1 (by omega)) (by decide), Int.ediv_lt_of_lt_mul (by decide) ?_⟩
  rw [Int.mul_comm (2 ^ r)]
  exact Int.mul_lt_mul_of_pos_right (by omega) hp
theorem p2_le {r : Nat} (hr : r < 64) : (2 : Int) ^ r ≤ 9223372036854775808 := by
  have h := p2_split (show r ≤ 64 by omega)
  have h1 : (2 : Int) ^ (64 - r) = 2 ^ (63 - r) * 2 := by rw [← Int.pow_succ]; congr 1; omega
  have h2 := p2_pos (63 - r)
  rw [h1] at h
  have : (1 : Int) * (2 * 2 ^ r) ≤ 2 ^ (63 - r) * (2 * 2 ^ r) := Int.mul_le_mul_of_nonneg_right (by omega) (by have := p2_pos r; omega)
  rw [← Int.mul_assoc] at this
  have e : (2 : Int) ^ (63 - r) * (2 * 2 ^ r) = 18446744073709551616 := by rw [← Int.mul_assoc]; exact h
  omega
/-- the two parts of a shifted word have no bit in common -/
theorem or_shl {y b : Int} {r : Nat} (hr : r < 64) (hy : 0 ≤ y) (hb : 0 ≤ b ∧ b < 2 ^ r) : orW b (IntKind.u64.wrap (y * 2 ^ r)) = y * 2 ^ r % 18446744073709551616 + b := by
  have hle := p2_le hr
  have hp := p2_pos r
  have hme : y * 2 ^ r % (2 ^ (64 - r) * 2 ^ r) = y % 2 ^ (64 - r) * 2 ^ r := by
    have := Int.mul_emod_mul_of_pos y (2 ^ (64 - r)) hp
    rw [Int.mul_comm y, Int.mul_comm (2 ^ (64 - r)), this, Int.mul_comm]
  rw [orW_eq b _ (by omega) (wrap_word _), wrap_mod, ← p2_split (show r ≤ 64 by omega), hme]
  have hm0 := Int.emod_nonneg y (show (2 : Int) ^ (64 - r) ≠ 0 by have := p2_pos (64 - r); omega)
  obtain ⟨u, hu⟩ := Int.eq_ofNat_of_zero_le hm0
  obtain ⟨b', rfl⟩ := Int.eq_ofNat_of_zero_le hb.1
  rw [hu]
  have e1 : ((u : Int) * 2 ^ r).toNat = 2 ^ r * u := by
    have : ((u : Int) * 2 ^ r) = ((2 ^ r * u : Nat) : Int) := by rw [Int.natCast_mul, powCast, Int.mul_comm]
    rw [this]; exact Int.toNat_natCast _
  have hb2 : b' < 2 ^ r := by
    have h := hb.2
    rw [← powCast] at h; omega
  rw [e1, Int.toNat_natCast, Nat.or_comm, ← Nat.two_pow_add_eq_or_of_lt hb2]
  rw [Int.natCast_add, Int.natCast_mul, powCast, Int.mul_comm]
/-- what comes in from the word below -/
def prevW (x : Nat → Int) (r i : Nat) : Int := if i = 0 then 0 else hiW (x (i - 1)) r
/-- the words of x times 2^r -/
def shW (x : Nat → Int) (r i : Nat) : Int := x i * 2 ^ r % 18446744073709551616 + prevW x r i
theorem prevW_bd {x : Nat → Int} (hx : Words x) (r i : Nat) : 0 ≤ prevW x r i ∧ prevW x r i < 2 ^ r := by
  unfold prevW; split
  · have := p2_pos r; omega
  · exact hiW_bd (hx _) r
theorem shW_or {x : Nat → Int} (hx : Words x) {r : Nat} (hr : r < 64) (i : Nat) : orW (prevW x r i) (IntKind.u64.wrap (x i * 2 ^ r)) = shW x r i := or_shl hr (hx i).1 (prevW_bd hx r i)
theorem prevW_word {x : Nat → Int} (hx : Words x) {r : Nat} (hr : r < 64) (i : Nat) : 0 ≤ prevW x r i ∧ prevW x r i ≤ 18446744073709551615 := by
  have := prevW_bd hx r i
  have := p2_le hr
  omega
theorem shW_words {x : Nat → Int} (hx : Words x) {r : Nat} (hr : r < 64) : Words (shW x r) := fun i => by
  rw [← shW_or hx hr i]; exact orW_word _ _ (prevW_word hx hr i) (wrap_word _)
theorem sh_val (x : Nat → Int) (r : Nat) : ∀ m, val (shW x r) m + prevW x r m * 18446744073709551616 ^ m = val x m * 2 ^ r
  | 0 => by simp [val, prevW]
  | m + 1 => by
    have ih := sh_val x r m
    show val (shW x r) m + shW x r m * 18446744073709551616 ^ m + prevW x r (m + 1) * 18446744073709551616 ^ (m + 1) = (val x m + x m * 18446744073709551616 ^ m) * 2 ^ r
    have e1 : prevW x r (m + 1) = x m * 2 ^ r / 18446744073709551616 := rfl
    have e2 : shW x r m = x m * 2 ^ r % 18446744073709551616 + prevW x r m := rfl
    have e3 := Int.emod_add_mul_ediv (x m * 2 ^ r) 18446744073709551616
    rw [e1, e2, Int.pow_succ]
    generalize x m * 2 ^ r / 18446744073709551616 = K at *
    generalize x m * 2 ^ r % 18446744073709551616 = R at *
    generalize (18446744073709551616 : Int) ^ m = P at *
    grind
theorem sh_end {x : Nat → Int} {n : Nat} (zx : ∀ i, n ≤ i → x i = 0) (r m : Nat) (h : n < m) : val (shW x r) m = val x n * 2 ^ r := by
  have e := sh_val x r m
  have e1 : prevW x r m = 0 := by
    unfold prevW hiW; rw [if_neg (by omega), zx (m - 1) (by omega)]; simp
  rw [e1, val_more zx m (by omega)] at e
  omega
/-- words that are moved up by q -/
def upW (f : Nat → Int) (q j : Nat) : Int := if q ≤ j then f (j - q) else 0
theorem val_up (f : Nat → Int) (q : Nat) : ∀ m, val (upW f q) (q + m) = val f m * 18446744073709551616 ^ q
  | 0 => by
    have : ∀ k, k ≤ q → val (upW f q) k = 0 := by
      intro k
      induction k with
      | zero => intro _; rfl
      | succ k ih =>
        intro hk
        show val (upW f q) k + upW f q k * 18446744073709551616 ^ k = 0
        rw [ih (by omega)]
        unfold upW; rw [if_neg (by omega)]; simp
    rw [Nat.add_zero, this q (Nat.le_refl _)]; simp [val]
  | m + 1 => by
    have ih := val_up f q m
    show val (upW f q) (q + m) + upW f q (q + m) * 18446744073709551616 ^ (q + m) = (val f m + f m * 18446744073709551616 ^ m) * 18446744073709551616 ^ q
    rw [ih]
    have e : upW f q (q + m) = f m := by unfold upW; rw [if_pos (by omega)]; congr 1; omega
    rw [e, Int.pow_add]
    generalize (18446744073709551616 : Int) ^ m = P
    generalize (18446744073709551616 : Int) ^ q = Q
    grind
theorem finL_up {x : Nat → Int} (hx : Words x) (q : Nat) {r : Nat} (hr : r < 64) : finL x q r = upW (shW x r) q := by
  funext j
  unfold finL upW
  by_cases h : q ≤ j
  · rw [if_pos h, if_pos h, ← shW_or hx hr (j - q)]
    congr 1
    unfold lowp prevW
    by_cases h0 : j - q = 0
    · rw [if_pos h0, if_neg (by omega)]
    · rw [if_neg h0]
      by_cases hr0 : 0 < r
      · rw [if_pos (by omega), hiW_eq _ (by omega)]
      · obtain rfl : r = 0 := by omega
        rw [if_neg (by omega)]
        unfold hiW
        have := hx (j - q - 1)
        omega
  · rw [if_neg h, if_neg h]
theorem p64 (q r : Nat) : (2 : Int) ^ r * 18446744073709551616 ^ q = 2 ^ (64 * q + r) := by
  rw [Int.pow_add, Int.pow_mul, Int.mul_comm]; rfl
/-- the value of what the document's Left lays -/
theorem finL_val {x : Nat → Int} {n : Nat} (hx : Words x) (zx : ∀ i, n ≤ i → x i = 0) (q : Nat) {r : Nat} (hr : r < 64) : val (finL x q r) (n + q + 1) = val x n * 2 ^ (64 * q + r) := by
  rw [finL_up hx q hr, show n + q + 1 = q + (n + 1) by omega, val_up, sh_end zx r (n + 1) (by omega), Int.mul_assoc, p64]
section
/-- the words of z, from off on k of y's that are shifted by r laid over them -/
def upZ (z y : Nat → Int) (r off k j : Nat) : Int := if off ≤ j ∧ j < off + k then shW y r (j - off) else z j
theorem upZ_next (z y : Nat → Int) (r off k j : Nat) : (if j = off + k then shW y r k else upZ z y r off k j) = upZ z y r off (k + 1) j := by
  unfold upZ
  by_cases e : j = off + k
  · subst e
    rw [if_pos rfl, if_pos (by omega)]; congr 1; omega
  · rw [if_neg e]
    by_cases e2 : off ≤ j ∧ j < off + k
    · rw [if_pos e2, if_pos (by omega)]
    · rw [if_neg e2, if_neg (by omega)]

set_option maxHeartbeats 1000000 in
theorem shiftUp_any (g N off m c k c' r : Nat) (a' : Option Addr) (z y : Nat → Int) (w : World) (hm : off + m ≤ N) (hN : N < 4294967296) (hk : k < m) (hr : r < 64) (h : Own g N z w) (h' : Num w a' k c' y) (hA : Apart a' g) :
    Calls Tryz.prog 160 #[.slice (some ⟨g, off, none⟩) m c, .slice a' k c', .int .i64 r] w fun e w' => e = .returned (.tuple #[]) ∧ Own g N (upZ z y r off (k + 1)) w' ∧ Upd g w w' := by
  have hy := h'.2.2.1
  have hri : (r : Int) < 64 := by omega
  have e64 : ((64 : Int) - r).toNat = 64 - r := by omega
  have hk0 := h'.2.2.2.1 k (Nat.le_refl _)
  go_enter Tryz.func160, Tryz.ntmps160
  go_wp2
  go_loopw [6, 7, 8, 11] (fun cv u7 u8 i wr => ∃ (j : Nat), j ≤ k ∧ i = .int .i64 j ∧ cv = .int .u64 (prevW y r j) ∧ Own g N (upZ z y r off j) wr ∧ Upd g w wr) (fun _ _ _ i _ => k - (intOf i).toNat)
  case atStart => exact ⟨0, Nat.zero_le _, rfl, rfl, h.congr fun i _ => by unfold upZ; rw [if_neg (by omega)], Upd.refl _ _⟩
  case round =>
    obtain ⟨j, hj, rfl, rfl, hO, hU⟩ := hrel
    have hpb := prevW_word hy hr j
    by_cases hlt : j < k
    · have hji : (j : Int) < k := by omega
      have hjm : (j : Int) < m := by omega
      obtain ⟨b, off', rfl, hb, hc⟩ := (hU.num' hA h').cells (by omega)
      have hcj := hc j hlt
      have hco : ∃ u, wr.cell? ⟨g, off + j, none⟩ = some (.int .u64 u) := ⟨_, hO.cell (off + j) (by omega)⟩
      obtain ⟨u, hco⟩ := hco
      have hfo := hO.frozen (off + j)
      have b_y := hy j
      have HP : Hid (prevW y r (j + 1) = y j / 2 ^ (64 - r)) := by show _ = _; rw [hiW_eq _ (by omega)]; rfl
      have HS : Hid (bits BinOp.or IntKind.u64 (IntKind.u64.wrap (y j * 2 ^ r)) (prevW y r j) = shW y r j) := by
        show _ = _
        rw [← shW_or hy hr j]
        exact orW_comm _ _ (wrap_word _) hpb
      have HO : Hid (Own g N (upZ z y r off (j + 1)) (wr.setCell ⟨g, off + j, none⟩ (.int .u64 (shW y r j)))) := (hO.set (off + j) _).congr fun i _ => upZ_next z y r off j i
      have HU : Hid (Upd g w (wr.setCell ⟨g, off + j, none⟩ (.int .u64 (shW y r j)))) := hU.set (off + j) _
      rw [← HS.out] at HO HU
      clear hO hU hc h h' hA hy hk0 HS
      generalize prevW y r j = pv at *
      go_wp2
      go_roundw
      case rel => exact ⟨j + 1, by omega, by go_num, by rw [HP.out], HO.out, HU.out⟩
      case measure => simp [intOf]; omega
    · obtain rfl : j = k := by omega
      have hjm : (j : Int) < m := by omega
      have hco : ∃ u, wr.cell? ⟨g, off + j, none⟩ = some (.int .u64 u) := ⟨_, hO.cell (off + j) (by omega)⟩
      obtain ⟨u, hco⟩ := hco
      have hfo := hO.frozen (off + j)
      have e1 : shW y r j = prevW y r j := by unfold shW; rw [hk0]; simp
      have HO : Hid (Own g N (upZ z y r off (j + 1)) (wr.setCell ⟨g, off + j, none⟩ (.int .u64 (prevW y r j)))) := (hO.set (off + j) _).congr fun i _ => by rw [← e1]; exact upZ_next z y r off j i
      have HU : Hid (Upd g w (wr.setCell ⟨g, off + j, none⟩ (.int .u64 (prevW y r j)))) := hU.set (off + j) _
      clear hO hU h h' hA hy hk0 e1
      generalize prevW y r j = pv at *
      go_wp2
      go_end0
      exact ⟨rfl, HO.out, HU.out⟩

theorem bare_own {g N c : Nat} {z : Nat → Int} {w : World} {V : Int} (hO : Own g N z w) (hW : Words z) (hN : N < 4000000000) (hc : N ≤ c) (hc2 : c ≤ maxLen) (hv : val z N = V) :
    ∃ k z', k ≤ N ∧ Num w (some ⟨g, 0, none⟩) k c z' ∧ val z' k = V ∧ sizeL z' k = k ∧ Calls Tryz.prog 103 #[.slice (some ⟨g, 0, none⟩) N c] w fun e w' => e = .returned (.slice (some ⟨g, 0, none⟩) k c) ∧ w = w' := by
  have h := hO.num hW 0 N c (by omega) hc hc2
  refine ⟨sizeL (segW z 0 N) N, segW z 0 N, sizeL_le _ _, h.bare, ?_, sizeL_sizeL _ _, bare_any _ N c _ w (by omega) h⟩
  rw [val_bare, val_congr (x := segW z 0 N) (y := z) N fun i hi => by rw [segW_lt _ 0 N i hi, Nat.zero_add], hv]

set_option maxRecDepth 20000 in
set_option maxHeartbeats 1000000 in
theorem nshl_any (a : Option Addr) (n c : Nat) (x : Nat → Int) (d : Int) (w : World) (hn : n < 4000000000) (h : Num w a n c x) (hd : 0 ≤ d) (hs : (sizeL x n : Int) + (d + 63) / 64 ≤ 2000) :
    Calls Tryz.prog 131 #[.slice a n c, .int .i64 d] w fun e w' => ∃ g k cap z, e = .returned (.tuple #[.slice (some ⟨g, 0, none⟩) k cap, .int .i64 0]) ∧ k ≤ 2001 ∧ Num w' (some ⟨g, 0, none⟩) k cap z ∧ val z k = val x n * 2 ^ d.toNat ∧ sizeL z k = k ∧ Below w.heap.size w w' := by
  have hb := bare_any a n c x w (by omega) h
  rw [← val_bare n]
  have hx := h.2.2.1
  have hle := sizeL_le x n
  have hN := h.bare
  generalize sizeL x n = s at *
  clear h
  obtain ⟨q, hq⟩ : ∃ q : Nat, d / 64 = q := ⟨(d / 64).toNat, by omega⟩
  obtain ⟨r, hr⟩ : ∃ r : Nat, d % 64 = r := ⟨(d % 64).toNat, by omega⟩
  have hr64 : r < 64 := by omega
  have hdn : d.toNat = 64 * q + r := by omega
  rw [hdn]
  obtain ⟨N, hNs⟩ : ∃ N, s + q + 1 = N := ⟨_, rfl⟩
  have hNi : (s : Int) + q + 1 = N := by omega
  have hq2 : (q : Int) ≤ 2000 := by omega
  have hmk := fun w => make_any ((s : Int) + q + 1) N hNi (by omega) w
  have hA := apart_of hN
  have hO := Own.new w (fun _ => 0) N
  have hBW := below1 w (.cells (arrOf (fun _ => 0) N) 22)
  have hsu := shiftUp_any w.heap.size N q (N - q) (N - q) s c r a (fun _ => 0) x _ (by omega) (by omega) (by omega) hr64 hO (hN.next hBW) hA
  have hqN : (q : Int) ≤ N := by omega
  have HVL : Hid (val (upZ (fun _ => 0) x r q (s + 1)) N = val x s * 2 ^ (64 * q + r)) := by
    show _ = _
    rw [← hNs, show s + q + 1 = q + (s + 1) by omega]
    rw [val_congr (y := upW (shW x r) q) (q + (s + 1)) fun i hi => by
      unfold upZ upW
      by_cases e : q ≤ i
      · rw [if_pos (by omega), if_pos e]
      · rw [if_neg (by omega), if_neg e]]
    rw [val_up, sh_end hN.2.2.2.1 r (s + 1) (by omega), Int.mul_assoc, p64]
  have HW : Hid (Words (upZ (fun _ => 0) x r q (s + 1))) := fun i => by
    unfold upZ; split
    · exact shW_words hx hr64 _
    · exact (by decide : (0 : Int) ≤ 0 ∧ (0 : Int) ≤ 18446744073709551615)
  generalize hz : upZ (fun _ => 0) x r q (s + 1) = zz at *
  have HB : Hid (Below w.heap.size w (w.alloc (.cells (arrOf (fun _ => 0) N) 22))) := hBW
  have HNS : Hid (N ≤ 2001) := by show _ ≤ _; omega
  have hup : (s : Int) + q ≤ 2000 := by omega
  have hup2 : 0 < r → (s : Int) + (q + 1) ≤ 2000 := by omega
  clear hBW hN hA hO hNi hz hs hdn hx
  by_cases hr0 : 0 < r
  · have hr0' : (0 : Int) < r := by omega
    have hu := hup2 hr0
    clear hup2
    go_enter Tryz.func131, Tryz.ntmps131
    go_wp2_with (first | (go_at_call_of 103 (Value.slice a n c); refine hb.mono ?_; rintro e w' ⟨rfl, rfl⟩) | (go_at_call 160; refine hsu.mono ?_; rintro e w1 ⟨rfl, hO1, hU1⟩))
    obtain ⟨k, z', hkN, hNk, hvk, hsk, hbr⟩ := bare_own hO1 HW.out (by have := HNS.out; omega) (Nat.le_refl N) (by unfold maxLen; have := HNS.out; omega) HVL.out
    have HB2 : Hid (Below w.heap.size w w1) := HB.out.trans (hU1.below (Nat.le_refl _))
    have HNk : Hid (Num w1 (some ⟨w.heap.size, 0, none⟩) k N z') := hNk
    clear hO1 hU1 hNk
    go_wp2_with (go_at_call 103; refine hbr.mono ?_; rintro e w3 ⟨rfl, rfl⟩)
    go_ret2
    exact ⟨_, k, N, z', rfl, by have := HNS.out; omega, HNk.out, hvk, hsk, HB2.out⟩
  · obtain rfl : r = 0 := by omega
    clear hup2
    go_enter Tryz.func131, Tryz.ntmps131
    go_wp2_with (first | (go_at_call_of 103 (Value.slice a n c); refine hb.mono ?_; rintro e w' ⟨rfl, rfl⟩) | (go_at_call 160; refine hsu.mono ?_; rintro e w1 ⟨rfl, hO1, hU1⟩))
    obtain ⟨k, z', hkN, hNk, hvk, hsk, hbr⟩ := bare_own hO1 HW.out (by have := HNS.out; omega) (Nat.le_refl N) (by unfold maxLen; have := HNS.out; omega) HVL.out
    have HB2 : Hid (Below w.heap.size w w1) := HB.out.trans (hU1.below (Nat.le_refl _))
    have HNk : Hid (Num w1 (some ⟨w.heap.size, 0, none⟩) k N z') := hNk
    clear hO1 hU1 hNk
    go_wp2_with (go_at_call 103; refine hbr.mono ?_; rintro e w3 ⟨rfl, rfl⟩)
    go_ret2
    exact ⟨_, k, N, z', rfl, by have := HNS.out; omega, HNk.out, hvk, hsk, HB2.out⟩
end
section
attribute [local go_sem] setCell_drewN alloc_drewN

theorem and_mask {y : Int} {r : Nat} (hy : 0 ≤ y ∧ y ≤ 18446744073709551615) (hr : r < 64) : bits BinOp.and IntKind.u64 y (2 ^ r - 1) = y % 2 ^ r := by
  have h1 := p2_pos r
  have h2 := p2_le hr
  rw [u64_and _ _ hy.1 (by omega) (by omega) (by omega)]
  obtain ⟨n, rfl⟩ := Int.eq_ofNat_of_zero_le hy.1
  have e : ((2 : Int) ^ r - 1).toNat = 2 ^ r - 1 := by rw [← powCast]; omega
  rw [e, Int.toNat_natCast, Nat.and_two_pow_sub_one_eq_mod, Int.natCast_emod, powCast]
end
/-- what a word sends down into the one below it -/
def dnW (y : Int) (r : Nat) : Int := IntKind.u64.wrap (y * 2 ^ (64 - r))
theorem shr_or {y : Nat → Int} (hy : Words y) {r : Nat} (hr : r < 64) (q i : Nat) : orW (y (q + i) / 2 ^ r) (dnW (y (q + i + 1)) r) = shrW y q r i := by
  unfold shrW dnW
  by_cases h : r = 0
  · subst h
    rw [if_pos rfl, wrap_mod]
    have e : y (q + i + 1) * 2 ^ (64 - 0) % 18446744073709551616 = 0 := Int.mul_emod_left _ _
    rw [e, Int.pow_zero, Int.ediv_one, orW_zero _ (hy _)]
  · rw [if_neg h]
theorem Num.drop {w : World} {b off n c q : Nat} {x : Nat → Int} (h : Num w (some ⟨b, off, none⟩) n c x) (hq : q ≤ n) : Num w (some ⟨b, off + q, none⟩) (n - q) (c - q) (fun i => x (q + i)) := by
  obtain ⟨h1, h2, h3, h4, h5⟩ := h
  refine ⟨by omega, by omega, fun i => h3 (q + i), fun i hi => h4 (q + i) (by omega), ?_⟩
  rcases h5 with ⟨h5, _⟩ | ⟨b', off', h6, h7, h8⟩
  · cases h5
  · cases h6
    exact Or.inr ⟨b, off + q, rfl, h7, fun i hi => by have := h8 (q + i) (by omega); rw [Nat.add_assoc]; exact this⟩
theorem Num.take {w : World} {b off n c q : Nat} {x : Nat → Int} (h : Num w (some ⟨b, off, none⟩) n c x) (hq : q ≤ n) : Num w (some ⟨b, off, none⟩) q c (segW x 0 q) := by
  obtain ⟨h1, h2, h3, h4, h5⟩ := h
  refine ⟨by omega, by omega, segW_words h3 0 q, fun i hi => segW_zero x 0 q i hi, ?_⟩
  rcases h5 with ⟨h5, _⟩ | ⟨b', off', h6, h7, h8⟩
  · cases h5
  · cases h6
    exact Or.inr ⟨b, off, rfl, h7, fun i hi => by rw [h8 i (by omega), segW_lt x 0 q i hi, Nat.zero_add]⟩
section
/-- what is left, and the divisor, by their two highest words and what is below -/
structure Gs (R D u1 u0 v1 v0 P a b : Int) : Prop where
  hR : R = a + (u1 * 18446744073709551616 + u0) * (P * 18446744073709551616)
  hD : D = b + (v1 * 18446744073709551616 + v0) * P
  p : 0 < P
  a0 : 0 ≤ a
  a1 : a < P * 18446744073709551616
  b0 : 0 ≤ b
  b1 : b < P
  u1w : 0 ≤ u1 ∧ u1 ≤ 18446744073709551615
  u0w : 0 ≤ u0 ∧ u0 ≤ 18446744073709551615
  v1w : 9223372036854775808 ≤ v1 ∧ v1 ≤ 18446744073709551615
  v0w : 0 ≤ v0 ∧ v0 ≤ 18446744073709551615
  lt : R < D * 18446744073709551616

section
variable {R D u1 u0 v1 v0 P a b : Int}
theorem Gs.highR (h : Gs R D u1 u0 v1 v0 P a b) : R < ((u1 * 18446744073709551616 + u0) + 1) * 18446744073709551616 * P := by
  have := h.hR; have := h.a1
  have e : ((u1 * 18446744073709551616 + u0) + 1) * 18446744073709551616 * P = (u1 * 18446744073709551616 + u0) * (P * 18446744073709551616) + P * 18446744073709551616 := by grind
  omega
theorem Gs.lowD (h : Gs R D u1 u0 v1 v0 P a b) : (v1 * 18446744073709551616 + v0) * P ≤ D := by have := h.hD; have := h.b0; omega
/-- products of a digit with the divisor, from both sides -/
theorem Gs.times_ge (h : Gs R D u1 u0 v1 v0 P a b) {k N : Int} (hk : 0 ≤ k) (hN : N ≤ k * (v1 * 18446744073709551616 + v0)) : N * P ≤ k * D := by
  have h1 : k * ((v1 * 18446744073709551616 + v0) * P) ≤ k * D := Int.mul_le_mul_of_nonneg_left h.lowD hk
  have h2 : N * P ≤ k * (v1 * 18446744073709551616 + v0) * P := Int.mul_le_mul_of_nonneg_right hN (Int.le_of_lt h.p)
  rw [Int.mul_assoc] at h2
  omega
/-- the first guess is not too small -/
theorem Gs.first (h : Gs R D u1 u0 v1 v0 P a b) : R < ((u1 * 18446744073709551616 + u0) / v1 + 1) * D := by
  have hv : 0 < v1 := by have := h.v1w; omega
  have h1 := h.highR
  have hq := Int.lt_mul_ediv_self_add (x := u1 * 18446744073709551616 + u0) hv
  have hq0 : 0 ≤ (u1 * 18446744073709551616 + u0) / v1 := Int.ediv_nonneg (by have := h.u1w; have := h.u0w; omega) (Int.le_of_lt hv)
  have := h.v0w
  generalize (u1 * 18446744073709551616 + u0) / v1 = k at *
  have h2 : (u1 * 18446744073709551616 + u0 + 1) * 18446744073709551616 ≤ (k + 1) * (v1 * 18446744073709551616 + v0) := by
    have e : (k + 1) * (v1 * 18446744073709551616 + v0) = (v1 * k + v1) * 18446744073709551616 + (k + 1) * v0 := by grind
    have : 0 ≤ (k + 1) * v0 := Int.mul_nonneg (by omega) (by omega)
    omega
  have h3 := h.times_ge (by omega) h2
  omega
end

/-- words shifted down: their value -/
theorem dn_val {y : Nat → Int} (hy : Words y) {r : Nat} (hr : r < 64) : ∀ m, val (shrW y 0 r) m * 2 ^ r + y 0 % 2 ^ r = val y m + y m % 2 ^ r * 18446744073709551616 ^ m
  | 0 => by simp [val]
  | m + 1 => by
    have ih := dn_val hy hr m
    have hp := p2_pos r
    have e1 : shrW y 0 r m = y m / 2 ^ r + y (m + 1) % 2 ^ r * 2 ^ (64 - r) := by
      have h1 := shr_or hy hr 0 m
      rw [Nat.zero_add] at h1
      rw [← h1]
      unfold dnW
      have hme : y (m + 1) * 2 ^ (64 - r) % 18446744073709551616 = y (m + 1) % 2 ^ r * 2 ^ (64 - r) := by
        have h3 := Int.mul_emod_mul_of_pos (y (m + 1)) (2 ^ r) (p2_pos (64 - r))
        rw [← p2_split (show r ≤ 64 by omega), Int.mul_comm (y (m + 1)), h3, Int.mul_comm]
      have hlt : y m / 2 ^ r < 2 ^ (64 - r) := by
        refine Int.ediv_lt_of_lt_mul hp ?_
        rw [p2_split (show r ≤ 64 by omega)]
        have := hy m; omega
      by_cases h0 : r = 0
      · subst h0
        have : y (m + 1) * 2 ^ (64 - 0) % 18446744073709551616 = 0 := Int.mul_emod_left _ _
        rw [wrap_mod, this, orW_zero _ (div_word _ _ (hy m))]
        simp [Int.emod_one]
      · have h64 : 64 - (64 - r) = r := by omega
        have ho := or_shl (y := y (m + 1)) (b := y m / 2 ^ r) (r := 64 - r) (by omega) (hy (m + 1)).1 ⟨(div_word _ _ (hy m)).1, hlt⟩
        rw [ho, hme]; omega
    show (val (shrW y 0 r) m + shrW y 0 r m * 18446744073709551616 ^ m) * 2 ^ r + y 0 % 2 ^ r = val y m + y m * 18446744073709551616 ^ m + y (m + 1) % 2 ^ r * 18446744073709551616 ^ (m + 1)
    have e2 := Int.emod_add_mul_ediv (y m) (2 ^ r)
    have e3 := p2_split (show r ≤ 64 by omega)
    rw [e1, Int.pow_succ]
    generalize (18446744073709551616 : Int) ^ m = Q at *
    generalize y m / 2 ^ r = A at *
    generalize y m % 2 ^ r = A' at *
    generalize y (m + 1) % 2 ^ r = C at *
    generalize y 0 % 2 ^ r = Z at *
    generalize (2 : Int) ^ (64 - r) = T at *
    generalize (2 : Int) ^ r = S at *
    grind
end
theorem seg_next (z : Nat → Int) (off j : Nat) : val (segW z off (j + 1)) (j + 1) = val (segW z off j) j + z (off + j) * 18446744073709551616 ^ j := by
  show val (segW z off (j + 1)) j + segW z off (j + 1) j * 18446744073709551616 ^ j = _
  rw [segW_lt z off (j + 1) j (by omega), val_congr (x := segW z off (j + 1)) (y := segW z off j) j fun i hi => by rw [segW_lt _ _ _ i (by omega), segW_lt _ _ _ i hi]]
theorem val_split (z : Nat → Int) (j : Nat) : ∀ m, val z (j + m) = val z j + val (segW z j m) m * 18446744073709551616 ^ j
  | 0 => by simp [val]
  | m + 1 => by
    rw [seg_next]
    show val z (j + m) + z (j + m) * 18446744073709551616 ^ (j + m) = _
    rw [val_split z j m, Int.pow_add]; grind
theorem p64' (q r : Nat) : (18446744073709551616 : Int) ^ q * 2 ^ r = 2 ^ (64 * q + r) := by rw [Int.mul_comm]; exact p64 q r
/-- a number lies between two powers of two, by its length -/
theorem len_bd {x : Nat → Int} (hx : Words x) {n : Nat} (h : 0 < sizeL x n) : ∃ L : Nat, lenL x n = (L : Int) + 1 ∧ 2 ^ L ≤ val x n ∧ val x n < 2 ^ (L + 1) := by
  obtain ⟨j, hj⟩ : ∃ j, sizeL x n = j + 1 := ⟨sizeL x n - 1, by omega⟩
  have ht := sizeL_top (x := x) n h
  rw [hj] at ht
  have hxj := hx j
  have hne : x j ≠ 0 := ht
  obtain ⟨u, hu⟩ := Int.eq_ofNat_of_zero_le hxj.1
  have hb := bitLen_spec u (by omega) (by omega)
  have hv : val x n = val x j + x j * 18446744073709551616 ^ j := by rw [← val_bare n, hj]; rfl
  have hbd := val_bd hx j
  have hP := pw_pos j
  refine ⟨64 * j + (Lib.bitLen u - 1), ?_, ?_, ?_⟩
  · unfold lenL; rw [if_neg (by omega), hj]
    show 64 * ((j + 1 : Nat) : Int) - 64 + (Lib.bitLen (x j).toNat : Nat) = _
    rw [hu, Int.toNat_natCast]; omega
  · rw [hv, ← p64', hu]
    have h1 : (2 : Int) ^ (Lib.bitLen u - 1) ≤ u := by rw [← powCast]; omega
    have h2 : 18446744073709551616 ^ j * 2 ^ (Lib.bitLen u - 1) ≤ 18446744073709551616 ^ j * (u : Int) := Int.mul_le_mul_of_nonneg_left h1 (Int.le_of_lt hP)
    rw [Int.mul_comm _ (u : Int)] at h2
    omega
  · rw [hv, show 64 * j + (Lib.bitLen u - 1) + 1 = 64 * j + Lib.bitLen u by omega, ← p64', hu]
    have h1 : (u : Int) + 1 ≤ 2 ^ Lib.bitLen u := by rw [← powCast]; omega
    have h2 : 18446744073709551616 ^ j * ((u : Int) + 1) ≤ 18446744073709551616 ^ j * 2 ^ Lib.bitLen u := Int.mul_le_mul_of_nonneg_left h1 (Int.le_of_lt hP)
    rw [Int.mul_add, Int.mul_one, Int.mul_comm _ (u : Int)] at h2
    omega
theorem times_val (b off n c b' off' n' c' : Nat) (x y : Nat → Int) (w : World) (hn : n < 1000000) (hn' : n' < 1000000) (h : Num w (some ⟨b, off, none⟩) n c x) (h' : Num w (some ⟨b', off', none⟩) n' c' y) :
    Calls Tryz.prog 24 #[.slice (some ⟨b, off, none⟩) n c, .slice (some ⟨b', off', none⟩) n' c'] w fun e w' => ∃ g k cap z, e = .returned (.slice (some ⟨g, 0, none⟩) k cap) ∧ k ≤ n + n' + 1 ∧ Num w' (some ⟨g, 0, none⟩) k cap z ∧ val z k = val x n * val y n' ∧ Below w.heap.size w w' :=
  (times_raw b off n c b' off' n' c' x y w hn hn' h h').mono fun e w' ⟨g, k, cap, z, e1, hk, hN, hv, hB⟩ => ⟨g, k, cap, z, e1, hk, hN, by rw [← hv, val_more hN.2.2.2.1 _ hk], hB⟩
/-- words shifted down, by whole words and bits: their value -/
theorem shrW_val {y : Nat → Int} {n q r A : Nat} (hy : Words y) (hz : ∀ i, n ≤ i → y i = 0) (hr : r < 64) (m : Nat) (hm : n ≤ m) (hA : val y n = A) : val (shrW y q r) m = ((A / 2 ^ (64 * q + r) : Nat) : Int) := by
  have hw : Words (fun i => y (q + i)) := fun i => hy (q + i)
  have e1 : shrW y q r = shrW (fun i => y (q + i)) 0 r := by
    funext j; unfold shrW; simp only [Nat.zero_add, Nat.add_assoc]
  have h1 := dn_val hw hr m
  have h2 : y (q + m) = 0 := hz _ (by omega)
  simp only [h2, Int.zero_emod, Int.zero_mul, Int.add_zero, Nat.add_zero] at h1
  have h3 := val_split y q m
  have h4 : val (segW y q m) m = val (fun i => y (q + i)) m := val_congr m fun i hi => segW_lt y q m i hi
  rw [h4, val_more hz (q + m) (by omega), hA] at h3
  rw [e1]
  have hb1 := val_bd hy q
  have hb2 := val_bd (shrW_words hw (q := 0) (r := r)) m
  have hp : (0 : Int) < 2 ^ r := p2_pos r
  have hm1 := Int.emod_nonneg (y q) (Int.ne_of_gt hp)
  have hm2 := Int.emod_lt_of_pos (y q) hp
  generalize val (shrW (fun i => y (q + i)) 0 r) m = S at *
  generalize val (fun i => y (q + i)) m = Z at *
  have eZ : Z / 2 ^ r = S := by
    rw [← h1, Int.add_comm, Int.add_mul_ediv_right _ _ (Int.ne_of_gt hp), Int.ediv_eq_zero_of_lt hm1 hm2, Int.zero_add]
  have eA : (A : Int) / 18446744073709551616 ^ q = Z := by
    rw [h3, Int.add_mul_ediv_right _ _ (Int.ne_of_gt (pw_pos q)), Int.ediv_eq_zero_of_lt hb1.1 hb1.2, Int.zero_add]
  rw [← eZ, ← eA, Int.natCast_ediv, Int.ediv_ediv_of_nonneg (Int.le_of_lt (pw_pos q)), p64']
  simp
theorem bnx {w0 W W' : World} (h : Below w0.heap.size w0 W) (hb : Below W.heap.size W W') : Below w0.heap.size w0 W' := h.trans (hb.mono h.size)
/-- how many bits a number has -/
def bl (V : Nat) : Nat := if V = 0 then 0 else Nat.log2 V + 1
theorem bl_le {V k : Nat} : bl V ≤ k ↔ V < 2 ^ k := by
  unfold bl
  by_cases h : V = 0
  · subst h; simp; exact Nat.two_pow_pos k
  · rw [if_neg h]
    have := Nat.log2_lt h (k := k)
    omega
theorem bl_ge {V k : Nat} : k < bl V ↔ 2 ^ k ≤ V := by
  have := bl_le (V := V) (k := k)
  omega
theorem bl_zero {V : Nat} : bl V = 0 ↔ V = 0 := by
  unfold bl; by_cases h : V = 0 <;> simp [h]
theorem bl_eq {V L : Nat} (h1 : 2 ^ (L - 1) ≤ V) (h2 : V < 2 ^ L) : bl V = L := by
  have a := bl_le.2 h2
  by_cases h : L = 0
  · omega
  · have b := bl_ge.2 h1
    omega
/-- a number in a list of words, at most K of them -/
def Nt (K V : Nat) (v : Value) (w : World) : Prop := ∃ a k cap z, v = .slice a k cap ∧ k ≤ K ∧ Num w a k cap z ∧ val z k = (V : Int)
theorem Nt.next {K V : Nat} {v : Value} {w w' : World} (h : Nt K V v w) (hb : Below w.heap.size w w') : Nt K V v w' := by
  obtain ⟨a, k, cap, z, h1, h2, h3, h4⟩ := h
  exact ⟨a, k, cap, z, h1, h2, h3.next hb, h4⟩
theorem Nt.more {K K' V : Nat} {v : Value} {w : World} (h : Nt K V v w) (hk : K ≤ K') : Nt K' V v w := by
  obtain ⟨a, k, cap, z, h1, h2, h3, h4⟩ := h
  exact ⟨a, k, cap, z, h1, by omega, h3, h4⟩
/-- without noughts at its end -/
def Nz (K V : Nat) (v : Value) (w : World) : Prop := ∃ a k cap z, v = .slice a k cap ∧ k ≤ K ∧ Num w a k cap z ∧ val z k = (V : Int) ∧ sizeL z k = k
theorem Nz.next {K V : Nat} {v : Value} {w w' : World} (h : Nz K V v w) (hb : Below w.heap.size w w') : Nz K V v w' := by
  obtain ⟨a, k, cap, z, h1, h2, h3, h4, h5⟩ := h
  exact ⟨a, k, cap, z, h1, h2, h3.next hb, h4, h5⟩
theorem Nz.nt {K V : Nat} {v : Value} {w : World} (h : Nz K V v w) : Nt K V v w := by
  obtain ⟨a, k, cap, z, h1, h2, h3, h4, h5⟩ := h
  exact ⟨a, k, cap, z, h1, h2, h3, h4⟩
theorem size_zero {z : Nat → Int} {k V : Nat} (hz : Words z) (hv : val z k = (V : Int)) : sizeL z k = 0 ↔ V = 0 := by
  constructor
  · intro h
    have := val_bare (x := z) k
    rw [h] at this
    have h0 : val z 0 = 0 := rfl
    omega
  · intro h
    subst h
    rcases Nat.eq_zero_or_pos (sizeL z k) with h | h
    · exact h
    · exfalso
      have := val_longer (x := z) (y := z) hz hz (n := 0) (m := sizeL z k) h (sizeL_sizeL z k)
      rw [val_bare] at this
      have h0 : val z 0 = 0 := rfl
      omega
theorem len_bl {z : Nat → Int} {k V : Nat} (hz : Words z) (hv : val z k = (V : Int)) : lenL z k = (bl V : Int) := by
  rcases Nat.eq_zero_or_pos (sizeL z k) with h | h
  · have h0 := (size_zero hz hv).1 h
    unfold lenL; rw [if_pos h, h0]; rfl
  · obtain ⟨L, h1, h2, h3⟩ := len_bd hz h
    rw [hv] at h2 h3
    have e : bl V = L + 1 := by
      have e1 : ((2 : Int) ^ L) = ((2 ^ L : Nat) : Int) := by simp
      have e2 : ((2 : Int) ^ (L + 1)) = ((2 ^ (L + 1) : Nat) : Int) := by simp
      rw [e1] at h2
      rw [e2] at h3
      exact bl_eq (by rw [Nat.add_sub_cancel]; omega) (by omega)
    rw [e, h1]; omega
/-- how many words -/
theorem size_bl {z : Nat → Int} {k V m : Nat} (hz : Words z) (hv : val z k = (V : Int)) : sizeL z k ≤ m ↔ bl V ≤ 64 * m := by
  have hl := len_bl hz hv
  unfold lenL at hl
  rcases Nat.eq_zero_or_pos (sizeL z k) with h | h
  · rw [if_pos h] at hl; omega
  · rw [if_neg (by omega)] at hl
    have ht := sizeL_top k h
    have hw := hz (sizeL z k - 1)
    have hb := bitLen_spec (z (sizeL z k - 1)).toNat (by omega) (by omega)
    omega
theorem nlen_v {K V : Nat} {v : Value} {w : World} (hK : K < 100000000) (h : Nt K V v w) :
    Calls Tryz.prog 71 #[v] w fun e w' => e = .returned (.int .i64 (bl V : Int)) ∧ w = w' := by
  obtain ⟨a, k, cap, z, rfl, hk, hN, hv⟩ := h
  refine (nlen_any a k cap z w (by omega) hN).mono fun e w' ⟨h1, h2⟩ => ⟨?_, h2⟩
  rw [h1, len_bl hN.2.2.1 hv]
theorem ncmp_v {K K' V V' : Nat} {v v' : Value} {w : World} (hK : K < 100000000) (hK' : K' < 100000000) (h : Nt K V v w) (h' : Nt K' V' v' w) :
    Calls Tryz.prog 73 #[v, v'] w fun e w' => e = .returned (.int .i64 (sgn (V : Int) (V' : Int))) ∧ Below w.heap.size w w' := by
  obtain ⟨a, k, cap, z, rfl, hk, hN, hv⟩ := h
  obtain ⟨a', k', cap', z', rfl, hk', hN', hv'⟩ := h'
  have := ncmp_b a a' k cap k' cap' z z' w (by omega) (by omega) hN hN'
  rw [hv, hv'] at this
  exact this
section
theorem val_one1 (c : Int) : val (oneW c) 1 = c := by simp [val, oneW]
theorem pow_half (s : Int) (m : Nat) : s ^ m = (if m % 2 = 1 then s else 1) * (s * s) ^ (m / 2) := by
  have e : (s * s) ^ (m / 2) = s ^ (2 * (m / 2)) := by rw [Int.pow_mul]; congr 1; rw [Int.pow_succ, Int.pow_succ, Int.pow_zero, Int.one_mul]
  rw [e]
  by_cases h : m % 2 = 1
  · rw [if_pos h, Int.mul_comm, ← Int.pow_succ]; congr 1; omega
  · rw [if_neg h, Int.one_mul]; congr 1; omega

set_option maxHeartbeats 2000000 in
theorem rpow_any (b : Int) (n : Nat) (w : World) (hb : 0 ≤ b ∧ b ≤ 18446744073709551615) (hn : n ≤ 17000) :
    Calls Tryz.prog 26 #[.int .u64 b, .int .i64 n] w fun e w' => ∃ g k cap z, e = .returned (.slice (some ⟨g, 0, none⟩) k cap) ∧ k ≤ 4 * n + 2 ∧ Num w' (some ⟨g, 0, none⟩) k cap z ∧ val z k = b ^ n ∧ Below w.heap.size w w' := by
  have hN1 := num_one w 1 (by decide)
  have hB1 := below1 w (.cells #[.int .u64 1] 22)
  have hN2 := num_one (w.alloc (.cells #[.int .u64 1] 22)) b hb
  have hB2 := below1 (w.alloc (.cells #[.int .u64 1] 22)) (.cells #[.int .u64 b] 22)
  have hN1' := hN1.next hB2
  have hB := hB1.trans (hB2.mono hB1.size)
  have hs : (w.alloc (.cells #[.int .u64 1] 22)).heap.size = w.heap.size + 1 := by simp
  rw [hs] at hN2
  have HB : Hid (Below w.heap.size w ((w.alloc (.cells #[.int .u64 1] 22)).alloc (.cells #[.int .u64 b] 22))) := hB
  clear hN1 hB1 hB2 hB hs
  go_enter Tryz.func26, Tryz.ntmps26
  go_wp2
  generalize (w.alloc (.cells #[.int .u64 1] 22)).alloc (.cells #[.int .u64 b] 22) = wA at *
  go_loopw [1, 5, 6] (fun nv ov sv wr => ∃ (m P g1 k1 p1 g2 k2 p2 : Nat) (z1 z2 : Nat → Int), nv = .int .i64 m ∧ m ≤ n ∧ 1 ≤ P ∧ m * P ≤ n ∧ P ≤ 2 * n + 1 ∧ ov = .slice (some ⟨g1, 0, none⟩) k1 p1 ∧ sv = .slice (some ⟨g2, 0, none⟩) k2 p2 ∧ k1 + 1 ≤ 2 * P ∧ k2 + 1 ≤ 2 * P ∧ Num wr (some ⟨g1, 0, none⟩) k1 p1 z1 ∧ Num wr (some ⟨g2, 0, none⟩) k2 p2 z2 ∧ Hid (val z1 k1 * val z2 k2 ^ m = b ^ n) ∧ Below w.heap.size w wr) (fun nv _ _ _ => (intOf nv).toNat)
  case atStart => exact ⟨n, 1, w.heap.size, 1, 1, w.heap.size + 1, 1, 1, oneW 1, oneW b, rfl, Nat.le_refl _, Nat.le_refl _, by omega, by omega, rfl, rfl, by omega, by omega, hN1', hN2, by show _ = _; rw [val_one1, val_one1, Int.one_mul], HB.out⟩
  case round =>
    clear hN1' hN2 HB
    obtain ⟨m, P, g1, k1, p1, g2, k2, p2, z1, z2, rfl, hmn, hP, hmP, hP2, rfl, rfl, hk1, hk2, hN1, hN2, hv, hB⟩ := hrel
    by_cases h0 : m = 0
    · subst h0
      have HV : Hid (val z1 k1 = b ^ n) := by show _ = _; have := hv.out; simpa using this
      have HN1 : Hid (Num wr (some ⟨g1, 0, none⟩) k1 p1 z1) := hN1
      clear hN1 hN2 hv
      go_wp2
      go_ret
      exact ⟨g1, k1, p1, z1, rfl, by omega, HN1.out, HV.out, hB⟩
    · have hm0 : (0 : Int) < m := by omega
      have hPn : P ≤ n := by
        have : 1 * P ≤ m * P := Nat.mul_le_mul_right P (by omega)
        omega
      have hq2 : (m : Int) / 2 = ((m / 2 : Nat) : Int) := by omega
      have hr2 : (m : Int) % 2 = ((m % 2 : Nat) : Int) := by omega
      have hmP' : m / 2 * (2 * P) ≤ n := by
        have h1 : m / 2 * 2 ≤ m := Nat.div_mul_le_self m 2
        have h2 : m / 2 * 2 * P ≤ m * P := Nat.mul_le_mul_right P h1
        rw [← Nat.mul_assoc]; omega
      have HPH : Hid (val z2 k2 ^ m = (if m % 2 = 1 then val z2 k2 else 1) * (val z2 k2 * val z2 k2) ^ (m / 2)) := pow_half _ _
      have tt := fun wr (hb : Below w.heap.size w wr) h1 h2 => times_val g1 0 k1 p1 g2 0 k2 p2 z1 z2 wr (by omega) (by omega) h1 h2
      have ts := fun wr (hb : Below w.heap.size w wr) h2 => times_val g2 0 k2 p2 g2 0 k2 p2 z2 z2 wr (by omega) (by omega) h2 h2
      generalize hq : m / 2 = q at *
      by_cases hodd : m % 2 = 1
      · rw [hodd] at hr2
        rw [if_pos hodd] at HPH
        have t1 := tt wr hB hN1 hN2
        by_cases hq0 : q = 0
        · subst hq0
          have hq00 : (m : Int) / 2 = 0 := hq2
          clear hq2
          go_wp2_with (go_at_call 24; refine t1.mono ?_; rintro e w1 ⟨g3, k3, p3, z3, rfl, hk3, hN3, hv3, hb1⟩; clear tt t1)
          have HV3 : Hid (val z3 k3 * val z2 k2 ^ 0 = b ^ n) := by
            show _ = _
            rw [hv3, ← hv.out, HPH.out]; simp
          have HN3 : Hid (Num w1 (some ⟨g3, 0, none⟩) k3 p3 z3) := hN3
          have HN2 : Hid (Num w1 (some ⟨g2, 0, none⟩) k2 p2 z2) := hN2.next hb1
          have hB1 := hB.trans (hb1.mono hB.size)
          clear hN1 hN2 hN3 hv hv3 ts
          go_roundw
          case rel => exact ⟨0, 2 * P, g3, k3, p3, g2, k2, p2, z3, z2, rfl, by omega, by omega, by omega, by omega, rfl, rfl, by omega, by omega, HN3.out, HN2.out, HV3, hB1⟩
          case measure => simp [intOf]; omega
        · have hq0' : (0 : Int) < q := by omega
          go_wp2_with (go_at_call 24; refine t1.mono ?_; rintro e w1 ⟨g3, k3, p3, z3, rfl, hk3, hN3, hv3, hb1⟩; clear tt t1)
          have hB1 := hB.trans (hb1.mono hB.size)
          have hN21 := hN2.next hb1
          have t2 := ts w1 hB1 hN21
          go_wp2_with (go_at_call 24; refine t2.mono ?_; rintro e w2 ⟨g4, k4, p4, z4, rfl, hk4, hN4, hv4, hb2⟩; clear ts t2)
          have HV3 : Hid (val z3 k3 * val z4 k4 ^ q = b ^ n) := by
            show _ = _
            rw [hv3, hv4, ← hv.out, HPH.out, Int.mul_assoc]
          have HN3 : Hid (Num w2 (some ⟨g3, 0, none⟩) k3 p3 z3) := hN3.next hb2
          have HN4 : Hid (Num w2 (some ⟨g4, 0, none⟩) k4 p4 z4) := hN4
          have hB2 := hB1.trans (hb2.mono hB1.size)
          clear hN1 hN2 hN3 hN21 hN4 hv hv3 hv4
          go_roundw
          case rel => exact ⟨q, 2 * P, g3, k3, p3, g4, k4, p4, z3, z4, rfl, by omega, by omega, by omega, by omega, rfl, rfl, by omega, by omega, HN3.out, HN4.out, HV3, hB2⟩
          case measure => simp [intOf]; omega
      · have h20 : m % 2 = 0 := by omega
        rw [h20] at hr2
        rw [if_neg hodd, Int.one_mul] at HPH
        have hq0' : (0 : Int) < q := by omega
        have t2 := ts wr hB hN2
        go_wp2_with (go_at_call 24; refine t2.mono ?_; rintro e w2 ⟨g4, k4, p4, z4, rfl, hk4, hN4, hv4, hb2⟩; clear ts tt t2)
        have HV3 : Hid (val z1 k1 * val z4 k4 ^ q = b ^ n) := by
          show _ = _
          rw [hv4, ← hv.out, HPH.out]
        have HN3 : Hid (Num w2 (some ⟨g1, 0, none⟩) k1 p1 z1) := hN1.next hb2
        have HN4 : Hid (Num w2 (some ⟨g4, 0, none⟩) k4 p4 z4) := hN4
        have hB2 := hB.trans (hb2.mono hB.size)
        clear hN1 hN2 hN4 hv hv4
        go_roundw
        case rel => exact ⟨q, 2 * P, g1, k1, p1, g4, k4, p4, z1, z4, rfl, by omega, by omega, by omega, by omega, rfl, rfl, by omega, by omega, HN3.out, HN4.out, HV3, hB2⟩
        case measure => simp [intOf]; omega
end
section
def fitsP (n : Int) (x : Nat → Int) : Prop := okN n ∧ lenL (lowW x 4) 4 ≤ widthN n
instance (n : Int) (x : Nat → Int) : Decidable (fitsP n x) := inferInstanceAs (Decidable (_ ∧ _))
theorem box_num {w0 w : World} {ax : Array Value} {t : TypeId} {x : Nat → Int} (hx : Words x) (hax : ∀ i, i < 4 → ax[i]? = some (.int .u64 (x i))) (hb : Below (w0.alloc (.cells ax t)).heap.size (w0.alloc (.cells ax t)) w) :
    Num w (some ⟨w0.heap.size, 0, none⟩) 4 4 (lowW x 4) :=
  ((HasN.of_alloc w0 ax t 4 x hax).next hb).num hx (Nat.le_refl _) (Nat.le_refl _) (by unfold maxLen; omega)
theorem below_drewF {B : Nat} {a w : World} {m : Nat} (h : Below B a w) : Below B a (w.drewN m) := ⟨h.os, h.tape, h.output, h.size, h.block⟩
theorem num_drewN {w : World} {a : Option Addr} {n c : Nat} {x : Nat → Int} (h : Num w a n c x) (m : Nat) : Num (w.drewN m) a n c x := h
set_option maxHeartbeats 1000000 in
theorem fits_any (n : Int) (x : Nat → Int) (hx : Words x) (ax : Array Value) (hax : ∀ i, i < 4 → ax[i]? = some (.int .u64 (x i))) (hs : ax.size = 4) (w : World) (hT : Tab w) :
    Calls Tryz.prog 119 #[.int .i64 n, .agg ax] w fun e w' => e = .returned (.bool (decide (fitsP n x))) ∧ Below w.heap.size w w' := by
  have c1 := fun w hT => ofv_any n w hT
  have f1 := fields_bounds n
  by_cases hn : okN n
  · have hE : infoE n = 0 := if_pos hn
    rw [hE] at c1
    have hd : decide (fitsP n x) = decide (lenL (lowW x 4) 4 ≤ widthN n) := by unfold fitsP; simp [hn]
    go_enter Tryz.func119, Tryz.ntmps119
    go_wp2_with (go_at_call 81; refine (c1 _ (hT.alloc _)).mono ?_; rintro e w1 ⟨rfl, hb⟩)
    have hN := ((box_num hx hax hb).next (below1' w1 (.cells #[.int .i64 (numN n), .string (nameN n), .int .i64 (baseN n), .int .i64 (widthN n), .int .i64 (precN n), .int .i64 (expN n), .int .i64 (leastN n), .int .i64 (mostN n), .int .i64 (payN n), .bool (denseN n)] 95)))
    have cl := fun m => (nlen_any _ _ _ _ _ (by decide) (num_drewN hN m)).mono (fun e w' h => (⟨h.1, h.2.symm⟩ : e = .returned (.int .i64 (lenL (lowW x 4) 4)) ∧ w' = _))
    clear hN
    go_quiet ((go_at_call 71; exact Calls.quiet_of_same (cl _)))
    all_goals
      go_wp2
      go_ret
      refine ⟨?_, below_drewF (((below1' w _).trans (hb.mono (below1' w _).size)).alloc (Nat.le_trans (below1' w _).size hb.size) _)⟩
      rw [hd]
      rfl
  · have hE : infoE n = 1 := if_neg hn
    rw [hE] at c1
    have hd : decide (fitsP n x) = false := decide_eq_false fun h => hn h.1
    rw [hd]
    go_enter Tryz.func119, Tryz.ntmps119
    go_wp2_with (go_at_call 81; refine (c1 _ (hT.alloc _)).mono ?_; rintro e w1 ⟨rfl, hb⟩)
    go_quiet (fail)
    all_goals
      go_wp2
      go_ret
      exact ⟨rfl, below_drewF (((below1' w _).trans (hb.mono (below1' w _).size)).alloc (Nat.le_trans (below1' w _).size hb.size) _)⟩

set_option maxHeartbeats 1000000 in
theorem rfits_any (n : Int) (x : Nat → Int) (hx : Words x) (ax : Array Value) (hax : ∀ i, i < 4 → ax[i]? = some (.int .u64 (x i))) (hs : ax.size = 4) (w : World) :
    Calls Tryz.prog 44 #[.int .i64 n, .agg ax] w fun e w' => e = .returned (.bool (decide (fitsP n x))) ∧ Below w.heap.size w w' := by
  have c1 := fun w => rofv_any n w
  have f1 := fields_bounds n
  by_cases hn : okN n
  · have hE : infoE n = 0 := if_pos hn
    rw [hE] at c1
    have hd : decide (fitsP n x) = decide (lenL (lowW x 4) 4 ≤ widthN n) := by unfold fitsP; simp [hn]
    go_enter Tryz.func44, Tryz.ntmps44
    go_wp2_with (go_at_call 20; refine (c1 _).mono ?_; rintro e w1 ⟨rfl, hb⟩)
    have hN := ((box_num hx hax hb).next (below1' w1 (.cells #[.int .i64 (numN n), .string (nameN n), .int .i64 (baseN n), .int .i64 (widthN n), .int .i64 (precN n), .int .i64 (expN n), .int .i64 (leastN n), .int .i64 (mostN n), .int .i64 (payN n), .bool (denseN n)] 45)))
    have cl := fun m => (rlen_num _ _ _ _ _ (by decide) (num_drewN hN m)).mono (fun e w' h => (⟨h.1, h.2.symm⟩ : e = .returned (.int .i64 (lenL (lowW x 4) 4)) ∧ w' = _))
    clear hN
    go_quiet ((go_at_call 23; exact Calls.quiet_of_same (cl _)))
    all_goals
      go_wp2
      go_ret
      refine ⟨?_, below_drewF (((below1' w _).trans (hb.mono (below1' w _).size)).alloc (Nat.le_trans (below1' w _).size hb.size) _)⟩
      rw [hd]
      rfl
  · have hE : infoE n = 1 := if_neg hn
    rw [hE] at c1
    have hd : decide (fitsP n x) = false := decide_eq_false fun h => hn h.1
    rw [hd]
    go_enter Tryz.func44, Tryz.ntmps44
    go_wp2_with (go_at_call 20; refine (c1 _).mono ?_; rintro e w1 ⟨rfl, hb⟩)
    go_quiet (fail)
    all_goals
      go_wp2
      go_ret
      exact ⟨rfl, below_drewF (((below1' w _).trans (hb.mono (below1' w _).size)).alloc (Nat.le_trans (below1' w _).size hb.size) _)⟩
end
section
theorem p10_posN (n : Nat) : (0 : Int) < 10 ^ n := Int.pow_pos (by decide)

theorem val_ones : ∀ t, val (fun _ => 18446744073709551615) t = 18446744073709551616 ^ t - 1
  | 0 => by simp [val]
  | t + 1 => by
    show val (fun _ => 18446744073709551615) t + 18446744073709551615 * 18446744073709551616 ^ t = 18446744073709551616 ^ (t + 1) - 1
    rw [val_ones t, Int.pow_succ]; omega
/-- a trimmed number below B^t has t words at most -/
theorem size_bound {z : Nat → Int} (hz : Words z) {k t : Nat} (hs : sizeL z k = k) (hv : val z k < 18446744073709551616 ^ t) : k ≤ t := by
  rcases Nat.lt_or_ge t k with h | h
  · have := val_longer (x := fun _ => 18446744073709551615) (fun _ => (by decide : (0 : Int) ≤ 18446744073709551615 ∧ (18446744073709551615 : Int) ≤ 18446744073709551615)) hz h hs
    rw [val_ones] at this; omega
  · exact h
theorem p19 : ∀ t : Nat, (10 : Int) ^ (19 * t) ≤ 18446744073709551616 ^ t
  | 0 => by simp
  | t + 1 => by
    have ih := p19 t
    have e : (10 : Int) ^ (19 * (t + 1)) = 10 ^ (19 * t) * 10000000000000000000 := by rw [Nat.mul_add, Int.pow_add]; rfl
    rw [e, Int.pow_succ]
    have h0 := pw_pos t
    have h1 := p10_posN (19 * t)
    generalize (18446744073709551616 : Int) ^ t = A at *
    generalize (10 : Int) ^ (19 * t) = B at *
    omega
theorem pow_le10 {b : Int} (hb : 0 ≤ b) (hb2 : b ≤ 10) : ∀ e : Nat, 0 ≤ b ^ e ∧ b ^ e ≤ 10 ^ e
  | 0 => by simp
  | e + 1 => by
    have ih := pow_le10 hb hb2 e
    rw [Int.pow_succ, Int.pow_succ]
    exact ⟨Int.mul_nonneg ih.1 hb, Int.mul_le_mul ih.2 hb2 hb (Int.le_of_lt (p10_posN e))⟩
theorem pow_small {b : Int} (hb : 0 ≤ b) (hb2 : b ≤ 10) {e : Nat} (he : e ≤ 12000) : b ^ e < 18446744073709551616 ^ 632 := by
  have h1 := (pow_le10 hb hb2 e).2
  have h2 := p19 632
  have h3 : (10 : Int) ^ e < 10 ^ (19 * 632) := by
    obtain ⟨k, hk⟩ : ∃ k, 19 * 632 = e + 1 + k := ⟨19 * 632 - (e + 1), by omega⟩
    rw [hk, Int.pow_add, Int.pow_succ]
    have := p10_posN e
    have h4 := p10_posN k
    have h5 : (10 : Int) ^ e * 10 * 1 ≤ 10 ^ e * 10 * 10 ^ k := Int.mul_le_mul_of_nonneg_left (by omega) (by omega)
    omega
  exact Int.lt_of_lt_of_le (Int.lt_of_le_of_lt h1 h3) h2

set_option maxHeartbeats 2000000 in
theorem npow_any (b : Int) (n : Nat) (w : World) (hb : b = 5 ∨ b = 10) (hn : n ≤ 12000) :
    Calls Tryz.prog 96 #[.int .i64 b, .int .i64 n] w fun e w' => ∃ g k cap z, e = .returned (.tuple #[.slice (some ⟨g, 0, none⟩) k cap, .int .i64 0]) ∧ k ≤ 2001 ∧ Num w' (some ⟨g, 0, none⟩) k cap z ∧ val z k = b ^ n ∧ sizeL z k = k ∧ Below w.heap.size w w' := by
  have hb0 : 0 ≤ b ∧ b ≤ 10 := by omega
  have hbc : b = 5 ∨ b = 10 := hb
  have hb2 : (b == 2) = false := by simp; omega
  have hN1 := num_one w 1 (by decide)
  have hBB := below1 w (.cells #[.int .u64 1] 22)
  have hn' : (n : Int) ≤ 12000 := by omega
  have hlen := Tryz.bits_Len n (w.alloc (.cells #[.int .u64 1] 22)) (by omega) (by omega)
  rw [Int.toNat_natCast] at hlen
  obtain ⟨L, hL⟩ : ∃ L, Lib.bitLen n = L := ⟨_, rfl⟩
  have hL64 : L ≤ 64 := by rw [← hL]; exact bitLen64 n
  have HLn : Hid (n / 2 ^ L = 0) := by
    show _ = _
    by_cases h0 : n = 0
    · subst h0; simp
    · have := bitLen_spec n (by omega) (by omega)
      rw [hL] at this
      exact Nat.div_eq_of_lt this.2.2.2
  rw [hL] at hlen
  clear hL
  have HS1 : Hid (sizeL (oneW 1) 1 = 1) := by show _ = _; simp [sizeL, oneW]
  have hne : (b != 2) = true := by simp; omega
  have hpick : (b != 5) = true ∧ (b != 10) = false ∨ (b != 5) = false := by rcases hb with rfl | rfl <;> decide
  have hps : ∀ e, e ≤ 12000 → b ^ e < 18446744073709551616 ^ 632 := fun e he => pow_small hb0.1 hb0.2 he
  have HPS : Hid (∀ e, e ≤ 12000 → b ^ e < 18446744073709551616 ^ 632) := hps
  clear hps hb
  rcases hpick with ⟨h5, h10⟩ | h5
  all_goals
    go_enter Tryz.func96, Tryz.ntmps96
    go_wp2_with (go_at_call 132; refine hlen.mono ?_; rintro e w' ⟨rfl, rfl⟩)
    generalize w.alloc (.cells #[.int .u64 1] 22) = wA at *
    go_loopw [6, 7, 40, 51] (fun pv iv u40 u51 wr => ∃ (k kk g p : Nat) (z : Nat → Int), k ≤ L ∧ iv = .int .i64 ((k : Int) - 1) ∧ pv = .slice (some ⟨g, 0, none⟩) kk p ∧ kk ≤ 632 ∧ Num wr (some ⟨g, 0, none⟩) kk p z ∧ sizeL z kk = kk ∧ Hid (val z kk = b ^ (n / 2 ^ k)) ∧ Below w.heap.size w wr) (fun _ iv _ _ _ => (intOf iv + 1).toNat)
    case atStart => exact ⟨L, 1, w.heap.size, 1, oneW 1, Nat.le_refl _, by go_num, rfl, by omega, hN1, HS1.out, by show _ = _; rw [val_one1, HLn.out, Int.pow_zero], hBB⟩
    case round =>
      clear hN1 hBB hlen
      obtain ⟨k, kk, g, p, z, hk, rfl, rfl, hkk, hN, hs, hv, hB⟩ := hrel
      by_cases h0 : k = 0
      · subst h0
        have HV : Hid (val z kk = b ^ n) := by show _ = _; have := hv.out; simpa using this
        have HN : Hid (Num wr (some ⟨g, 0, none⟩) kk p z) := hN
        have HS : Hid (sizeL z kk = kk) := hs
        clear hN hv hs
        go_wp2
        go_ret2
        exact ⟨g, kk, p, z, rfl, by omega, HN.out, HV.out, HS.out, hB⟩
      · obtain ⟨j, rfl⟩ : ∃ j, k = j + 1 := ⟨k - 1, by omega⟩
        have ej : ((j + 1 : Nat) : Int) - 1 = j := by omega
        rw [ej]
        obtain ⟨e, he⟩ : ∃ e, n / 2 ^ j = e := ⟨_, rfl⟩
        have hcast : (n : Int) / 2 ^ j = (e : Int) := by rw [← he, Int.natCast_ediv, powCast]
        have hen : e ≤ n := by rw [← he]; exact Nat.div_le_self _ _
        have hand := Go.Proofs.and_one e (by omega)
        have hhalf : n / 2 ^ (j + 1) = e / 2 := by rw [Nat.pow_succ, ← Nat.div_div_eq_div_mul, he]
        have m1 := nmul_any (some ⟨g, 0, none⟩) (some ⟨g, 0, none⟩) kk p kk p z z wr (by omega) (by omega) hN hN (by omega)
        have HV1 : Hid (val z kk * val z kk = b ^ (2 * (e / 2))) := by
          show _ = _
          rw [hv.out, hhalf, ← Int.pow_add]; congr 1; omega
        have HJ : Hid (j ≤ L) := by show _ ≤ _; omega
        have HE : Hid (n / 2 ^ j = e) := he
        clear ej he hhalf hN hs hv
        by_cases hodd : e % 2 = 1
        · rw [hodd] at hand
          go_wp2_with (go_at_call 97; refine m1.mono ?_; rintro e' w1 ⟨g1, k1, p1, z1, rfl, hk1, hN1, hv1, hs1, hb1⟩; clear m1)
          rw [HV1.out] at hv1
          have hk1b : k1 ≤ 632 := size_bound hN1.2.2.1 hs1 (by rw [hv1]; exact HPS.out _ (by omega))
          have hB1 := hB.trans (hb1.mono hB.size)
          have hNb := num_one w1 b (by omega)
          have hbb := below1 w1 (.cells #[.int .u64 b] 22)
          have hsb := sizeL_le (oneW b) 1
          have m2 := nmul_any (some ⟨g1, 0, none⟩) (some ⟨w1.heap.size, 0, none⟩) k1 p1 1 1 z1 (oneW b) (w1.alloc (.cells #[.int .u64 b] 22)) (by omega) (by omega) (hN1.next hbb) hNb (by omega)
          have HBB : Hid (Below w.heap.size w (w1.alloc (.cells #[.int .u64 b] 22))) := hB1.trans (hbb.mono hB1.size)
          clear hN1 hNb hbb
          go_wp2_with (go_at_call 97; refine m2.mono ?_; rintro e' w2 ⟨g2, k2, p2, z2, rfl, hk2, hN2, hv2, hs2, hb2⟩; clear m2)
          have hv3 : val z2 k2 = b ^ e := by
            rw [hv2, hv1, val_one1, ← Int.pow_succ]; congr 1; omega
          have hk2b : k2 ≤ 632 := size_bound hN2.2.2.1 hs2 (by rw [hv3]; exact HPS.out _ (by omega))
          have hB2 := HBB.out.trans (hb2.mono HBB.out.size)
          have HN2 : Hid (Num w2 (some ⟨g2, 0, none⟩) k2 p2 z2) := hN2
          clear hN2
          go_roundw
          case rel => exact ⟨j, k2, g2, p2, z2, HJ.out, by go_num, rfl, hk2b, HN2.out, hs2, by show _ = _; rw [HE.out, hv3], hB2⟩
          case measure => simp [intOf]
        · have he0 : e % 2 = 0 := by omega
          rw [he0] at hand
          go_wp2_with (go_at_call 97; refine m1.mono ?_; rintro e' w1 ⟨g1, k1, p1, z1, rfl, hk1, hN1, hv1, hs1, hb1⟩; clear m1)
          have hv3 : val z1 k1 = b ^ e := by
            rw [hv1, HV1.out]; congr 1; omega
          have hk1b : k1 ≤ 632 := size_bound hN1.2.2.1 hs1 (by rw [hv3]; exact HPS.out _ (by omega))
          have hB1 := hB.trans (hb1.mono hB.size)
          have HN1 : Hid (Num w1 (some ⟨g1, 0, none⟩) k1 p1 z1) := hN1
          clear hN1
          go_roundw
          case rel => exact ⟨j, k1, g1, p1, z1, HJ.out, by go_num, rfl, hk1b, HN1.out, hs1, by show _ = _; rw [HE.out, hv3], hB1⟩
          case measure => simp [intOf]
end
end Go.Proofs.YtgknbdehlmlipaaGreatDoor
