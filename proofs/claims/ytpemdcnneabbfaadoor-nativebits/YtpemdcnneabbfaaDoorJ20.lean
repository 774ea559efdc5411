/-
  Texts that the proof leans on.
-/
import Derived.Test.YtpemdcnneabbfaaDoorJ17
import Derived.Test.YtpemdcnneabbfaaDoorJ11
import Derived.Test.YtpemdcnneabbfaaDoorJ15
import Derived.Test.YtpemdcnneabbfaaDoorJ3
set_option linter.unusedVariables false
set_option linter.unusedSimpArgs false
set_option linter.unusedSectionVars false
set_option maxRecDepth 20000
namespace Go.Proofs.YtpemdcnneabbfaaDoor
open Go.RowKit
section
theorem val_pos {z : Nat → Int} (hz : Words z) : ∀ m, 0 < m → sizeL z m = m → 0 < val z m
  | 0, h, _ => by omega
  | m + 1, _, h => by
    have hne : z m ≠ 0 := by
      intro e
      have : sizeL z (m + 1) = sizeL z m := by simp [sizeL, e]
      have := sizeL_le z m
      omega
    have h1 := (val_bd hz m).1
    have h2 := hz m
    have h3 := pw_pos m
    show 0 < val z m + z m * 18446744073709551616 ^ m
    have : 0 < z m * 18446744073709551616 ^ m := Int.mul_pos (by omega) h3
    omega

theorem val_split (z : Nat → Int) (j : Nat) : ∀ m, val z (j + m) = val z j + val (segW z j m) m * 18446744073709551616 ^ j
  | 0 => by simp [val]
  | m + 1 => by
    rw [seg_next]
    show val z (j + m) + z (j + m) * 18446744073709551616 ^ (j + m) = _
    rw [val_split z j m, Int.pow_add]; grind
/-- the highest word, shifted up until its highest bit is set -/
theorem norm_top {y : Int} (h0 : 0 < y) (h : y ≤ 18446744073709551615) : ∃ r : Nat, r < 64 ∧ (64 - (Lib.bitLen y.toNat : Int)) = r ∧ 9223372036854775808 ≤ y * 2 ^ r ∧ y * 2 ^ r ≤ 18446744073709551615 := by
  obtain ⟨n, rfl⟩ := Int.eq_ofNat_of_zero_le (Int.le_of_lt h0)
  have h1 := bitLen_spec n (by omega) (by omega)
  have h2 := norm_bd n (by omega) (by omega)
  rw [Int.toNat_natCast]
  refine ⟨64 - Lib.bitLen n, by omega, by omega, ?_, ?_⟩
  · rw [← powCast, ← Int.natCast_mul]; omega
  · rw [← powCast, ← Int.natCast_mul]; omega
theorem shW_top {y : Nat → Int} (hy : Words y) {r t : Nat} (ht : 0 < t) (h1 : 9223372036854775808 ≤ y (t - 1) * 2 ^ r) (h2 : y (t - 1) * 2 ^ r ≤ 18446744073709551615) : 9223372036854775808 ≤ shW y r (t - 1) ∧ val (shW y r) t = val y t * 2 ^ r := by
  refine ⟨?_, ?_⟩
  · unfold shW
    have := (prevW_bd hy r (t - 1)).1
    rw [Int.emod_eq_of_lt (by omega) (by omega)]; omega
  · have e := sh_val y r t
    have e1 : prevW y r t = 0 := by
      unfold prevW hiW; rw [if_neg (by omega)]; exact Int.ediv_eq_zero_of_lt (by omega) (by omega)
    rw [e1] at e; omega
/-- a round of the long division -/
theorem long_round {U VQ D Vj R q rho Vn B : Int} (h : VQ * D + Vn = U) (hs : Vn = Vj + R * B) (hq : D * q + rho = R) : (VQ + q * B) * D + (Vj + rho * B) = U := by grind
theorem long_end {X Y S VQ Vz Vr m : Int} (hS : 0 < S) (hY : 0 < Y) (h : VQ * (Y * S) + Vz = X * S) (hlt : Vz < Y * S) (hz : 0 ≤ Vz) (hr : Vr * S + m = Vz) (hm : 0 ≤ m) (hmS : m < S) : VQ = X / Y ∧ Vr = X % Y := by
  have e : (X - VQ * Y - Vr) * S = m := by grind
  have hk : X - VQ * Y - Vr = 0 := by
    rcases Int.lt_trichotomy (X - VQ * Y - Vr) 0 with hl | he | hg
    · have : (X - VQ * Y - Vr) * S ≤ (-1) * S := Int.mul_le_mul_of_nonneg_right (by omega) (by omega)
      omega
    · exact he
    · have : 1 * S ≤ (X - VQ * Y - Vr) * S := Int.mul_le_mul_of_nonneg_right (by omega) (by omega)
      omega
  rw [hk, Int.zero_mul] at e
  have h1 : 0 ≤ Vr := by
    rcases Int.lt_or_le Vr 0 with hl | hge
    · have : Vr * S ≤ (-1) * S := Int.mul_le_mul_of_nonneg_right (by omega) (by omega)
      omega
    · exact hge
  have h2 : Vr < Y := by
    rcases Int.lt_or_le Vr Y with hl | hge
    · exact hl
    · have : Y * S ≤ Vr * S := Int.mul_le_mul_of_nonneg_right hge (by omega)
      omega
  have := (Int.ediv_emod_unique hY (a := X) (r := Vr) (q := VQ)).2 ⟨by rw [Int.mul_comm]; omega, h1, h2⟩
  exact ⟨this.1.symm, this.2.symm⟩
theorem upZ_all (y : Nat → Int) (r k i : Nat) (hi : i < k) : upZ (fun _ => 0) y r 0 k i = shW y r i := by unfold upZ; rw [if_pos (by omega)]; rfl

set_option maxRecDepth 20000 in
set_option maxHeartbeats 4000000 in
theorem divideLong_any (a a' : Option Addr) (s c t c' : Nat) (x y : Nat → Int) (w : World) (hs : s ≤ 2000) (ht : 2 ≤ t) (hts : t ≤ s) (h : Num w a s c x) (h' : Num w a' t c' y) (hy0 : sizeL y t = t) :
    Calls Tryd.prog 81 #[.slice a s c, .slice a' t c'] w fun e w' => ∃ gq gr q z, e = .returned (.tuple #[.slice (some ⟨gq, 0, none⟩) (s - t + 1) (s - t + 1), .slice (some ⟨gr, 0, none⟩) t t]) ∧ Own gq (s - t + 1) q w' ∧ Words q ∧ val q (s - t + 1) = val x s / val y t ∧ Own gr t z w' ∧ Words z ∧ val z t = val x s % val y t ∧ Below w.heap.size w w' := by
  have hx := h.2.2.1
  have hy := h'.2.2.1
  have hyne : y (t - 1) ≠ 0 := by have := sizeL_top (x := y) t (by omega); rw [hy0] at this; exact this
  have hyb := hy (t - 1)
  obtain ⟨r, hr64, hr, hn1, hn2⟩ := norm_top (y := y (t - 1)) (by omega) hyb.2
  have htop := shW_top hy (t := t) (by omega) hn1 hn2
  have hlz := fun w => (Tryd.bits_LeadingZeros64 (y (t - 1)) w hyb.1 hyb.2).mono (fun e w' hw => (⟨hw.1, hw.2.symm⟩ : _ ∧ w = w'))
  rw [hr] at hlz
  obtain ⟨b', off', rfl, hb', hc'⟩ := h'.cells (by omega)
  have hct := hc' (t - 1) (by omega)
  have et1 : ((t : Int) - 1).toNat = t - 1 := by omega
  have hti : (2 : Int) ≤ t := by omega
  have hm1 := fun w => make_any ((t : Int) + 1) (t + 1) (by omega) (by omega) w
  have hm2 := fun w => make_any ((s : Int) + 1) (s + 1) (by omega) (by omega) w
  have hm3 := fun w => make_any ((s : Int) - t + 1) (s - t + 1) (by omega) (by omega) w
  have hm4 := fun w => make_any (t : Int) t rfl (by omega) w
  have hB1 := below1 w (.cells (arrOf (fun _ => 0) (t + 1)) 22)
  have u1 := shiftUp_any w.heap.size (t + 1) 0 (t + 1) (t + 1) t c' r _ (fun _ => 0) y _ (by omega) (by omega) (by omega) hr64 (Own.new w (fun _ => 0) (t + 1)) (h'.next hB1) (apart_of h')
  go_enter Tryd.func81, Tryd.ntmps81
  go_wp2_with (first | (go_at_call 86; refine (hlz _).mono ?_; rintro e w' ⟨rfl, rfl⟩) | (go_at_call 75; refine u1.mono ?_; rintro e w1 ⟨rfl, hV1, hU1⟩; clear u1))
  have hBw1 : Below w.heap.size w w1 := hB1.trans (hU1.below (Nat.le_refl _))
  have HG1 : Hid (w1.heap.size = w.heap.size + 1) := by show _ = _; rw [hU1.size]; simp
  have hn1w := h.next hBw1
  have hB2 := below1 w1 (.cells (arrOf (fun _ => 0) (s + 1)) 22)
  have u2 := shiftUp_any w1.heap.size (s + 1) 0 (s + 1) (s + 1) s c r a (fun _ => 0) x _ (by omega) (by omega) (by omega) hr64 (Own.new w1 (fun _ => 0) (s + 1)) (hn1w.next hB2) (apart_of hn1w)
  go_wp2_with (go_at_call 75; refine u2.mono ?_; rintro e w2 ⟨rfl, hL2, hU2⟩; clear u2)
  have hg2 : w2.heap.size = w1.heap.size + 1 := by rw [hU2.size]; simp
  have hg1 : w1.heap.size = w.heap.size + 1 := HG1.out
  clear HG1
  have hB3 := below1 w2 (.cells (arrOf (fun _ => 0) (s - t + 1)) 22)
  have hBw2 : Below w.heap.size w w2 := (hBw1.trans (hB2.mono hBw1.size)).trans (hU2.below (by omega))
  have hBwC := hBw2.trans (hB3.mono hBw2.size)
  have hV3 : Own w.heap.size (t + 1) (upZ (fun _ => 0) y r 0 (t + 1)) (w2.alloc (.cells (arrOf (fun _ => 0) (s - t + 1)) 22)) := Below.own hB3 (by omega) (hU2.own (by omega) (Below.own hB2 (by omega) hV1))
  have hL3 := Below.own hB3 (by omega) hL2
  have hQ3 := Own.new w2 (fun _ => 0) (s - t + 1)
  have e1 : ∀ i, i < t + 1 → upZ (fun _ => 0) y r 0 (t + 1) i = shW y r i := fun i hi => upZ_all y r _ i hi
  have e2 : ∀ i, i < s + 1 → upZ (fun _ => 0) x r 0 (s + 1) i = shW x r i := fun i hi => upZ_all x r _ i hi
  replace hV3 := hV3.congr e1
  replace hL3 := hL3.congr e2
  have hUv : val (shW x r) (s + 1) = val x s * 2 ^ r := sh_end h.2.2.2.1 r (s + 1) (by omega)
  have HWX := shW_words hx hr64
  have HWY := shW_words hy hr64
  have hD0 : 0 < val y t := val_pos hy t (by omega) hy0
  have hS := p2_pos r
  have hDpos : 0 < val y t * 2 ^ r := Int.mul_pos hD0 hS
  have hxb := val_bd hx s
  have hUlt : val x s * 2 ^ r < val y t * 2 ^ r * 18446744073709551616 ^ (s - t + 1) := by
    have hY1 : 9223372036854775808 * 18446744073709551616 ^ (t - 1) ≤ val y t * 2 ^ r := by
      rw [← htop.2]
      have e5 : val (shW y r) t = val (shW y r) (t - 1) + shW y r (t - 1) * 18446744073709551616 ^ (t - 1) := by
        conv => lhs; rw [show t = t - 1 + 1 by omega]
        rfl
      have h6 := (val_bd HWY (t - 1)).1
      have h7 : 9223372036854775808 * 18446744073709551616 ^ (t - 1) ≤ shW y r (t - 1) * 18446744073709551616 ^ (t - 1) := Int.mul_le_mul_of_nonneg_right htop.1 (Int.le_of_lt (pw_pos _))
      omega
    have h8 : val x s * 2 ^ r < 18446744073709551616 ^ s * 2 ^ r := Int.mul_lt_mul_of_pos_right hxb.2 hS
    have h9 : (18446744073709551616 : Int) ^ s * 2 ^ r ≤ 18446744073709551616 ^ s * 9223372036854775808 := Int.mul_le_mul_of_nonneg_left (p2_le hr64) (Int.le_of_lt (pw_pos _))
    have h10 : 9223372036854775808 * 18446744073709551616 ^ (t - 1) * 18446744073709551616 ^ (s - t + 1) ≤ val y t * 2 ^ r * 18446744073709551616 ^ (s - t + 1) := Int.mul_le_mul_of_nonneg_right hY1 (Int.le_of_lt (pw_pos _))
    have h11 : (18446744073709551616 : Int) ^ (t - 1) * 18446744073709551616 ^ (s - t + 1) = 18446744073709551616 ^ s := by rw [← Int.pow_add]; congr 1; omega
    rw [Int.mul_assoc, h11, Int.mul_comm] at h10
    omega
  generalize hgV : w.heap.size = gV at *
  generalize hgL : w1.heap.size = gL at *
  generalize hgQ : w2.heap.size = gQ at *
  generalize hwC : w2.alloc (.cells (arrOf (fun _ => 0) (s - t + 1)) 22) = wC at *
  obtain ⟨D, hDe⟩ : ∃ D, val y t * 2 ^ r = D := ⟨_, rfl⟩
  obtain ⟨U, hUe⟩ : ∃ U, val x s * 2 ^ r = U := ⟨_, rfl⟩
  rw [hDe] at htop hDpos hUlt
  rw [hUe] at hUv hUlt
  have hVL : gV < gL := by omega
  have hLQ : gL < gQ := by omega
  have HGV : Hid (w.heap.size = gV) := hgV
  clear hg1 hg2 hgV
  have HE : Hid (val y t * 2 ^ r = D ∧ val x s * 2 ^ r = U ∧ 0 < val y t ∧ (0 : Int) < 2 ^ r) := ⟨hDe, hUe, hD0, hS⟩
  clear hV1 hL2 hU1 hU2 hB1 hB2 hB3 hBw1 hBw2 hn1w e1 e2 hlz hct hc' h h' hm1 hm2 hm3 hDe hUe hD0 hS hxb hn1 hn2 hr hyb hyne hwC hgQ hgL w1 w2
  have hYN : ∀ wr, Own gV (t + 1) (shW y r) wr → Num wr (some ⟨gV, 0, none⟩) t (t + 1) (segW (shW y r) 0 t) := fun wr hO => hO.num HWY 0 t (t + 1) (by omega) (by omega) (by unfold maxLen; omega)
  have hYv : val (segW (shW y r) 0 t) t = D := by
    rw [val_congr (y := shW y r) t fun i hi => by rw [segW_lt _ _ _ i hi, Nat.zero_add]]; exact htop.2
  have hYt : 9223372036854775808 ≤ segW (shW y r) 0 t (t - 1) := by rw [segW_lt _ _ _ (t - 1) (by omega), Nat.zero_add]; exact htop.1
  have HYN : Hid (∀ wr, Own gV (t + 1) (shW y r) wr → Num wr (some ⟨gV, 0, none⟩) t (t + 1) (segW (shW y r) 0 t)) := hYN
  have HYT : Hid (val (segW (shW y r) 0 t) t = D ∧ 9223372036854775808 ≤ segW (shW y r) 0 t (t - 1)) := ⟨hYv, hYt⟩
  have hAp : Apart (some ⟨gV, 0, none⟩) gL := by intro p hp; cases hp; show gV ≠ gL; omega
  have HAP : Hid (Apart (some ⟨gV, 0, none⟩) gL) := hAp
  clear hYN hYv hYt hAp htop hy hx
  generalize segW (shW y r) 0 t = Y at *
  go_loopw [10] (fun iv wr => ∃ (k : Nat) (z q : Nat → Int), k ≤ s - t + 1 ∧ iv = .int .i64 ((k : Int) - 1) ∧ Own gV (t + 1) (shW y r) wr ∧ Own gL (s + 1) z wr ∧ Words z ∧ Own gQ (s - t + 1) q wr ∧ Words q ∧ (∀ i, i < k → q i = 0) ∧ Hid (val q (s - t + 1) * D + val z (k + t) = U) ∧ Hid (val z (k + t) < D * 18446744073709551616 ^ k) ∧ Below gV w wr) (fun iv _ => (intOf iv + 1).toNat)
  case atStart => exact ⟨s - t + 1, shW x r, fun _ => 0, Nat.le_refl _, by go_num, hV3, hL3, HWX, hQ3, fun _ => (by decide : (0 : Int) ≤ 0 ∧ (0 : Int) ≤ 18446744073709551615), fun _ _ => rfl, by show _ = _; rw [val_zero, Int.zero_mul, Int.zero_add, show s - t + 1 + t = s + 1 by omega, hUv], by show _ < _; rw [show s - t + 1 + t = s + 1 by omega, hUv]; exact hUlt, hBwC⟩
  case round =>
    clear hV3 hL3 hQ3 hBwC hUv hUlt HWX
    obtain ⟨k, z, q, hk, rfl, hV, hL, hzw, hQ, hqw, hq0, hvU, hlt, hB⟩ := hrel
    by_cases h0 : k = 0
    · subst h0
      have hZN := hL.num hzw 0 t (s + 1) (by omega) (by omega) (by unfold maxLen; omega)
      have hB5 := below1 wr (.cells (arrOf (fun _ => 0) t) 22)
      have u3 := shiftDown_any wr.heap.size t t t (s + 1) r (some ⟨gL, 0, none⟩) (fun _ => 0) (segW z 0 t) _ (Nat.le_refl _) (by omega) hr64 (Own.new wr (fun _ => 0) t) (hZN.next hB5) (apart_of hZN)
      have HFIN : Hid (val q (s - t + 1) = val x s / val y t ∧ val (shrW (segW z 0 t) 0 r) t = val x s % val y t) := by
        have hdn := dn_val (segW_words hzw 0 t) hr64 t
        have e1 : val (segW z 0 t) t = val z (0 + t) := by
          rw [Nat.zero_add]; exact val_congr t fun i hi => by rw [segW_lt _ _ _ i hi, Nat.zero_add]
        rw [segW_zero z 0 t t (Nat.le_refl _), Int.zero_emod, Int.zero_mul, Int.add_zero, e1] at hdn
        have hE := HE.out
        have h1 := hvU.out
        have h2 := hlt.out
        rw [← hE.1, ← hE.2.1] at h1
        rw [Int.pow_zero, Int.mul_one, ← hE.1] at h2
        exact long_end hE.2.2.2 hE.2.2.1 h1 h2 (val_bd hzw (0 + t)).1 hdn (Int.emod_nonneg _ (by have := hE.2.2.2; omega)) (Int.emod_lt_of_pos _ hE.2.2.2)
      have HRW : Hid (Words (shrW (segW z 0 t) 0 r)) := shrW_words (segW_words hzw 0 t) 0 r
      have HQx : Hid (Own gQ (s - t + 1) q (wr.alloc (.cells (arrOf (fun _ => 0) t) 22))) := Below.own hB5 hQ.lt hQ
      have hQlt := hQ.lt
      have HQW : Hid (Words q) := hqw
      have HB6 : Hid (Below gV w (wr.alloc (.cells (arrOf (fun _ => 0) t) 22))) := hB.trans (hB5.mono (by have := hB.size; have := HGV.out; omega))
      have HLE : Hid (gV ≤ wr.heap.size) := by have h1 := hB.size; have h2 := HGV.out; show _ ≤ _; omega
      clear hZN hB5 hV hL hzw hQ hqw hq0 hvU hlt hB HYN HYT HAP
      go_wp2_with (go_at_call 72; refine u3.mono ?_; rintro e w5 ⟨rfl, hR5, hU5⟩; clear u3)
      go_ret2
      exact ⟨gQ, wr.heap.size, q, shrW (segW z 0 t) 0 r, rfl, hU5.own (by omega) HQx.out, HQW.out, HFIN.out.1, hR5.congr (fun i hi => by unfold dnZ; rw [if_pos (by omega)]), HRW.out, HFIN.out.2, by rw [HGV.out]; exact HB6.out.trans (hU5.below HLE.out)⟩
    · obtain ⟨j, rfl⟩ : ∃ j, k = j + 1 := ⟨k - 1, by omega⟩
      have ej : ((j + 1 : Nat) : Int) - 1 = j := by omega
      rw [ej]
      have ejt : j + t + 1 - j = t + 1 := by omega
      have hsp := val_split z j (t + 1)
      rw [show j + (t + 1) = j + 1 + t by omega] at hsp
      have hRlt : val (segW z j (t + 1)) (t + 1) < val Y t * 18446744073709551616 := by
        rw [HYT.out.1]
        rcases Int.lt_or_le (val (segW z j (t + 1)) (t + 1)) (D * 18446744073709551616) with h1 | h1
        · exact h1
        · exfalso
          have h2 := hlt.out
          have h3 := (val_bd hzw j).1
          have h4 : D * 18446744073709551616 * 18446744073709551616 ^ j ≤ val (segW z j (t + 1)) (t + 1) * 18446744073709551616 ^ j := Int.mul_le_mul_of_nonneg_right h1 (Int.le_of_lt (pw_pos j))
          rw [hsp, Int.pow_succ] at h2
          have e : D * 18446744073709551616 * 18446744073709551616 ^ j = D * (18446744073709551616 ^ j * 18446744073709551616) := by grind
          omega
      have hst := divideStep_any gL (s + 1) j t (s + 1 - j) (t + 1) (some ⟨gV, 0, none⟩) z Y wr ht (by omega) (by omega) hzw hL (HYN.out wr hV) HAP.out HYT.out.2 hRlt
      rw [HYT.out.1] at hst
      have hR0 := (val_bd (segW_words hzw j (t + 1)) (t + 1)).1
      rw [HYT.out.1] at hRlt
      have HRB : Hid (0 ≤ val (segW z j (t + 1)) (t + 1) ∧ val (segW z j (t + 1)) (t + 1) < D * 18446744073709551616) := ⟨hR0, hRlt⟩
      have HSP : Hid (val z (j + 1 + t) = val z j + val (segW z j (t + 1)) (t + 1) * 18446744073709551616 ^ j) := hsp
      generalize val (segW z j (t + 1)) (t + 1) = R at *
      have HVx : Hid (Own gV (t + 1) (shW y r) wr) := hV
      have HQx : Hid (Own gQ (s - t + 1) q wr) := hQ
      have HZB : Hid (0 ≤ val z j ∧ val z j < 18446744073709551616 ^ j) := val_bd hzw j
      have hjb : j < s - t + 1 := by omega
      have hji : (j : Int) < ((s - t + 1 : Nat) : Int) := by omega
      have hjs : (j : Int) + t + 1 ≤ ((s + 1 : Nat) : Int) := by omega
      have HQ0 : Hid (∀ i, i < j + 1 → q i = 0) := hq0
      have HQW : Hid (Words q) := hqw
      clear hsp hRlt hR0 hV hL hzw hQ hqw hq0 ej HYN HYT HAP
      go_wp2_with (go_at_call 87; refine hst.mono ?_; rintro e w1 ⟨rfl, z1, hO1, hw1, hzx1, hv1, hU1⟩; have hQ1 := hU1.own (by omega) HQx.out; have hcq := hQ1.cell j hjb; have hfq := hQ1.frozen j)
      go_roundw
      case rel =>
        have hD := HRB.out
        have hDp : 0 < D := hDpos
        have hdq : D * (R / D) + R % D = R := Int.mul_ediv_add_emod R D
        have hq1 : 0 ≤ R / D := Int.ediv_nonneg hD.1 (by omega)
        have hq2 : R / D < 18446744073709551616 := Int.ediv_lt_of_lt_mul hDp (by rw [Int.mul_comm]; exact hD.2)
        have hsp1 := val_split z1 j t
        have hzz : val z1 j = val z j := val_congr j fun i hi => hzx1 i hi
        rw [hzz, hv1] at hsp1
        refine ⟨j, z1, fun i => if i = j then R / D else q i, by omega, by go_num, ?_, ?_, hw1, hQ1.set j _, upd_words HQW.out (by omega), ?_, ?_, ?_, ?_⟩
        · exact (((Upd.refl gQ w1).set j _)).own (by omega) (hU1.own (by omega) HVx.out)
        · exact (((Upd.refl gQ w1).set j _)).own (by omega) hO1
        · intro i hi
          exact (if_neg (show ¬ i = j by omega)).trans (HQ0.out i (by omega))
        · show _ = _
          rw [val_set q j (R / D) (s - t + 1) hjb, HQ0.out j (by omega), Int.sub_zero, hsp1]
          exact long_round hvU.out HSP.out hdq
        · show _ < _
          rw [hsp1]
          have h1 := Int.emod_lt_of_pos R hDp
          have h2 := HZB.out
          have h3 : R % D * 18446744073709551616 ^ j ≤ (D - 1) * 18446744073709551616 ^ j := Int.mul_le_mul_of_nonneg_right (by omega) (Int.le_of_lt (pw_pos j))
          rw [Int.sub_mul, Int.one_mul] at h3
          omega
        · exact (hB.trans (hU1.below (by omega))).trans (((Upd.refl gQ w1).set j _).below (by omega))
      case measure => simp [intOf]
end
section
theorem quo_val {x : Nat → Int} {d : Int} (hx : Words x) (hd : 0 < d) (m : Nat) : val (quoW x d m) m = val x m / d ∧ remJ x d m m = val x m % d := by
  have h := div_val x d m m (Nat.le_refl _)
  simp only [Nat.sub_self, val, Int.pow_zero, Int.mul_one, Int.zero_add, Int.sub_zero] at h
  have hb := remJ_bd x d m m hd
  have e := (Int.ediv_emod_unique hd (a := val x m) (r := remJ x d m m) (q := val (quoW x d m) m)).2 ⟨h, hb.1, hb.2⟩
  exact ⟨e.1.symm, e.2.symm⟩
theorem divZ_words {x : Nat → Int} {d : Int} (hx : Words x) (hd : 0 < d) (m k : Nat) : Words (divZ x d m k) := fun i => by unfold divZ; split; exact quoW_words hx hd m i; exact hx i

theorem val_oneA (c : Int) : val (oneW c) 1 = c := by simp [val, oneW]
/-- the two answers of a division, and what is told -/
def DivOut (n n' : Nat) (X Y : Int) (w : World) (e : Ending) (w' : World) : Prop :=
  ∃ o k cap z o' k' cap' z', e = .returned (.tuple #[.slice o k cap, .slice o' k' cap', .int .i64 0]) ∧ k ≤ 2001 ∧ k' ≤ 2001 ∧ Num w' o k cap z ∧ Num w' o' k' cap' z' ∧ val z k = X / Y ∧ val z' k' = X % Y ∧ sizeL z k = k ∧ sizeL z' k' = k' ∧ Below w.heap.size w w'

set_option maxHeartbeats 400000 in
theorem ndiv_less (a a' : Option Addr) (n c n' c' : Nat) (x y : Nat → Int) (w : World) (hn : n < 4000000000) (hn' : n' < 4000000000) (h : Num w a n c x) (h' : Num w a' n' c' y) (hs : sizeL x n ≤ 2000) (hs' : sizeL y n' ≤ 2000) (hlt : sizeL x n < sizeL y n') :
    Calls Tryd.prog 68 #[.slice a n c, .slice a' n' c'] w (DivOut n n' (val x n) (val y n') w) := by
  have hb := bare_any a n c x w (by omega) h
  have hb' := bare_any a' n' c' y w (by omega) h'
  have hle := sizeL_le x n
  have hle' := sizeL_le y n'
  have ht := ntrim_any a (sizeL x n) c x w (by omega) h.bare
  rw [sizeL_sizeL] at ht
  have hv := val_longer h.2.2.1 h'.2.2.1 hlt (sizeL_sizeL y n')
  rw [val_bare, val_bare] at hv
  have hx0 := (val_bd h.2.2.1 n).1
  have HV : Hid (val x n / val y n' = 0 ∧ val x n % val y n' = val x n) := ⟨Int.ediv_eq_zero_of_lt hx0 hv, Int.emod_eq_of_lt hx0 hv⟩
  have HN : Hid (Num (w.alloc (.cells (arrOf x (sizeL x n)) 22)) (some ⟨w.heap.size, 0, none⟩) (sizeL x n) (sizeL x n) x) := num_of_block (by omega) h.2.2.1 h.bare.2.2.2.1 (arrOf_size _ _) (fun j hj => arrOf_get _ _ _ _)
  have HVX : Hid (val x (sizeL x n) = val x n) := val_bare n
  have HSS : Hid (sizeL x (sizeL x n) = sizeL x n) := sizeL_sizeL x n
  have hlti : (sizeL x n : Int) < sizeL y n' := by omega
  have hsi : (sizeL x n : Int) ≤ 2000 := by omega
  have hsi' : (sizeL y n' : Int) ≤ 2000 := by omega
  have hne : ((sizeL y n' : Int) == 0) = false := by simp; omega
  generalize sizeL x n = s at *
  generalize sizeL y n' = s' at *
  clear h h' hv hx0
  generalize val x n = X at *
  generalize val y n' = Y at *
  go_enter Tryd.func68, Tryd.ntmps68
  go_wp2_with (first | (go_at_call_of 50 (Value.slice a n c); refine hb.mono ?_; rintro e w' ⟨rfl, rfl⟩) | (go_at_call_of 50 (Value.slice a' n' c'); refine hb'.mono ?_; rintro e w' ⟨rfl, rfl⟩) | (go_at_call 71; refine ht.mono ?_; rintro e w1 ⟨rfl, rfl⟩))
  go_ret3
  exact ⟨none, 0, 0, _, _, s, s, x, rfl, by omega, by omega, num_none _, HN.out, by rw [HV.out.1]; rfl, by rw [HV.out.2]; exact HVX.out, rfl, HSS.out, below1 w _⟩
set_option maxHeartbeats 1000000 in
theorem ndiv_one (a a' : Option Addr) (n c n' c' : Nat) (x y : Nat → Int) (w : World) (hn : n < 4000000000) (hn' : n' < 4000000000) (h : Num w a n c x) (h' : Num w a' n' c' y) (hs : sizeL x n ≤ 2000) (hs' : sizeL y n' = 1) (hlt : 1 ≤ sizeL x n) :
    Calls Tryd.prog 68 #[.slice a n c, .slice a' n' c'] w (DivOut n n' (val x n) (val y n') w) := by
  have hb := bare_any a n c x w (by omega) h
  have hb' := bare_any a' n' c' y w (by omega) h'
  have hle := sizeL_le x n
  have hle' := sizeL_le y n'
  have ht := ntrim_any a (sizeL x n) c x w (by omega) h.bare
  rw [sizeL_sizeL] at ht
  have hy1 : val y n' = y 0 := by rw [← val_bare n', hs']; simp [val]
  have hyt := sizeL_top (x := y) n' (by omega)
  rw [hs'] at hyt
  have hyb := h'.2.2.1 0
  have hy0 : 0 < y 0 := by have : y 0 ≠ 0 := hyt; omega
  obtain ⟨b', off', rfl, hbs', hc'⟩ := h'.cells (by omega)
  have hcy := hc' 0 (by omega)
  have hx := h.2.2.1
  have HVX : Hid (val x (sizeL x n) = val x n) := val_bare n
  rw [hs'] at hb'
  have hd := divideBy_any w.heap.size (sizeL x n) (sizeL x n) (sizeL x n) x (y 0) _ (Nat.le_refl _) (by omega) hx ⟨hy0, hyb.2⟩ (Own.new w x (sizeL x n))
  have hqv := quo_val hx hy0 (sizeL x n)
  rw [hy1]
  have hcy2 : (w.alloc (.cells (arrOf x (sizeL x n)) 22)).cell? ⟨b', off', none⟩ = some (.int .u64 (y 0)) := ((below1 w _).cell (p := ⟨b', off', none⟩) hbs').trans hcy
  have HB := below1 w (.cells (arrOf x (sizeL x n)) 22)
  have hsi : (sizeL x n : Int) ≤ 2000 := by omega
  have hs1i : ¬ (sizeL x n : Int) < 1 := by omega
  have hs1n : ¬ sizeL x n < 1 := by omega
  have HDW : Hid (Words (divZ x (y 0) (sizeL x n) 0)) := divZ_words hx hy0 _ 0
  have HDV : Hid (val (divZ x (y 0) (sizeL x n) 0) (sizeL x n) = val x n / y 0) := by
    show _ = _
    rw [val_congr (y := quoW x (y 0) (sizeL x n)) (sizeL x n) fun i hi => by unfold divZ; rw [if_pos (by omega)], hqv.1, HVX.out]
  have HRV : Hid (remJ x (y 0) (sizeL x n) (sizeL x n) = val x n % y 0) := by show _ = _; rw [hqv.2, HVX.out]
  have hrb := remJ_bd x (y 0) (sizeL x n) (sizeL x n) hy0
  generalize remJ x (y 0) (sizeL x n) (sizeL x n) = rm at *
  generalize divZ x (y 0) (sizeL x n) 0 = dz at *
  generalize sizeL x n = s at *
  clear h h' hc' hqv hyt hx HVX hy1
  generalize val x n = X at *
  go_enter Tryd.func68, Tryd.ntmps68
  go_wp2_with (first | (go_at_call_of 50 (Value.slice a n c); refine hb.mono ?_; rintro e w' ⟨rfl, rfl⟩; clear hb) | (go_at_call_of 50 (Value.slice (some ⟨b', off', none⟩) n' c'); refine hb'.mono ?_; rintro e w' ⟨rfl, rfl⟩; clear hb') | (go_at_call 71; refine ht.mono ?_; rintro e w1 ⟨rfl, rfl⟩) | (go_at_call 80; refine hd.mono ?_; rintro e w2 ⟨rfl, hO2, hU2⟩))
  obtain ⟨k, z', hkN, hNk, hvk, hsk, hbr⟩ := bare_own hO2 HDW.out (by omega) (Nat.le_refl s) (by unfold maxLen; omega) HDV.out
  go_wp2_with (go_at_call 50; refine hbr.mono ?_; rintro e w3 ⟨rfl, rfl⟩; clear hbr)
  have hN1 := num_one w2 rm (by omega)
  have hB2 := below1 w2 (.cells #[.int .u64 rm] 22)
  have hbr2 := bare_any _ 1 1 (oneW rm) _ (by omega) hN1
  have HN1 : Hid (Num (w2.alloc (.cells #[.int .u64 rm] 22)) (some ⟨w2.heap.size, 0, none⟩) (sizeL (oneW rm) 1) 1 (oneW rm)) := hN1.bare
  have HNk : Hid (Num (w2.alloc (.cells #[.int .u64 rm] 22)) (some ⟨w.heap.size, 0, none⟩) k s z') := hNk.next hB2
  have HBB : Hid (Below w.heap.size w (w2.alloc (.cells #[.int .u64 rm] 22))) := (HB.trans (hU2.below (Nat.le_refl _))).trans (hB2.mono (by rw [hU2.size]; simp))
  have HV1 : Hid (val (oneW rm) (sizeL (oneW rm) 1) = X % y 0) := by show _ = _; rw [val_bare, val_oneA, HRV.out]
  have HSS : Hid (sizeL (oneW rm) (sizeL (oneW rm) 1) = sizeL (oneW rm) 1) := sizeL_sizeL _ _
  have HLE : Hid (sizeL (oneW rm) 1 ≤ 1) := sizeL_le _ _
  generalize sizeL (oneW rm) 1 = k1 at *
  clear hN1 hB2 hNk hO2 hU2 HB
  go_wp2_with (go_at_call 50; refine hbr2.mono ?_; rintro e w4 ⟨rfl, rfl⟩; clear hbr2)
  go_ret3
  exact ⟨_, k, s, z', _, k1, 1, oneW rm, rfl, by omega, by have := HLE.out; omega, HNk.out, HN1.out, hvk, HV1.out, hsk, HSS.out, HBB.out⟩
set_option maxHeartbeats 1000000 in
theorem ndiv_long (a a' : Option Addr) (n c n' c' : Nat) (x y : Nat → Int) (w : World) (hn : n < 4000000000) (hn' : n' < 4000000000) (h : Num w a n c x) (h' : Num w a' n' c' y) (hs : sizeL x n ≤ 2000) (hs' : 2 ≤ sizeL y n') (hlt : sizeL y n' ≤ sizeL x n) :
    Calls Tryd.prog 68 #[.slice a n c, .slice a' n' c'] w (DivOut n n' (val x n) (val y n') w) := by
  have hb := bare_any a n c x w (by omega) h
  have hb' := bare_any a' n' c' y w (by omega) h'
  have hle := sizeL_le x n
  have hle' := sizeL_le y n'
  have hd := divideLong_any a a' (sizeL x n) c (sizeL y n') c' x y w hs hs' hlt h.bare h'.bare (sizeL_sizeL y n')
  rw [val_bare, val_bare] at hd
  have hlti : ¬ (sizeL x n : Int) < sizeL y n' := by omega
  have hltn : ¬ sizeL x n < sizeL y n' := by omega
  have hsi : (sizeL x n : Int) ≤ 2000 := by omega
  have hsi' : (sizeL y n' : Int) ≤ 2000 := by omega
  have hne : ((sizeL y n' : Int) == 0) = false := by simp; omega
  have hne1 : ((sizeL y n' : Int) == 1) = false := by simp; omega
  generalize sizeL x n = s at *
  generalize sizeL y n' = s' at *
  clear h h'
  generalize val x n = X at *
  generalize val y n' = Y at *
  go_enter Tryd.func68, Tryd.ntmps68
  go_wp2_with (first | (go_at_call_of 50 (Value.slice a n c); refine hb.mono ?_; rintro e w' ⟨rfl, rfl⟩; clear hb) | (go_at_call_of 50 (Value.slice a' n' c'); refine hb'.mono ?_; rintro e w' ⟨rfl, rfl⟩; clear hb') | (go_at_call 81; refine hd.mono ?_; rintro e w2 ⟨gq, gr, q, z, rfl, hQ, hqw, hqv, hR, hzw, hzv, hB⟩))
  obtain ⟨k, z', hkN, hNk, hvk, hsk, hbr⟩ := bare_own hQ hqw (by omega) (Nat.le_refl _) (by unfold maxLen; omega) hqv
  obtain ⟨k2, z2, hkN2, hNk2, hvk2, hsk2, hbr2⟩ := bare_own hR hzw (by omega) (Nat.le_refl _) (by unfold maxLen; omega) hzv
  have HNk : Hid (Num w2 (some ⟨gq, 0, none⟩) k (s - s' + 1) z') := hNk
  have HNk2 : Hid (Num w2 (some ⟨gr, 0, none⟩) k2 s' z2) := hNk2
  clear hQ hR hNk hNk2
  go_wp2_with (go_at_call 50; refine hbr.mono ?_; rintro e w3 ⟨rfl, rfl⟩; clear hbr)
  go_wp2_with (go_at_call 50; refine hbr2.mono ?_; rintro e w4 ⟨rfl, rfl⟩; clear hbr2)
  go_ret3
  exact ⟨_, k, _, z', _, k2, _, z2, rfl, by omega, by omega, HNk.out, HNk2.out, hvk, hvk2, hsk, hsk2, hB⟩
theorem ndiv_any (a a' : Option Addr) (n c n' c' : Nat) (x y : Nat → Int) (w : World) (hn : n < 4000000000) (hn' : n' < 4000000000) (h : Num w a n c x) (h' : Num w a' n' c' y) (hs : sizeL x n ≤ 2000) (hs' : sizeL y n' ≤ 2000) (hy : 0 < sizeL y n') :
    Calls Tryd.prog 68 #[.slice a n c, .slice a' n' c'] w (DivOut n n' (val x n) (val y n') w) := by
  by_cases h1 : sizeL x n < sizeL y n'
  · exact ndiv_less a a' n c n' c' x y w hn hn' h h' hs hs' h1
  · by_cases h2 : sizeL y n' = 1
    · exact ndiv_one a a' n c n' c' x y w hn hn' h h' hs h2 (by omega)
    · exact ndiv_long a a' n c n' c' x y w hn hn' h h' hs (by omega) (by omega)
end
theorem p64' (q r : Nat) : (18446744073709551616 : Int) ^ q * 2 ^ r = 2 ^ (64 * q + r) := by rw [Int.mul_comm]; exact p64 q r
/-- a number lies between two powers of two, by its length -/
theorem len_bd {x : Nat → Int} (hx : Words x) {n : Nat} (h : 0 < sizeL x n) : ∃ L : Nat, lenL x n = (L : Int) + 1 ∧ 2 ^ L ≤ val x n ∧ val x n < 2 ^ (L + 1) := by
  obtain ⟨j, hj⟩ : ∃ j, sizeL x n = j + 1 := ⟨sizeL x n - 1, by omega⟩
  have ht := sizeL_top (x := x) n h
  rw [hj] at ht
  have hxj := hx j
  have hne : x j ≠ 0 := ht
  obtain ⟨u, hu⟩ := Int.eq_ofNat_of_zero_le hxj.1
  have hb := bitLen_spec u (by omega) (by omega)
  have hv : val x n = val x j + x j * 18446744073709551616 ^ j := by rw [← val_bare n, hj]; rfl
  have hbd := val_bd hx j
  have hP := pw_pos j
  refine ⟨64 * j + (Lib.bitLen u - 1), ?_, ?_, ?_⟩
  · unfold lenL; rw [if_neg (by omega), hj]
    show 64 * ((j + 1 : Nat) : Int) - 64 + (Lib.bitLen (x j).toNat : Nat) = _
    rw [hu, Int.toNat_natCast]; omega
  · rw [hv, ← p64', hu]
    have h1 : (2 : Int) ^ (Lib.bitLen u - 1) ≤ u := by rw [← powCast]; omega
    have h2 : 18446744073709551616 ^ j * 2 ^ (Lib.bitLen u - 1) ≤ 18446744073709551616 ^ j * (u : Int) := Int.mul_le_mul_of_nonneg_left h1 (Int.le_of_lt hP)
    rw [Int.mul_comm _ (u : Int)] at h2
    omega
  · rw [hv, show 64 * j + (Lib.bitLen u - 1) + 1 = 64 * j + Lib.bitLen u by omega, ← p64', hu]
    have h1 : (u : Int) + 1 ≤ 2 ^ Lib.bitLen u := by rw [← powCast]; omega
    have h2 : 18446744073709551616 ^ j * ((u : Int) + 1) ≤ 18446744073709551616 ^ j * 2 ^ Lib.bitLen u := Int.mul_le_mul_of_nonneg_left h1 (Int.le_of_lt hP)
    rw [Int.mul_add, Int.mul_one, Int.mul_comm _ (u : Int)] at h2
    omega
/-- words shifted down, by whole words and bits: their value -/
theorem shrW_val {y : Nat → Int} {n q r A : Nat} (hy : Words y) (hz : ∀ i, n ≤ i → y i = 0) (hr : r < 64) (m : Nat) (hm : n ≤ m) (hA : val y n = A) : val (shrW y q r) m = ((A / 2 ^ (64 * q + r) : Nat) : Int) := by
  have hw : Words (fun i => y (q + i)) := fun i => hy (q + i)
  have e1 : shrW y q r = shrW (fun i => y (q + i)) 0 r := by
    funext j; unfold shrW; simp only [Nat.zero_add, Nat.add_assoc]
  have h1 := dn_val hw hr m
  have h2 : y (q + m) = 0 := hz _ (by omega)
  simp only [h2, Int.zero_emod, Int.zero_mul, Int.add_zero, Nat.add_zero] at h1
  have h3 := val_split y q m
  have h4 : val (segW y q m) m = val (fun i => y (q + i)) m := val_congr m fun i hi => segW_lt y q m i hi
  rw [h4, val_more hz (q + m) (by omega), hA] at h3
  rw [e1]
  have hb1 := val_bd hy q
  have hb2 := val_bd (shrW_words hw (q := 0) (r := r)) m
  have hp : (0 : Int) < 2 ^ r := p2_pos r
  have hm1 := Int.emod_nonneg (y q) (Int.ne_of_gt hp)
  have hm2 := Int.emod_lt_of_pos (y q) hp
  generalize val (shrW (fun i => y (q + i)) 0 r) m = S at *
  generalize val (fun i => y (q + i)) m = Z at *
  have eZ : Z / 2 ^ r = S := by
    rw [← h1, Int.add_comm, Int.add_mul_ediv_right _ _ (Int.ne_of_gt hp), Int.ediv_eq_zero_of_lt hm1 hm2, Int.zero_add]
  have eA : (A : Int) / 18446744073709551616 ^ q = Z := by
    rw [h3, Int.add_mul_ediv_right _ _ (Int.ne_of_gt (pw_pos q)), Int.ediv_eq_zero_of_lt hb1.1 hb1.2, Int.zero_add]
  rw [← eZ, ← eA, Int.natCast_ediv, Int.ediv_ediv_of_nonneg (Int.le_of_lt (pw_pos q)), p64']
  simp
theorem bnx {w0 W W' : World} (h : Below w0.heap.size w0 W) (hb : Below W.heap.size W W') : Below w0.heap.size w0 W' := h.trans (hb.mono h.size)
/-- how many bits a number has -/
def bl (V : Nat) : Nat := if V = 0 then 0 else Nat.log2 V + 1
theorem bl_le {V k : Nat} : bl V ≤ k ↔ V < 2 ^ k := by
  unfold bl
  by_cases h : V = 0
  · subst h; simp; exact Nat.two_pow_pos k
  · rw [if_neg h]
    have := Nat.log2_lt h (k := k)
    omega
theorem bl_ge {V k : Nat} : k < bl V ↔ 2 ^ k ≤ V := by
  have := bl_le (V := V) (k := k)
  omega
theorem bl_zero {V : Nat} : bl V = 0 ↔ V = 0 := by
  unfold bl; by_cases h : V = 0 <;> simp [h]
theorem bl_eq {V L : Nat} (h1 : 2 ^ (L - 1) ≤ V) (h2 : V < 2 ^ L) : bl V = L := by
  have a := bl_le.2 h2
  by_cases h : L = 0
  · omega
  · have b := bl_ge.2 h1
    omega
/-- a number in a list of words, at most K of them -/
def Nt (K V : Nat) (v : Value) (w : World) : Prop := ∃ a k cap z, v = .slice a k cap ∧ k ≤ K ∧ Num w a k cap z ∧ val z k = (V : Int)
theorem Nt.next {K V : Nat} {v : Value} {w w' : World} (h : Nt K V v w) (hb : Below w.heap.size w w') : Nt K V v w' := by
  obtain ⟨a, k, cap, z, h1, h2, h3, h4⟩ := h
  exact ⟨a, k, cap, z, h1, h2, h3.next hb, h4⟩
theorem Nt.more {K K' V : Nat} {v : Value} {w : World} (h : Nt K V v w) (hk : K ≤ K') : Nt K' V v w := by
  obtain ⟨a, k, cap, z, h1, h2, h3, h4⟩ := h
  exact ⟨a, k, cap, z, h1, by omega, h3, h4⟩
/-- without noughts at its end -/
def Nz (K V : Nat) (v : Value) (w : World) : Prop := ∃ a k cap z, v = .slice a k cap ∧ k ≤ K ∧ Num w a k cap z ∧ val z k = (V : Int) ∧ sizeL z k = k
theorem Nz.next {K V : Nat} {v : Value} {w w' : World} (h : Nz K V v w) (hb : Below w.heap.size w w') : Nz K V v w' := by
  obtain ⟨a, k, cap, z, h1, h2, h3, h4, h5⟩ := h
  exact ⟨a, k, cap, z, h1, h2, h3.next hb, h4, h5⟩
theorem Nz.nt {K V : Nat} {v : Value} {w : World} (h : Nz K V v w) : Nt K V v w := by
  obtain ⟨a, k, cap, z, h1, h2, h3, h4, h5⟩ := h
  exact ⟨a, k, cap, z, h1, h2, h3, h4⟩
theorem size_zero {z : Nat → Int} {k V : Nat} (hz : Words z) (hv : val z k = (V : Int)) : sizeL z k = 0 ↔ V = 0 := by
  constructor
  · intro h
    have := val_bare (x := z) k
    rw [h] at this
    have h0 : val z 0 = 0 := rfl
    omega
  · intro h
    subst h
    rcases Nat.eq_zero_or_pos (sizeL z k) with h | h
    · exact h
    · exfalso
      have := val_longer (x := z) (y := z) hz hz (n := 0) (m := sizeL z k) h (sizeL_sizeL z k)
      rw [val_bare] at this
      have h0 : val z 0 = 0 := rfl
      omega
theorem len_bl {z : Nat → Int} {k V : Nat} (hz : Words z) (hv : val z k = (V : Int)) : lenL z k = (bl V : Int) := by
  rcases Nat.eq_zero_or_pos (sizeL z k) with h | h
  · have h0 := (size_zero hz hv).1 h
    unfold lenL; rw [if_pos h, h0]; rfl
  · obtain ⟨L, h1, h2, h3⟩ := len_bd hz h
    rw [hv] at h2 h3
    have e : bl V = L + 1 := by
      have e1 : ((2 : Int) ^ L) = ((2 ^ L : Nat) : Int) := by simp
      have e2 : ((2 : Int) ^ (L + 1)) = ((2 ^ (L + 1) : Nat) : Int) := by simp
      rw [e1] at h2
      rw [e2] at h3
      exact bl_eq (by rw [Nat.add_sub_cancel]; omega) (by omega)
    rw [e, h1]; omega
/-- how many words -/
theorem size_bl {z : Nat → Int} {k V m : Nat} (hz : Words z) (hv : val z k = (V : Int)) : sizeL z k ≤ m ↔ bl V ≤ 64 * m := by
  have hl := len_bl hz hv
  unfold lenL at hl
  rcases Nat.eq_zero_or_pos (sizeL z k) with h | h
  · rw [if_pos h] at hl; omega
  · rw [if_neg (by omega)] at hl
    have ht := sizeL_top k h
    have hw := hz (sizeL z k - 1)
    have hb := bitLen_spec (z (sizeL z k - 1)).toNat (by omega) (by omega)
    omega
theorem nlen_v {K V : Nat} {v : Value} {w : World} (hK : K < 100000000) (h : Nt K V v w) :
    Calls Tryd.prog 33 #[v] w fun e w' => e = .returned (.int .i64 (bl V : Int)) ∧ w = w' := by
  obtain ⟨a, k, cap, z, rfl, hk, hN, hv⟩ := h
  refine (nlen_any a k cap z w (by omega) hN).mono fun e w' ⟨h1, h2⟩ => ⟨?_, h2⟩
  rw [h1, len_bl hN.2.2.1 hv]
theorem nshl_v {K V : Nat} {v : Value} {w : World} (d : Nat) (hK : K < 100000000) (h : Nt K V v w) (hd : bl V + d ≤ 127000) :
    Calls Tryd.prog 61 #[v, .int .i64 (d : Int)] w fun e w' => ∃ r, e = .returned (.tuple #[r, .int .i64 0]) ∧ Nz 2001 (V * 2 ^ d) r w' ∧ Below w.heap.size w w' := by
  obtain ⟨a, k, cap, z, rfl, hk, hN, hv⟩ := h
  have hs := (size_bl (m := (bl V + 63) / 64) hN.2.2.1 hv).2 (by omega)
  refine (nshl_any a k cap z d w (by omega) hN (by omega) (by omega)).mono fun e w' ⟨g, k', cap', z', h1, h2, h3, h4, h5, h6⟩ => ⟨_, h1, ⟨_, k', cap', z', rfl, h2, h3, ?_, h5⟩, h6⟩
  rw [h4, hv]; simp
theorem ncmp_v {K K' V V' : Nat} {v v' : Value} {w : World} (hK : K < 100000000) (hK' : K' < 100000000) (h : Nt K V v w) (h' : Nt K' V' v' w) :
    Calls Tryd.prog 37 #[v, v'] w fun e w' => e = .returned (.int .i64 (sgn (V : Int) (V' : Int))) ∧ Below w.heap.size w w' := by
  obtain ⟨a, k, cap, z, rfl, hk, hN, hv⟩ := h
  obtain ⟨a', k', cap', z', rfl, hk', hN', hv'⟩ := h'
  have := ncmp_b a a' k cap k' cap' z z' w (by omega) (by omega) hN hN'
  rw [hv, hv'] at this
  exact this
theorem nadd_v {K K' V V' : Nat} {v v' : Value} {w : World} (hK : K < 100000000) (hK' : K' < 100000000) (h : Nt K V v w) (h' : Nt K' V' v' w) :
    Calls Tryd.prog 70 #[v, v'] w fun e w' => ∃ r, e = .returned r ∧ Nz (K + K' + 1) (V + V') r w' ∧ Below w.heap.size w w' := by
  obtain ⟨a, k, cap, z, rfl, hk, hN, hv⟩ := h
  obtain ⟨a', k', cap', z', rfl, hk', hN', hv'⟩ := h'
  have s1 := sizeL_le z k
  have s2 := sizeL_le z' k'
  refine (nadd_any a a' k cap k' cap' z z' w (by omega) (by omega) hN hN').mono fun e w' ⟨g, k2, cap2, z2, h1, h2, h3, h4, h5, h6⟩ => ⟨_, h1, ⟨_, k2, cap2, z2, rfl, by omega, h3, ?_, h5⟩, h6⟩
  rw [h4, hv, hv']; omega
theorem ndiv_v {K K' V V' : Nat} {v v' : Value} {w : World} (hK : K < 100000000) (hK' : K' < 100000000) (h : Nt K V v w) (h' : Nt K' V' v' w) (hb : bl V ≤ 128000) (hb' : bl V' ≤ 128000) (h0 : V' ≠ 0) :
    Calls Tryd.prog 68 #[v, v'] w fun e w' => ∃ q r, e = .returned (.tuple #[q, r, .int .i64 0]) ∧ Nz 2001 (V / V') q w' ∧ Nz 2001 (V % V') r w' ∧ Below w.heap.size w w' := by
  obtain ⟨a, k, cap, z, rfl, hk, hN, hv⟩ := h
  obtain ⟨a', k', cap', z', rfl, hk', hN', hv'⟩ := h'
  have s1 := (size_bl (m := 2000) hN.2.2.1 hv).2 (by omega)
  have s2 := (size_bl (m := 2000) hN'.2.2.1 hv').2 (by omega)
  have s3 : 0 < sizeL z' k' := Nat.pos_of_ne_zero fun e => h0 ((size_zero hN'.2.2.1 hv').1 e)
  refine (ndiv_any a a' k cap k' cap' z z' w (by omega) (by omega) hN hN' s1 s2 s3).mono fun e w' ⟨o, k2, cap2, z2, o', k3, cap3, z3, h1, h2, h3, h4, h5, h6, h7, h8, h9, h10⟩ => ⟨_, _, h1, ⟨_, _, _, _, rfl, h2, h4, ?_, h8⟩, ⟨_, _, _, _, rfl, h3, h5, ?_, h9⟩, h10⟩
  · rw [h6, hv, hv']; simp
  · rw [h7, hv, hv']; simp
theorem nshr_v {K V : Nat} {v : Value} {w : World} (hK : K < 100000000) (h : Nt K V v w) :
    Calls Tryd.prog 58 #[v, .int .i64 1] w fun e w' => ∃ r b, e = .returned (.tuple #[r, .bool b]) ∧ Nz K (V / 2) r w' ∧ Below w.heap.size w w' := by
  obtain ⟨a, k, cap, z, rfl, hk, hN, hv⟩ := h
  refine (nshr_all a k cap z 1 w (by omega) hN (by decide)).mono fun e w' ⟨o, k2, cap2, h1, h2, h3, h4, h5⟩ => ⟨_, _, h1, ⟨_, _, _, _, rfl, by omega, h3, ?_, h4⟩, h5⟩
  have hz := h3.2.2.2.1
  have e1 : shrF z 1 = shrW z 0 1 := by unfold shrF; rw [if_neg (by decide)]; rfl
  rw [← val_more hz k h2, e1]
  exact shrW_val hN.2.2.1 hN.2.2.2.1 (by decide) k (Nat.le_refl _) hv
section
def knB (d : Int) : Prop := 0 ≤ d ∧ d ≤ 4
instance (d : Int) : Decidable (knB d) := inferInstanceAs (Decidable (_ ∧ _))
theorem known_any (d : Int) (w : World) : Calls Tryd.prog 34 #[.int .i64 d] w fun e w' => e = .returned (.bool (decide (knB d))) ∧ w = w' := by
  by_cases h1 : 0 ≤ d
  · by_cases h2 : d ≤ 4
    · rw [decide_eq_true (show knB d from ⟨h1, h2⟩)]
      go_enter Tryd.func34, Tryd.ntmps34
      go_wp2
      go_ret
      exact ⟨rfl, rfl⟩
    · rw [decide_eq_false (show ¬ knB d from fun h => h2 h.2)]
      go_enter Tryd.func34, Tryd.ntmps34
      go_wp2
      go_ret
      exact ⟨rfl, rfl⟩
  · rw [decide_eq_false (show ¬ knB d from fun h => h1 h.1)]
    go_enter Tryd.func34, Tryd.ntmps34
    go_wp2
    go_ret
    exact ⟨rfl, rfl⟩
/-- does what overflows become infinite -/
def inB (d : Int) (s : Bool) : Bool := if d = 0 ∨ d = 1 then true else if d = 3 then !s else if d = 4 then s else false
set_option maxHeartbeats 400000 in
theorem infinite_any (d : Int) (s : Bool) (w : World) : Calls Tryd.prog 73 #[.int .i64 d, .bool s] w fun e w' => e = .returned (.bool (inB d s)) ∧ w = w' := by
  by_cases h0 : d = 0
  · subst h0
    go_enter Tryd.func73, Tryd.ntmps73
    go_wp2
    go_ret
    exact ⟨rfl, rfl⟩
  · by_cases h1 : d = 1
    · subst h1
      go_enter Tryd.func73, Tryd.ntmps73
      go_wp2
      go_ret
      exact ⟨rfl, rfl⟩
    · by_cases h3 : d = 3
      · subst h3
        go_enter Tryd.func73, Tryd.ntmps73
        go_wp2
        go_ret
        exact ⟨rfl, rfl⟩
      · by_cases h4 : d = 4
        · subst h4
          go_enter Tryd.func73, Tryd.ntmps73
          go_wp2
          go_ret
          exact ⟨rfl, rfl⟩
        · have e : inB d s = false := by unfold inB; simp [h0, h1, h3, h4]
          have b0 : (d == 0) = false := by simpa using h0
          have b1 : (d == 1) = false := by simpa using h1
          have b3 : (d == 3) = false := by simpa using h3
          have b4 : (d == 4) = false := by simpa using h4
          rw [e]
          go_enter Tryd.func73, Tryd.ntmps73
          go_wp2
          go_ret
          exact ⟨rfl, rfl⟩
/-- is the neighbour farther from nought taken -/
def faB (d : Int) (s odd : Bool) (R D : Nat) : Bool := if R = 0 then false else if d = 0 then decide (D < R + R) || (decide (R + R = D) && odd) else if d = 1 then decide (D ≤ R + R) else inB d s
theorem sgn_ways (a b : Int) : (a < b ∧ sgn a b = -1) ∨ (a = b ∧ sgn a b = 0) ∨ (b < a ∧ sgn a b = 1) := by
  unfold sgn
  by_cases h : a < b
  · exact Or.inl ⟨h, if_pos h⟩
  · by_cases h' : b < a
    · exact Or.inr (Or.inr ⟨h', by rw [if_neg h, if_pos h']⟩)
    · exact Or.inr (Or.inl ⟨by omega, by rw [if_neg h, if_neg h']⟩)
section
variable (d : Int) (s odd : Bool) (R D : Nat) (vr vd : Value) (w : World)
  (c26 : ∀ W, Below w.heap.size w W → Calls Tryd.prog 33 #[vr] W fun e w' => e = .returned (.int .i64 (bl R : Int)) ∧ W = w')
include c26
set_option maxHeartbeats 400000 in
theorem far_zero (h : R = 0) : Calls Tryd.prog 69 #[.int .i64 d, .bool s, .bool odd, vr, vd] w fun e w' => e = .returned (.bool false) ∧ Below w.heap.size w w' := by
  have hb : (((bl R : Nat) : Int) == 0) = true := by rw [h]; decide
  go_enter Tryd.func69, Tryd.ntmps69
  go_wp2_with (go_at_call 33; refine (c26 _ bgo).mono ?_; rintro e w1 ⟨rfl, rfl⟩)
  go_ret
  exact ⟨rfl, bgo⟩
variable (hv : Int) (hR : (((bl R : Nat) : Int) == 0) = false)
  (c61 : ∀ W, Below w.heap.size w W → Calls Tryd.prog 70 #[vr, vr] W fun e w' => ∃ r, e = .returned r ∧ (∀ W', Below w'.heap.size w' W' → Calls Tryd.prog 37 #[r, vd] W' fun e w'' => e = .returned (.int .i64 hv) ∧ Below W'.heap.size W' w'') ∧ Below W.heap.size W w')
include hR c61
set_option maxHeartbeats 400000 in
theorem far_0g (h : 0 < hv) : Calls Tryd.prog 69 #[.int .i64 0, .bool s, .bool odd, vr, vd] w fun e w' => e = .returned (.bool true) ∧ Below w.heap.size w w' := by
  go_enter Tryd.func69, Tryd.ntmps69
  go_wp2_with (first
    | (go_at_call 33; refine (c26 _ bgo).mono ?_; rintro e w1 ⟨rfl, rfl⟩)
    | (go_at_call 70; refine (c61 _ bgo).mono ?_; rintro e w2 ⟨v2, rfl, c58, hb2⟩; have hA2 := bnx (w0 := w) bgo hb2)
    | (go_at_call 37; refine (c58 _ (Below.refl _ _)).mono ?_; rintro e w3 ⟨rfl, hb3⟩; have hA3 := bnx (w0 := w) hA2 hb3)
    | (go_at_call 73; refine (infinite_any _ _ _).mono ?_; rintro e w4 ⟨rfl, rfl⟩))
  go_ret
  exact ⟨by first | rfl | (simp; omega), bgo⟩
set_option maxHeartbeats 400000 in
theorem far_0e (h : hv = 0) : Calls Tryd.prog 69 #[.int .i64 0, .bool s, .bool odd, vr, vd] w fun e w' => e = .returned (.bool odd) ∧ Below w.heap.size w w' := by
  subst h
  go_enter Tryd.func69, Tryd.ntmps69
  go_wp2_with (first
    | (go_at_call 33; refine (c26 _ bgo).mono ?_; rintro e w1 ⟨rfl, rfl⟩)
    | (go_at_call 70; refine (c61 _ bgo).mono ?_; rintro e w2 ⟨v2, rfl, c58, hb2⟩; have hA2 := bnx (w0 := w) bgo hb2)
    | (go_at_call 37; refine (c58 _ (Below.refl _ _)).mono ?_; rintro e w3 ⟨rfl, hb3⟩; have hA3 := bnx (w0 := w) hA2 hb3)
    | (go_at_call 73; refine (infinite_any _ _ _).mono ?_; rintro e w4 ⟨rfl, rfl⟩))
  go_ret
  exact ⟨by first | rfl | (simp; omega), bgo⟩
set_option maxHeartbeats 400000 in
theorem far_0l (h : ¬ 0 < hv) (h1 : (hv == 0) = false) : Calls Tryd.prog 69 #[.int .i64 0, .bool s, .bool odd, vr, vd] w fun e w' => e = .returned (.bool false) ∧ Below w.heap.size w w' := by
  go_enter Tryd.func69, Tryd.ntmps69
  go_wp2_with (first
    | (go_at_call 33; refine (c26 _ bgo).mono ?_; rintro e w1 ⟨rfl, rfl⟩)
    | (go_at_call 70; refine (c61 _ bgo).mono ?_; rintro e w2 ⟨v2, rfl, c58, hb2⟩; have hA2 := bnx (w0 := w) bgo hb2)
    | (go_at_call 37; refine (c58 _ (Below.refl _ _)).mono ?_; rintro e w3 ⟨rfl, hb3⟩; have hA3 := bnx (w0 := w) hA2 hb3)
    | (go_at_call 73; refine (infinite_any _ _ _).mono ?_; rintro e w4 ⟨rfl, rfl⟩))
  go_ret
  exact ⟨by first | rfl | (simp; omega), bgo⟩
set_option maxHeartbeats 400000 in
theorem far_1g (h : 0 ≤ hv) : Calls Tryd.prog 69 #[.int .i64 1, .bool s, .bool odd, vr, vd] w fun e w' => e = .returned (.bool true) ∧ Below w.heap.size w w' := by
  go_enter Tryd.func69, Tryd.ntmps69
  go_wp2_with (first
    | (go_at_call 33; refine (c26 _ bgo).mono ?_; rintro e w1 ⟨rfl, rfl⟩)
    | (go_at_call 70; refine (c61 _ bgo).mono ?_; rintro e w2 ⟨v2, rfl, c58, hb2⟩; have hA2 := bnx (w0 := w) bgo hb2)
    | (go_at_call 37; refine (c58 _ (Below.refl _ _)).mono ?_; rintro e w3 ⟨rfl, hb3⟩; have hA3 := bnx (w0 := w) hA2 hb3)
    | (go_at_call 73; refine (infinite_any _ _ _).mono ?_; rintro e w4 ⟨rfl, rfl⟩))
  go_ret
  exact ⟨by first | rfl | (simp; omega), bgo⟩
set_option maxHeartbeats 400000 in
theorem far_1l (h : ¬ 0 ≤ hv) : Calls Tryd.prog 69 #[.int .i64 1, .bool s, .bool odd, vr, vd] w fun e w' => e = .returned (.bool false) ∧ Below w.heap.size w w' := by
  go_enter Tryd.func69, Tryd.ntmps69
  go_wp2_with (first
    | (go_at_call 33; refine (c26 _ bgo).mono ?_; rintro e w1 ⟨rfl, rfl⟩)
    | (go_at_call 70; refine (c61 _ bgo).mono ?_; rintro e w2 ⟨v2, rfl, c58, hb2⟩; have hA2 := bnx (w0 := w) bgo hb2)
    | (go_at_call 37; refine (c58 _ (Below.refl _ _)).mono ?_; rintro e w3 ⟨rfl, hb3⟩; have hA3 := bnx (w0 := w) hA2 hb3)
    | (go_at_call 73; refine (infinite_any _ _ _).mono ?_; rintro e w4 ⟨rfl, rfl⟩))
  go_ret
  exact ⟨by first | rfl | (simp; omega), bgo⟩
set_option maxHeartbeats 400000 in
theorem far_d (h0 : (d == 0) = false) (h1 : (d == 1) = false) : Calls Tryd.prog 69 #[.int .i64 d, .bool s, .bool odd, vr, vd] w fun e w' => e = .returned (.bool (inB d s)) ∧ Below w.heap.size w w' := by
  go_enter Tryd.func69, Tryd.ntmps69
  go_wp2_with (first
    | (go_at_call 33; refine (c26 _ bgo).mono ?_; rintro e w1 ⟨rfl, rfl⟩)
    | (go_at_call 70; refine (c61 _ bgo).mono ?_; rintro e w2 ⟨v2, rfl, c58, hb2⟩; have hA2 := bnx (w0 := w) bgo hb2)
    | (go_at_call 37; refine (c58 _ (Below.refl _ _)).mono ?_; rintro e w3 ⟨rfl, hb3⟩; have hA3 := bnx (w0 := w) hA2 hb3)
    | (go_at_call 73; refine (infinite_any _ _ _).mono ?_; rintro e w4 ⟨rfl, rfl⟩))
  go_ret
  exact ⟨by first | rfl | (simp; omega), bgo⟩
end
theorem farther_v (d : Int) (s odd : Bool) {K K' R D : Nat} {vr vd : Value} {w : World} (hK : K < 1000000) (hK' : K' < 1000000) (h : Nt K R vr w) (h' : Nt K' D vd w) :
    Calls Tryd.prog 69 #[.int .i64 d, .bool s, .bool odd, vr, vd] w fun e w' => e = .returned (.bool (faB d s odd R D)) ∧ Below w.heap.size w w' := by
  have c26 := fun W (hb : Below w.heap.size w W) => nlen_v (by omega) (h.next hb)
  unfold faB
  by_cases hz : R = 0
  · rw [if_pos hz]; exact far_zero d s odd R vr vd w c26 hz
  · rw [if_neg hz]
    have hR : (((bl R : Nat) : Int) == 0) = false := by
      have : bl R ≠ 0 := fun e => hz (bl_zero.1 e)
      rw [beq_eq_false_iff_ne]; omega
    have c61 : ∀ W, Below w.heap.size w W → Calls Tryd.prog 70 #[vr, vr] W fun e w' => ∃ r, e = .returned r ∧ (∀ W', Below w'.heap.size w' W' → Calls Tryd.prog 37 #[r, vd] W' fun e w'' => e = .returned (.int .i64 (sgn ((R + R : Nat) : Int) (D : Int))) ∧ Below W'.heap.size W' w'') ∧ Below W.heap.size W w' := fun W hb =>
      (nadd_v (by omega) (by omega) (h.next hb) (h.next hb)).mono fun e w' ⟨r, h1, h2, h3⟩ => ⟨r, h1, fun W' hb' => ncmp_v (by omega) (by omega) (h2.nt.next hb') (h'.next (bnx (bnx hb h3) hb')), h3⟩
    by_cases h0 : d = 0
    · subst h0
      rw [if_pos rfl]
      rcases sgn_ways ((R + R : Nat) : Int) (D : Int) with ⟨a, e⟩ | ⟨a, e⟩ | ⟨a, e⟩
      · rw [e] at c61
        rw [decide_eq_false (show ¬ D < R + R by omega), decide_eq_false (show ¬ R + R = D by omega)]
        exact far_0l s odd R vr vd w c26 (-1) hR c61 (by decide) (by decide)
      · rw [e] at c61
        rw [decide_eq_false (show ¬ D < R + R by omega), decide_eq_true (show R + R = D by omega), Bool.false_or, Bool.true_and]
        exact far_0e s odd R vr vd w c26 0 hR c61 rfl
      · rw [e] at c61
        rw [decide_eq_true (show D < R + R by omega), Bool.true_or]
        exact far_0g s odd R vr vd w c26 1 hR c61 (by decide)
    · rw [if_neg h0]
      by_cases h1 : d = 1
      · subst h1
        rw [if_pos rfl]
        rcases sgn_ways ((R + R : Nat) : Int) (D : Int) with ⟨a, e⟩ | ⟨a, e⟩ | ⟨a, e⟩
        · rw [e] at c61
          rw [decide_eq_false (show ¬ D ≤ R + R by omega)]
          exact far_1l s odd R vr vd w c26 (-1) hR c61 (by decide)
        · rw [e] at c61
          rw [decide_eq_true (show D ≤ R + R by omega)]
          exact far_1g s odd R vr vd w c26 0 hR c61 (by decide)
        · rw [e] at c61
          rw [decide_eq_true (show D ≤ R + R by omega)]
          exact far_1g s odd R vr vd w c26 1 hR c61 (by decide)
      · rw [if_neg h1]
        exact far_d d s odd R vr vd w c26 _ hR c61 (by simpa using h0) (by simpa using h1)
theorem raised_any (x s : Bool) (w : World) : Calls Tryd.prog 60 #[.bool x, .bool s] w fun e w' => e = .returned (.int .i64 (if x then 0 else if s then 12 else 8)) ∧ w = w' := by
  cases x <;> cases s
  all_goals (
    go_enter Tryd.func60, Tryd.ntmps60
    go_wp2
    go_ret
    exact ⟨rfl, rfl⟩)
end
section
/-- the words of a number -/
def W4 (A : Nat) (i : Nat) : Int := ((A / 2 ^ (64 * i) % 18446744073709551616 : Nat) : Int)
/-- a number of four words -/
abbrev A4 (A : Nat) : Value := .agg #[.int .u64 (W4 A 0), .int .u64 (W4 A 1), .int .u64 (W4 A 2), .int .u64 (W4 A 3)]
theorem W4_words (A : Nat) : Words (W4 A) := fun i => by
  unfold W4
  have := Nat.mod_lt (A / 2 ^ (64 * i)) (show 0 < 18446744073709551616 by decide)
  omega
theorem p64n (n : Nat) : (18446744073709551616 : Int) ^ n = ((2 ^ (64 * n) : Nat) : Int) := by
  rw [Nat.pow_mul]
  simp
theorem W4_val (A : Nat) : ∀ n, val (W4 A) n = ((A % 2 ^ (64 * n) : Nat) : Int)
  | 0 => by simp [val, Nat.mod_one]
  | n + 1 => by
    show val (W4 A) n + W4 A n * 18446744073709551616 ^ n = _
    have e : A % 2 ^ (64 * (n + 1)) = A % 2 ^ (64 * n) + 2 ^ (64 * n) * (A / 2 ^ (64 * n) % 18446744073709551616) := by
      rw [show 64 * (n + 1) = 64 * n + 64 by omega, Nat.pow_add]
      exact Nat.mod_mul
    rw [W4_val A n, p64n, e]
    unfold W4
    rw [Int.natCast_add, Int.natCast_mul, Int.mul_comm]
theorem W4_val4 {A : Nat} (h : A < 2 ^ 256) : val (W4 A) 4 = A := by
  rw [W4_val, Nat.mod_eq_of_lt h]
theorem arr_eq {x y : Nat → Int} (hx : Words x) (hy : Words y) (h : val x 4 = val y 4) : arrOf x 4 = arrOf y 4 :=
  arrOf_congr (val_inj hx hy 4 h)
theorem arr_A4 {x : Nat → Int} (hx : Words x) {A : Nat} (h : val x 4 = ((A % 2 ^ 256 : Nat) : Int)) : Value.agg (arrOf x 4) = A4 A := by
  have e : arrOf x 4 = arrOf (W4 A) 4 := arr_eq hx (W4_words A) (by rw [h, W4_val])
  rw [e]; rfl
theorem A4_mod (A : Nat) : A4 (A % 2 ^ 256) = A4 A := by
  have := arr_A4 (W4_words (A % 2 ^ 256)) (A := A) (by rw [W4_val, Nat.mod_mod])
  exact this
theorem A4_inj {A B : Nat} (hA : A < 2 ^ 256) (hB : B < 2 ^ 256) (h : ∀ i, i < 4 → W4 A i = W4 B i) : A = B := by
  have := val_congr (x := W4 A) (y := W4 B) 4 h
  rw [W4_val4 hA, W4_val4 hB] at this
  omega
/-- every pattern is a number's words -/
theorem words_A4 {x : Nat → Int} (hx : Words x) : ∃ A, A < 2 ^ 256 ∧ Value.agg (arrOf x 4) = A4 A ∧ val x 4 = A := by
  have hb := val_bd hx 4
  have e : (18446744073709551616 : Int) ^ 4 = ((2 ^ 256 : Nat) : Int) := by decide
  rw [e] at hb
  obtain ⟨A, hA⟩ := Int.eq_ofNat_of_zero_le hb.1
  have hlt : A < 2 ^ 256 := by rw [hA] at hb; exact Int.ofNat_lt.1 hb.2
  exact ⟨A, hlt, arr_A4 hx (by rw [Nat.mod_eq_of_lt hlt]; exact hA), hA⟩

theorem add4 (A B : Nat) (w : World) (hA : A < 2 ^ 256) (hB : B < 2 ^ 256) :
    Calls Tryd.prog 30 #[A4 A, A4 B] w fun e w' => e = .returned (.tuple #[A4 (A + B), .int .u64 (((A + B) / 2 ^ 256 : Nat) : Int)]) ∧ Below w.heap.size w w' := by
  refine (limAdd4 (W4 A) (W4 B) w (W4_words A) (W4_words B)).mono ?_
  rintro e w' ⟨rfl, hb⟩
  refine ⟨?_, hb⟩
  have hs := sum_val (x := W4 A) (y := W4 B) 4
  have hc := carryW_01 (W4_words A) (W4_words B) 4
  have hv := val_bd (sumW_words (W4 A) (W4 B)) 4
  rw [W4_val4 hA, W4_val4 hB] at hs
  have e4 : (18446744073709551616 : Int) ^ 4 = 115792089237316195423570985008687907853269984665640564039457584007913129639936 := by decide
  have e4n : (2 : Nat) ^ 256 = 115792089237316195423570985008687907853269984665640564039457584007913129639936 := by decide
  rw [e4] at hs hv
  rw [e4n] at hA hB ⊢
  rw [arr_A4 (sumW_words _ _) (A := A + B) (by rw [e4n]; omega)]
  have : carryW (W4 A) (W4 B) 4 = (((A + B) / 115792089237316195423570985008687907853269984665640564039457584007913129639936 : Nat) : Int) := by omega
  rw [this]
theorem sub4 (A B : Nat) (w : World) (hA : A < 2 ^ 256) (hB : B < 2 ^ 256) :
    Calls Tryd.prog 44 #[A4 A, A4 B] w fun e w' => e = .returned (.tuple #[A4 (A + 2 ^ 256 - B), .int .u64 (if A < B then 1 else 0)]) ∧ Below w.heap.size w w' := by
  refine (limSub4 (W4 A) (W4 B) w (W4_words A) (W4_words B)).mono ?_
  rintro e w' ⟨rfl, hb⟩
  refine ⟨?_, hb⟩
  have hs := dif_val (x := W4 A) (y := W4 B) (W4_words A) (W4_words B) 4
  have hc := borW_01 (W4 A) (W4 B) 4
  have hv := val_bd (difW_words (W4 A) (W4 B)) 4
  rw [W4_val4 hA, W4_val4 hB] at hs
  have e4 : (18446744073709551616 : Int) ^ 4 = 115792089237316195423570985008687907853269984665640564039457584007913129639936 := by decide
  have e4n : (2 : Nat) ^ 256 = 115792089237316195423570985008687907853269984665640564039457584007913129639936 := by decide
  rw [e4] at hs hv
  rw [e4n] at hA hB ⊢
  rw [arr_A4 (difW_words _ _) (A := A + 115792089237316195423570985008687907853269984665640564039457584007913129639936 - B) (by rw [e4n]; omega)]
  have : borW (W4 A) (W4 B) 4 = if A < B then 1 else 0 := by split <;> omega
  rw [this]
theorem A4_sub {A B : Nat} (h : B ≤ A) : A4 (A + 2 ^ 256 - B) = A4 (A - B) := by
  rw [← A4_mod (A - B), ← A4_mod (A + 2 ^ 256 - B), show A + 2 ^ 256 - B = A - B + 2 ^ 256 by omega, Nat.add_mod_right]

theorem shl4 (A n : Nat) (w : World) (hA : A < 2 ^ 256) (hn : n ≤ 100000) :
    Calls Tryd.prog 45 #[A4 A, .int .i64 n] w fun e w' => e = .returned (A4 (A * 2 ^ n)) ∧ Below w.heap.size w w' := by
  refine (shlA4 (W4 A) n w (W4_words A) (by omega)).mono ?_
  rintro e w' ⟨rfl, hb⟩
  refine ⟨?_, hb⟩
  congr 1
  by_cases h1 : n = 0
  · subst h1
    have e : shlA (W4 A) ((0 : Nat) : Int) = W4 A := by funext j; unfold shlA; rw [if_pos (by omega)]
    rw [e, Nat.pow_zero, Nat.mul_one]; rfl
  refine arr_A4 (shlA_words (W4_words A) _) ?_
  have hlow := shlL_fin (W4_words A) (N := 4) (((n : Int) / 64).toNat) (((n : Int) % 64).toNat)
  have es : shlA (W4 A) (n : Int) = shlL (W4 A) ((n : Int) / 64).toNat ((n : Int) % 64).toNat := by funext j; unfold shlA; rw [if_neg (by omega)]
  rw [es]
  obtain ⟨q, hq⟩ : ∃ q : Nat, ((n : Int) / 64).toNat = q := ⟨_, rfl⟩
  obtain ⟨r, hr⟩ : ∃ r : Nat, ((n : Int) % 64).toNat = r := ⟨_, rfl⟩
  rw [hq, hr] at hlow ⊢
  have hn : n = 64 * q + r := by omega
  have hr6 : r < 64 := by omega
  have h4 : val (shlL (W4 A) q r) 4 = val (finL (lowW (W4 A) 4) q r) 4 := by
    refine val_congr 4 fun i hi => ?_
    have := congrFun hlow i
    rw [lowW_lt hi, lowW_lt hi] at this
    exact this
  have hlw : Words (lowW (W4 A) 4) := lowW_words (W4_words A) 4
  have hz : ∀ i, 4 ≤ i → lowW (W4 A) 4 i = 0 := fun i hi => lowW_ge hi
  have hF := finL_val hlw hz q hr6
  have hvl : val (lowW (W4 A) 4) 4 = A := by
    rw [val_congr (x := lowW (W4 A) 4) (y := W4 A) 4 (fun i hi => lowW_lt hi), W4_val4 hA]
  rw [hvl, ← hn] at hF
  have hsp := val_split (finL (lowW (W4 A) 4) q r) 4 (q + 1)
  rw [show 4 + (q + 1) = 4 + q + 1 by omega, hF] at hsp
  have hbd := val_bd (finL_words hlw (q := q) (r := r)) 4
  have e4 : (18446744073709551616 : Int) ^ 4 = ((2 ^ 256 : Nat) : Int) := by decide
  rw [e4] at hbd hsp
  rw [h4]
  have : (A : Int) * 2 ^ n = ((A * 2 ^ n : Nat) : Int) := by simp
  rw [this] at hsp
  have h5 := congrArg (· % ((2 ^ 256 : Nat) : Int)) hsp
  simp only [Int.add_mul_emod_self_right, Int.emod_eq_of_lt hbd.1 hbd.2] at h5
  rw [← h5]
  rfl
theorem shr4 (A n : Nat) (w : World) (hA : A < 2 ^ 256) (hn : n ≤ 100000) :
    Calls Tryd.prog 43 #[A4 A, .int .i64 n] w fun e w' => e = .returned (A4 (A / 2 ^ n)) ∧ Below w.heap.size w w' := by
  refine (shrA4 (W4 A) n w (W4_words A) (by omega)).mono ?_
  rintro e w' ⟨rfl, hb⟩
  refine ⟨?_, hb⟩
  congr 1
  by_cases h1 : n = 0
  · subst h1
    have e : shrA (W4 A) ((0 : Nat) : Int) 4 = W4 A := by funext j; unfold shrA; rw [if_pos (by omega)]
    rw [e, Nat.pow_zero, Nat.div_one]; rfl
  refine arr_A4 (shrA_words (W4_words A) _ _) ?_
  have hlow := shrL_fin (W4_words A) (N := 4) (((n : Int) / 64).toNat) (((n : Int) % 64).toNat)
  have es : shrA (W4 A) (n : Int) 4 = shrL (W4 A) ((n : Int) / 64).toNat ((n : Int) % 64).toNat 4 := by funext j; unfold shrA; rw [if_neg (by omega)]
  rw [es]
  obtain ⟨q, hq⟩ : ∃ q : Nat, ((n : Int) / 64).toNat = q := ⟨_, rfl⟩
  obtain ⟨r, hr⟩ : ∃ r : Nat, ((n : Int) % 64).toNat = r := ⟨_, rfl⟩
  rw [hq, hr] at hlow ⊢
  have hn : n = 64 * q + r := by omega
  have hr6 : r < 64 := by omega
  have h4 : val (shrL (W4 A) q r 4) 4 = val (shrW (lowW (W4 A) 4) q r) 4 := by
    refine val_congr 4 fun i hi => ?_
    have := congrFun hlow i
    rw [lowW_lt hi] at this
    exact this
  rw [h4]
  exact (shrW_val (lowW_words (W4_words A) 4) (fun i hi => lowW_ge hi) hr6 4 (Nat.le_refl _) (by
    rw [val_congr (x := lowW (W4 A) 4) (y := W4 A) 4 (fun i hi => lowW_lt hi), W4_val4 hA])).trans (by rw [← hn, Nat.mod_eq_of_lt (Nat.lt_of_le_of_lt (Nat.div_le_self _ _) hA)])
theorem len4_le {A k : Nat} (hA : A < 2 ^ 256) : lenL (W4 A) 4 ≤ (k : Int) ↔ A < 2 ^ k := by
  have hv := W4_val4 hA
  by_cases h0 : 0 < sizeL (W4 A) 4
  · obtain ⟨L, h1, h2, h3⟩ := len_bd (W4_words A) h0
    rw [hv] at h2 h3
    rw [h1]
    have h2' : 2 ^ L ≤ A := by have : ((2 ^ L : Nat) : Int) ≤ A := by simpa using h2
                               omega
    have h3' : A < 2 ^ (L + 1) := by have : (A : Int) < ((2 ^ (L + 1) : Nat) : Int) := by simpa using h3
                                     omega
    constructor
    · intro h
      exact Nat.lt_of_lt_of_le h3' (Nat.pow_le_pow_right (by decide) (by omega))
    · intro h
      have : 2 ^ L < 2 ^ k := Nat.lt_of_le_of_lt h2' h
      have := (Nat.pow_lt_pow_iff_right (a := 2) (by decide)).1 this
      omega
  · have hz : sizeL (W4 A) 4 = 0 := by omega
    have hl : lenL (W4 A) 4 = 0 := by unfold lenL; rw [if_pos hz]
    have hA0 : (A : Int) = 0 := by
      rw [← hv, ← val_bare 4, hz]; rfl
    rw [hl]
    have : A = 0 := by omega
    subst this
    exact ⟨fun _ => Nat.two_pow_pos k, fun _ => by omega⟩
theorem len4_zero {A : Nat} (hA : A < 2 ^ 256) : lenL (W4 A) 4 = 0 ↔ A = 0 := by
  have h := len4_le (k := 0) hA
  have h2 : 0 ≤ lenL (W4 A) 4 := by
    by_cases h0 : 0 < sizeL (W4 A) 4
    · obtain ⟨L, h1, _⟩ := len_bd (W4_words A) h0
      omega
    · unfold lenL; rw [if_pos (by omega)]; exact Int.le_refl _
  constructor
  · intro h3; have := h.1 (by omega); omega
  · intro h3; have := h.2 (by omega); omega
theorem lenL_low (A : Nat) : lenL (lowW (W4 A) 4) 4 = lenL (W4 A) 4 := by
  unfold lenL
  rw [sizeL_congr (x := lowW (W4 A) 4) (y := W4 A) 4 (fun i hi => lowW_lt hi)]
  by_cases h : sizeL (W4 A) 4 = 0
  · rw [if_pos h, if_pos h]
  · have := sizeL_le (W4 A) 4
    rw [if_neg h, if_neg h, lowW_lt (by omega)]
theorem len4' (A : Nat) (w : World) : Calls Tryd.prog 46 #[A4 A] w fun e w' => e = .returned (.int .i64 (lenL (W4 A) 4)) ∧ Below w.heap.size w w' := len4 (W4 A) w (W4_words A)
theorem bit4 (A n : Nat) (w : World) (hA : A < 2 ^ 256) (hn : n < 256) :
    Calls Tryd.prog 42 #[A4 A, .int .i64 n] w fun e w' => e = .returned (.int .u64 ((A / 2 ^ n % 2 : Nat) : Int)) ∧ Below w.heap.size w w' := by
  refine (limBit4 (W4 A) n w (W4_words A) (by omega) (by omega)).mono ?_
  rintro e w' ⟨rfl, hb⟩
  refine ⟨?_, hb⟩
  have hb := W4_words A ((n : Int) / 64).toNat
  have h1 : bitV (W4 A ((n : Int) / 64).toNat) n = ((A / 2 ^ n % 2 : Nat) : Int) := by
    unfold bitV
    have h2 := and_mask (y := W4 A ((n : Int) / 64).toNat / 2 ^ ((n : Int) % 64).toNat) (r := 1) (div_word _ _ hb) (by decide)
    rw [show (1 : Int) = 2 ^ 1 - 1 by decide, h2]
    unfold W4
    obtain ⟨q, hq⟩ : ∃ q : Nat, ((n : Int) / 64).toNat = q := ⟨_, rfl⟩
    obtain ⟨r, hr⟩ : ∃ r : Nat, ((n : Int) % 64).toNat = r := ⟨_, rfl⟩
    rw [hq, hr]
    have hn : n = 64 * q + r := by omega
    have hr6 : r < 64 := by omega
    have e1 : ((2 : Int) ^ r) = ((2 ^ r : Nat) : Int) := by simp
    rw [e1, ← Int.natCast_ediv]
    have e2 : A / 2 ^ n = A / 2 ^ (64 * q) / 2 ^ r := by rw [hn, Nat.pow_add, Nat.div_div_eq_div_mul]
    rw [e2]
    generalize A / 2 ^ (64 * q) = B
    have e3 : B % 18446744073709551616 / 2 ^ r % 2 = B / 2 ^ r % 2 := by
      rw [show (18446744073709551616 : Nat) = 2 ^ r * (2 * 2 ^ (63 - r)) by rw [← Nat.pow_succ', ← Nat.pow_add, show r + (63 - r + 1) = 64 by omega]]
      rw [Nat.mod_mul_right_div_self, Nat.mod_mul_right_mod]
    have e4 : ((2 : Int) ^ 1) = ((2 : Nat) : Int) := by decide
    rw [e4, ← Int.natCast_emod, e3]
  rw [h1]
set_option maxHeartbeats 400000 in
theorem of4 (u : Nat) (w : World) (hu : u < 18446744073709551616) :
    Calls Tryd.prog 49 #[.int .u64 u] w fun e w' => e = .returned (A4 u) ∧ Below w.heap.size w w' := by
  have e0 : W4 u 0 = u := by unfold W4; rw [Nat.mul_zero, Nat.pow_zero, Nat.div_one, Nat.mod_eq_of_lt hu]
  have e1 : ∀ i, 0 < i → W4 u i = 0 := fun i hi => by
    unfold W4
    have : u < 2 ^ (64 * i) := Nat.lt_of_lt_of_le hu (by rw [show (18446744073709551616 : Nat) = 2 ^ 64 by decide]; exact Nat.pow_le_pow_right (by decide) (by omega))
    rw [Nat.div_eq_of_lt this]; rfl
  unfold A4
  rw [e0, e1 1 (by decide), e1 2 (by decide), e1 3 (by decide)]
  go_enter Tryd.func49, Tryd.ntmps49
  go_wp2
  exact bodyPost_ret (v := .agg #[.int .u64 u, .int .u64 0, .int .u64 0, .int .u64 0]) (by simp [results, Tryd.results49, go_sem]) rfl ⟨rfl, ((Below.refl _ _).alloc (Nat.le_refl _) _).alloc (by simp) _⟩
end
end Go.Proofs.YtpemdcnneabbfaaDoor
