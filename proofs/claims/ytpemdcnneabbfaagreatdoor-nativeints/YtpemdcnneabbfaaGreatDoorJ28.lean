/-
  Texts that the proof leans on.
-/
import Derived.Test.YtpemdcnneabbfaaGreatDoorJ25
set_option linter.unusedVariables false
set_option linter.unusedSimpArgs false
set_option linter.unusedSectionVars false
set_option maxRecDepth 20000
namespace Go.Proofs.YtpemdcnneabbfaaGreatDoor
open Go.RowKit
section
theorem val_pos {z : Nat → Int} (hz : Words z) : ∀ m, 0 < m → sizeL z m = m → 0 < val z m
  | 0, h, _ => by omega
  | m + 1, _, h => by
    have hne : z m ≠ 0 := by
      intro e
      have : sizeL z (m + 1) = sizeL z m := by simp [sizeL, e]
      have := sizeL_le z m
      omega
    have h1 := (val_bd hz m).1
    have h2 := hz m
    have h3 := pw_pos m
    show 0 < val z m + z m * 18446744073709551616 ^ m
    have : 0 < z m * 18446744073709551616 ^ m := Int.mul_pos (by omega) h3
    omega

theorem val_split (z : Nat → Int) (j : Nat) : ∀ m, val z (j + m) = val z j + val (segW z j m) m * 18446744073709551616 ^ j
  | 0 => by simp [val]
  | m + 1 => by
    rw [seg_next]
    show val z (j + m) + z (j + m) * 18446744073709551616 ^ (j + m) = _
    rw [val_split z j m, Int.pow_add]; grind
/-- the highest word, shifted up until its highest bit is set -/
theorem norm_top {y : Int} (h0 : 0 < y) (h : y ≤ 18446744073709551615) : ∃ r : Nat, r < 64 ∧ (64 - (Lib.bitLen y.toNat : Int)) = r ∧ 9223372036854775808 ≤ y * 2 ^ r ∧ y * 2 ^ r ≤ 18446744073709551615 := by
  obtain ⟨n, rfl⟩ := Int.eq_ofNat_of_zero_le (Int.le_of_lt h0)
  have h1 := bitLen_spec n (by omega) (by omega)
  have h2 := norm_bd n (by omega) (by omega)
  rw [Int.toNat_natCast]
  refine ⟨64 - Lib.bitLen n, by omega, by omega, ?_, ?_⟩
  · rw [← powCast, ← Int.natCast_mul]; omega
  · rw [← powCast, ← Int.natCast_mul]; omega
theorem shW_top {y : Nat → Int} (hy : Words y) {r t : Nat} (ht : 0 < t) (h1 : 9223372036854775808 ≤ y (t - 1) * 2 ^ r) (h2 : y (t - 1) * 2 ^ r ≤ 18446744073709551615) : 9223372036854775808 ≤ shW y r (t - 1) ∧ val (shW y r) t = val y t * 2 ^ r := by
  refine ⟨?_, ?_⟩
  · unfold shW
    have := (prevW_bd hy r (t - 1)).1
    rw [Int.emod_eq_of_lt (by omega) (by omega)]; omega
  · have e := sh_val y r t
    have e1 : prevW y r t = 0 := by
      unfold prevW hiW; rw [if_neg (by omega)]; exact Int.ediv_eq_zero_of_lt (by omega) (by omega)
    rw [e1] at e; omega
/-- a round of the long division -/
theorem long_round {U VQ D Vj R q rho Vn B : Int} (h : VQ * D + Vn = U) (hs : Vn = Vj + R * B) (hq : D * q + rho = R) : (VQ + q * B) * D + (Vj + rho * B) = U := by grind
theorem long_end {X Y S VQ Vz Vr m : Int} (hS : 0 < S) (hY : 0 < Y) (h : VQ * (Y * S) + Vz = X * S) (hlt : Vz < Y * S) (hz : 0 ≤ Vz) (hr : Vr * S + m = Vz) (hm : 0 ≤ m) (hmS : m < S) : VQ = X / Y ∧ Vr = X % Y := by
  have e : (X - VQ * Y - Vr) * S = m := by grind
  have hk : X - VQ * Y - Vr = 0 := by
    rcases Int.lt_trichotomy (X - VQ * Y - Vr) 0 with hl | he | hg
    · have : (X - VQ * Y - Vr) * S ≤ (-1) * S := Int.mul_le_mul_of_nonneg_right (by omega) (by omega)
      omega
    · exact he
    · have : 1 * S ≤ (X - VQ * Y - Vr) * S := Int.mul_le_mul_of_nonneg_right (by omega) (by omega)
      omega
  rw [hk, Int.zero_mul] at e
  have h1 : 0 ≤ Vr := by
    rcases Int.lt_or_le Vr 0 with hl | hge
    · have : Vr * S ≤ (-1) * S := Int.mul_le_mul_of_nonneg_right (by omega) (by omega)
      omega
    · exact hge
  have h2 : Vr < Y := by
    rcases Int.lt_or_le Vr Y with hl | hge
    · exact hl
    · have : Y * S ≤ Vr * S := Int.mul_le_mul_of_nonneg_right hge (by omega)
      omega
  have := (Int.ediv_emod_unique hY (a := X) (r := Vr) (q := VQ)).2 ⟨by rw [Int.mul_comm]; omega, h1, h2⟩
  exact ⟨this.1.symm, this.2.symm⟩
theorem upZ_all (y : Nat → Int) (r k i : Nat) (hi : i < k) : upZ (fun _ => 0) y r 0 k i = shW y r i := by unfold upZ; rw [if_pos (by omega)]; rfl

set_option maxRecDepth 20000 in
set_option maxHeartbeats 4000000 in
theorem divideLong_any (a a' : Option Addr) (s c t c' : Nat) (x y : Nat → Int) (w : World) (hs : s ≤ 2000) (ht : 2 ≤ t) (hts : t ≤ s) (h : Num w a s c x) (h' : Num w a' t c' y) (hy0 : sizeL y t = t) :
    Calls Tryz.prog 133 #[.slice a s c, .slice a' t c'] w fun e w' => ∃ gq gr q z, e = .returned (.tuple #[.slice (some ⟨gq, 0, none⟩) (s - t + 1) (s - t + 1), .slice (some ⟨gr, 0, none⟩) t t]) ∧ Own gq (s - t + 1) q w' ∧ Words q ∧ val q (s - t + 1) = val x s / val y t ∧ Own gr t z w' ∧ Words z ∧ val z t = val x s % val y t ∧ Below w.heap.size w w' := by
  have hx := h.2.2.1
  have hy := h'.2.2.1
  have hyne : y (t - 1) ≠ 0 := by have := sizeL_top (x := y) t (by omega); rw [hy0] at this; exact this
  have hyb := hy (t - 1)
  obtain ⟨r, hr64, hr, hn1, hn2⟩ := norm_top (y := y (t - 1)) (by omega) hyb.2
  have htop := shW_top hy (t := t) (by omega) hn1 hn2
  have hlz := fun w => (Tryz.bits_LeadingZeros64 (y (t - 1)) w hyb.1 hyb.2).mono (fun e w' hw => (⟨hw.1, hw.2.symm⟩ : _ ∧ w = w'))
  rw [hr] at hlz
  obtain ⟨b', off', rfl, hb', hc'⟩ := h'.cells (by omega)
  have hct := hc' (t - 1) (by omega)
  have et1 : ((t : Int) - 1).toNat = t - 1 := by omega
  have hti : (2 : Int) ≤ t := by omega
  have hm1 := fun w => make_any ((t : Int) + 1) (t + 1) (by omega) (by omega) w
  have hm2 := fun w => make_any ((s : Int) + 1) (s + 1) (by omega) (by omega) w
  have hm3 := fun w => make_any ((s : Int) - t + 1) (s - t + 1) (by omega) (by omega) w
  have hm4 := fun w => make_any (t : Int) t rfl (by omega) w
  have hB1 := below1 w (.cells (arrOf (fun _ => 0) (t + 1)) 23)
  have u1 := shiftUp_any w.heap.size (t + 1) 0 (t + 1) (t + 1) t c' r _ (fun _ => 0) y _ (by omega) (by omega) (by omega) hr64 (Own.new w (fun _ => 0) (t + 1)) (h'.next hB1) (apart_of h')
  go_enter Tryz.func133, Tryz.ntmps133
  go_wp2_with (first | (go_at_call 77; refine (hlz _).mono ?_; rintro e w' ⟨rfl, rfl⟩) | (go_at_call 131; refine u1.mono ?_; rintro e w1 ⟨rfl, hV1, hU1⟩; clear u1))
  have hBw1 : Below w.heap.size w w1 := hB1.trans (hU1.below (Nat.le_refl _))
  have HG1 : Hid (w1.heap.size = w.heap.size + 1) := by show _ = _; rw [hU1.size]; simp
  have hn1w := h.next hBw1
  have hB2 := below1 w1 (.cells (arrOf (fun _ => 0) (s + 1)) 23)
  have u2 := shiftUp_any w1.heap.size (s + 1) 0 (s + 1) (s + 1) s c r a (fun _ => 0) x _ (by omega) (by omega) (by omega) hr64 (Own.new w1 (fun _ => 0) (s + 1)) (hn1w.next hB2) (apart_of hn1w)
  go_wp2_with (go_at_call 131; refine u2.mono ?_; rintro e w2 ⟨rfl, hL2, hU2⟩; clear u2)
  have hg2 : w2.heap.size = w1.heap.size + 1 := by rw [hU2.size]; simp
  have hg1 : w1.heap.size = w.heap.size + 1 := HG1.out
  clear HG1
  have hB3 := below1 w2 (.cells (arrOf (fun _ => 0) (s - t + 1)) 23)
  have hBw2 : Below w.heap.size w w2 := (hBw1.trans (hB2.mono hBw1.size)).trans (hU2.below (by omega))
  have hBwC := hBw2.trans (hB3.mono hBw2.size)
  have hV3 : Own w.heap.size (t + 1) (upZ (fun _ => 0) y r 0 (t + 1)) (w2.alloc (.cells (arrOf (fun _ => 0) (s - t + 1)) 23)) := Below.own hB3 (by omega) (hU2.own (by omega) (Below.own hB2 (by omega) hV1))
  have hL3 := Below.own hB3 (by omega) hL2
  have hQ3 := Own.new w2 (fun _ => 0) (s - t + 1)
  have e1 : ∀ i, i < t + 1 → upZ (fun _ => 0) y r 0 (t + 1) i = shW y r i := fun i hi => upZ_all y r _ i hi
  have e2 : ∀ i, i < s + 1 → upZ (fun _ => 0) x r 0 (s + 1) i = shW x r i := fun i hi => upZ_all x r _ i hi
  replace hV3 := hV3.congr e1
  replace hL3 := hL3.congr e2
  have hUv : val (shW x r) (s + 1) = val x s * 2 ^ r := sh_end h.2.2.2.1 r (s + 1) (by omega)
  have HWX := shW_words hx hr64
  have HWY := shW_words hy hr64
  have hD0 : 0 < val y t := val_pos hy t (by omega) hy0
  have hS := p2_pos r
  have hDpos : 0 < val y t * 2 ^ r := Int.mul_pos hD0 hS
  have hxb := val_bd hx s
  have hUlt : val x s * 2 ^ r < val y t * 2 ^ r * 18446744073709551616 ^ (s - t + 1) := by
    have hY1 : 9223372036854775808 * 18446744073709551616 ^ (t - 1) ≤ val y t * 2 ^ r := by
      rw [← htop.2]
      have e5 : val (shW y r) t = val (shW y r) (t - 1) + shW y r (t - 1) * 18446744073709551616 ^ (t - 1) := by
        conv => lhs; rw [show t = t - 1 + 1 by omega]
        rfl
      have h6 := (val_bd HWY (t - 1)).1
      have h7 : 9223372036854775808 * 18446744073709551616 ^ (t - 1) ≤ shW y r (t - 1) * 18446744073709551616 ^ (t - 1) := Int.mul_le_mul_of_nonneg_right htop.1 (Int.le_of_lt (pw_pos _))
      omega
    have h8 : val x s * 2 ^ r < 18446744073709551616 ^ s * 2 ^ r := Int.mul_lt_mul_of_pos_right hxb.2 hS
    have h9 : (18446744073709551616 : Int) ^ s * 2 ^ r ≤ 18446744073709551616 ^ s * 9223372036854775808 := Int.mul_le_mul_of_nonneg_left (p2_le hr64) (Int.le_of_lt (pw_pos _))
    have h10 : 9223372036854775808 * 18446744073709551616 ^ (t - 1) * 18446744073709551616 ^ (s - t + 1) ≤ val y t * 2 ^ r * 18446744073709551616 ^ (s - t + 1) := Int.mul_le_mul_of_nonneg_right hY1 (Int.le_of_lt (pw_pos _))
    have h11 : (18446744073709551616 : Int) ^ (t - 1) * 18446744073709551616 ^ (s - t + 1) = 18446744073709551616 ^ s := by rw [← Int.pow_add]; congr 1; omega
    rw [Int.mul_assoc, h11, Int.mul_comm] at h10
    omega
  generalize hgV : w.heap.size = gV at *
  generalize hgL : w1.heap.size = gL at *
  generalize hgQ : w2.heap.size = gQ at *
  generalize hwC : w2.alloc (.cells (arrOf (fun _ => 0) (s - t + 1)) 23) = wC at *
  obtain ⟨D, hDe⟩ : ∃ D, val y t * 2 ^ r = D := ⟨_, rfl⟩
  obtain ⟨U, hUe⟩ : ∃ U, val x s * 2 ^ r = U := ⟨_, rfl⟩
  rw [hDe] at htop hDpos hUlt
  rw [hUe] at hUv hUlt
  have hVL : gV < gL := by omega
  have hLQ : gL < gQ := by omega
  have HGV : Hid (w.heap.size = gV) := hgV
  clear hg1 hg2 hgV
  have HE : Hid (val y t * 2 ^ r = D ∧ val x s * 2 ^ r = U ∧ 0 < val y t ∧ (0 : Int) < 2 ^ r) := ⟨hDe, hUe, hD0, hS⟩
  clear hV1 hL2 hU1 hU2 hB1 hB2 hB3 hBw1 hBw2 hn1w e1 e2 hlz hct hc' h h' hm1 hm2 hm3 hDe hUe hD0 hS hxb hn1 hn2 hr hyb hyne hwC hgQ hgL w1 w2
  have hYN : ∀ wr, Own gV (t + 1) (shW y r) wr → Num wr (some ⟨gV, 0, none⟩) t (t + 1) (segW (shW y r) 0 t) := fun wr hO => hO.num HWY 0 t (t + 1) (by omega) (by omega) (by unfold maxLen; omega)
  have hYv : val (segW (shW y r) 0 t) t = D := by
    rw [val_congr (y := shW y r) t fun i hi => by rw [segW_lt _ _ _ i hi, Nat.zero_add]]; exact htop.2
  have hYt : 9223372036854775808 ≤ segW (shW y r) 0 t (t - 1) := by rw [segW_lt _ _ _ (t - 1) (by omega), Nat.zero_add]; exact htop.1
  have HYN : Hid (∀ wr, Own gV (t + 1) (shW y r) wr → Num wr (some ⟨gV, 0, none⟩) t (t + 1) (segW (shW y r) 0 t)) := hYN
  have HYT : Hid (val (segW (shW y r) 0 t) t = D ∧ 9223372036854775808 ≤ segW (shW y r) 0 t (t - 1)) := ⟨hYv, hYt⟩
  have hAp : Apart (some ⟨gV, 0, none⟩) gL := by intro p hp; cases hp; show gV ≠ gL; omega
  have HAP : Hid (Apart (some ⟨gV, 0, none⟩) gL) := hAp
  clear hYN hYv hYt hAp htop hy hx
  generalize segW (shW y r) 0 t = Y at *
  go_loopw [10] (fun iv wr => ∃ (k : Nat) (z q : Nat → Int), k ≤ s - t + 1 ∧ iv = .int .i64 ((k : Int) - 1) ∧ Own gV (t + 1) (shW y r) wr ∧ Own gL (s + 1) z wr ∧ Words z ∧ Own gQ (s - t + 1) q wr ∧ Words q ∧ (∀ i, i < k → q i = 0) ∧ Hid (val q (s - t + 1) * D + val z (k + t) = U) ∧ Hid (val z (k + t) < D * 18446744073709551616 ^ k) ∧ Below gV w wr) (fun iv _ => (intOf iv + 1).toNat)
  case atStart => exact ⟨s - t + 1, shW x r, fun _ => 0, Nat.le_refl _, by go_num, hV3, hL3, HWX, hQ3, fun _ => (by decide : (0 : Int) ≤ 0 ∧ (0 : Int) ≤ 18446744073709551615), fun _ _ => rfl, by show _ = _; rw [val_zero, Int.zero_mul, Int.zero_add, show s - t + 1 + t = s + 1 by omega, hUv], by show _ < _; rw [show s - t + 1 + t = s + 1 by omega, hUv]; exact hUlt, hBwC⟩
  case round =>
    clear hV3 hL3 hQ3 hBwC hUv hUlt HWX
    obtain ⟨k, z, q, hk, rfl, hV, hL, hzw, hQ, hqw, hq0, hvU, hlt, hB⟩ := hrel
    by_cases h0 : k = 0
    · subst h0
      have hZN := hL.num hzw 0 t (s + 1) (by omega) (by omega) (by unfold maxLen; omega)
      have hB5 := below1 wr (.cells (arrOf (fun _ => 0) t) 23)
      have u3 := shiftDown_any wr.heap.size t t t (s + 1) r (some ⟨gL, 0, none⟩) (fun _ => 0) (segW z 0 t) _ (Nat.le_refl _) (by omega) hr64 (Own.new wr (fun _ => 0) t) (hZN.next hB5) (apart_of hZN)
      have HFIN : Hid (val q (s - t + 1) = val x s / val y t ∧ val (shrW (segW z 0 t) 0 r) t = val x s % val y t) := by
        have hdn := dn_val (segW_words hzw 0 t) hr64 t
        have e1 : val (segW z 0 t) t = val z (0 + t) := by
          rw [Nat.zero_add]; exact val_congr t fun i hi => by rw [segW_lt _ _ _ i hi, Nat.zero_add]
        rw [segW_zero z 0 t t (Nat.le_refl _), Int.zero_emod, Int.zero_mul, Int.add_zero, e1] at hdn
        have hE := HE.out
        have h1 := hvU.out
        have h2 := hlt.out
        rw [← hE.1, ← hE.2.1] at h1
        rw [Int.pow_zero, Int.mul_one, ← hE.1] at h2
        exact long_end hE.2.2.2 hE.2.2.1 h1 h2 (val_bd hzw (0 + t)).1 hdn (Int.emod_nonneg _ (by have := hE.2.2.2; omega)) (Int.emod_lt_of_pos _ hE.2.2.2)
      have HRW : Hid (Words (shrW (segW z 0 t) 0 r)) := shrW_words (segW_words hzw 0 t) 0 r
      have HQx : Hid (Own gQ (s - t + 1) q (wr.alloc (.cells (arrOf (fun _ => 0) t) 23))) := Below.own hB5 hQ.lt hQ
      have hQlt := hQ.lt
      have HQW : Hid (Words q) := hqw
      have HB6 : Hid (Below gV w (wr.alloc (.cells (arrOf (fun _ => 0) t) 23))) := hB.trans (hB5.mono (by have := hB.size; have := HGV.out; omega))
      have HLE : Hid (gV ≤ wr.heap.size) := by have h1 := hB.size; have h2 := HGV.out; show _ ≤ _; omega
      clear hZN hB5 hV hL hzw hQ hqw hq0 hvU hlt hB HYN HYT HAP
      go_wp2_with (go_at_call 106; refine u3.mono ?_; rintro e w5 ⟨rfl, hR5, hU5⟩; clear u3)
      go_ret2
      exact ⟨gQ, wr.heap.size, q, shrW (segW z 0 t) 0 r, rfl, hU5.own (by omega) HQx.out, HQW.out, HFIN.out.1, hR5.congr (fun i hi => by unfold dnZ; rw [if_pos (by omega)]), HRW.out, HFIN.out.2, by rw [HGV.out]; exact HB6.out.trans (hU5.below HLE.out)⟩
    · obtain ⟨j, rfl⟩ : ∃ j, k = j + 1 := ⟨k - 1, by omega⟩
      have ej : ((j + 1 : Nat) : Int) - 1 = j := by omega
      rw [ej]
      have ejt : j + t + 1 - j = t + 1 := by omega
      have hsp := val_split z j (t + 1)
      rw [show j + (t + 1) = j + 1 + t by omega] at hsp
      have hRlt : val (segW z j (t + 1)) (t + 1) < val Y t * 18446744073709551616 := by
        rw [HYT.out.1]
        rcases Int.lt_or_le (val (segW z j (t + 1)) (t + 1)) (D * 18446744073709551616) with h1 | h1
        · exact h1
        · exfalso
          have h2 := hlt.out
          have h3 := (val_bd hzw j).1
          have h4 : D * 18446744073709551616 * 18446744073709551616 ^ j ≤ val (segW z j (t + 1)) (t + 1) * 18446744073709551616 ^ j := Int.mul_le_mul_of_nonneg_right h1 (Int.le_of_lt (pw_pos j))
          rw [hsp, Int.pow_succ] at h2
          have e : D * 18446744073709551616 * 18446744073709551616 ^ j = D * (18446744073709551616 ^ j * 18446744073709551616) := by grind
          omega
      have hst := divideStep_any gL (s + 1) j t (s + 1 - j) (t + 1) (some ⟨gV, 0, none⟩) z Y wr ht (by omega) (by omega) hzw hL (HYN.out wr hV) HAP.out HYT.out.2 hRlt
      rw [HYT.out.1] at hst
      have hR0 := (val_bd (segW_words hzw j (t + 1)) (t + 1)).1
      rw [HYT.out.1] at hRlt
      have HRB : Hid (0 ≤ val (segW z j (t + 1)) (t + 1) ∧ val (segW z j (t + 1)) (t + 1) < D * 18446744073709551616) := ⟨hR0, hRlt⟩
      have HSP : Hid (val z (j + 1 + t) = val z j + val (segW z j (t + 1)) (t + 1) * 18446744073709551616 ^ j) := hsp
      generalize val (segW z j (t + 1)) (t + 1) = R at *
      have HVx : Hid (Own gV (t + 1) (shW y r) wr) := hV
      have HQx : Hid (Own gQ (s - t + 1) q wr) := hQ
      have HZB : Hid (0 ≤ val z j ∧ val z j < 18446744073709551616 ^ j) := val_bd hzw j
      have hjb : j < s - t + 1 := by omega
      have hji : (j : Int) < ((s - t + 1 : Nat) : Int) := by omega
      have hjs : (j : Int) + t + 1 ≤ ((s + 1 : Nat) : Int) := by omega
      have HQ0 : Hid (∀ i, i < j + 1 → q i = 0) := hq0
      have HQW : Hid (Words q) := hqw
      clear hsp hRlt hR0 hV hL hzw hQ hqw hq0 ej HYN HYT HAP
      go_wp2_with (go_at_call 149; refine hst.mono ?_; rintro e w1 ⟨rfl, z1, hO1, hw1, hzx1, hv1, hU1⟩; have hQ1 := hU1.own (by omega) HQx.out; have hcq := hQ1.cell j hjb; have hfq := hQ1.frozen j)
      go_roundw
      case rel =>
        have hD := HRB.out
        have hDp : 0 < D := hDpos
        have hdq : D * (R / D) + R % D = R := Int.mul_ediv_add_emod R D
        have hq1 : 0 ≤ R / D := Int.ediv_nonneg hD.1 (by omega)
        have hq2 : R / D < 18446744073709551616 := Int.ediv_lt_of_lt_mul hDp (by rw [Int.mul_comm]; exact hD.2)
        have hsp1 := val_split z1 j t
        have hzz : val z1 j = val z j := val_congr j fun i hi => hzx1 i hi
        rw [hzz, hv1] at hsp1
        refine ⟨j, z1, fun i => if i = j then R / D else q i, by omega, by go_num, ?_, ?_, hw1, hQ1.set j _, upd_words HQW.out (by omega), ?_, ?_, ?_, ?_⟩
        · exact (((Upd.refl gQ w1).set j _)).own (by omega) (hU1.own (by omega) HVx.out)
        · exact (((Upd.refl gQ w1).set j _)).own (by omega) hO1
        · intro i hi
          exact (if_neg (show ¬ i = j by omega)).trans (HQ0.out i (by omega))
        · show _ = _
          rw [val_set q j (R / D) (s - t + 1) hjb, HQ0.out j (by omega), Int.sub_zero, hsp1]
          exact long_round hvU.out HSP.out hdq
        · show _ < _
          rw [hsp1]
          have h1 := Int.emod_lt_of_pos R hDp
          have h2 := HZB.out
          have h3 : R % D * 18446744073709551616 ^ j ≤ (D - 1) * 18446744073709551616 ^ j := Int.mul_le_mul_of_nonneg_right (by omega) (Int.le_of_lt (pw_pos j))
          rw [Int.sub_mul, Int.one_mul] at h3
          omega
        · exact (hB.trans (hU1.below (by omega))).trans (((Upd.refl gQ w1).set j _).below (by omega))
      case measure => simp [intOf]
end
end Go.Proofs.YtpemdcnneabbfaaGreatDoor
