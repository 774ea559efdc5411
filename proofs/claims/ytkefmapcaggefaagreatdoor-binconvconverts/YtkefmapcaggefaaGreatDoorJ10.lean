/-
  Texts that the proof leans on, joined: Ove, Lvm, Nw, Kn.
-/
import Derived.Test.YtkefmapcaggefaaGreatDoorJ9
import Derived.Test.YtkefmapcaggefaaGreatDoorJ4
import Derived.Test.YtkefmapcaggefaaGreatDoorJ1
set_option linter.unusedVariables false
set_option linter.unusedSimpArgs false
set_option maxRecDepth 20000
set_option linter.unusedSectionVars false
namespace Go.Proofs.YtkefmapcaggefaaGreatDoor
open Go.RowKit

theorem half_any (g k c : Nat) (z : Nat → Int) (w : World) (hk : 0 < k) (hk2 : k < 1000000) (h : Num w (some ⟨g, 0, none⟩) k c z) :
    Calls Tryz.prog 62 #[.slice (some ⟨g, 0, none⟩) k c, .int .i64 1] w fun e w' => ∃ g' k' cap b z', e = .returned (.tuple #[.slice (some ⟨g', 0, none⟩) k' cap, .bool b]) ∧ k' ≤ k ∧ Num w' (some ⟨g', 0, none⟩) k' cap z' ∧ (∀ V, val z k = V * 2 → val z' k' = V) ∧ Below w.heap.size w w' ∧ w.heap.size ≤ g' := by
  refine (frgt_p g 0 k c 0 1 1 z w (by omega) (by omega) (by omega) (by omega) (by decide) (by decide) (by decide) hk h).mono fun e w' ⟨g', k', cap, e1, hk', hN, hB, hf⟩ => ⟨g', k', cap, _, _, e1, hk', hN, fun V hV => ?_, hB, hf⟩
  have hd := dn_val h.2.2.1 (r := 1) (by omega) k
  rw [h.2.2.2.1 k (Nat.le_refl _), hV, ← val_more hN.2.2.2.1 k hk'] at *
  have e2 : (2 : Int) ^ 1 = 2 := rfl
  rw [e2] at hd
  have := Int.emod_nonneg (z 0) (show (2 : Int) ≠ 0 by decide)
  have := Int.emod_lt_of_pos (z 0) (show (0 : Int) < 2 by decide)
  simp at hd
  omega
theorem fleft_val (b off n c : Nat) (d : Int) (x : Nat → Int) (w : World) (hn : n < 1000000) (hd : 0 ≤ d) (hd2 : d ≤ 6300000) (h : Num w (some ⟨b, off, none⟩) n c x) :
    Calls Tryz.prog 64 #[.slice (some ⟨b, off, none⟩) n c, .int .i64 d] w fun e w' => ∃ g k cap z, e = .returned (.slice (some ⟨g, 0, none⟩) k cap) ∧ k ≤ n + d.toNat / 64 + 1 ∧ Num w' (some ⟨g, 0, none⟩) k cap z ∧ val z k = val x n * 2 ^ d.toNat ∧ Below w.heap.size w w' ∧ w.heap.size ≤ g ∧ sizeL z k = k := by
  obtain ⟨q, hq⟩ : ∃ q : Nat, d / 64 = q := ⟨(d / 64).toNat, by omega⟩
  obtain ⟨r, hr⟩ : ∃ r : Nat, d % 64 = r := ⟨(d % 64).toNat, by omega⟩
  have hdn : d.toNat = 64 * q + r := by omega
  have hr64 : r < 64 := by omega
  have hq2 : q < 99000 := by omega
  have hx := h.2.2.1
  have hv := finL_val hx h.2.2.2.1 q hr64
  rw [hdn]
  by_cases hr0 : 0 < r
  · exact (fleft_p b off n c q r d x w (by omega) (by omega) hr64 hr0 hq hr hd h).mono fun e w' ⟨g, k, cap, e1, hk, hN, hB, hf, htr⟩ => ⟨g, k, cap, _, e1, by omega, hN, by rw [← hv, val_more hN.2.2.2.1 _ hk], hB, hf, htr⟩
  · obtain rfl : r = 0 := by omega
    exact (fleft_z b off n c q d x w (by omega) (by omega) hq hr hd h).mono fun e w' ⟨g, k, cap, e1, hk, hN, hB, hf, htr⟩ => ⟨g, k, cap, _, e1, by omega, hN, by rw [← hv, val_more hN.2.2.2.1 _ hk], hB, hf, htr⟩
theorem frless_val (a a' : Option Addr) (n c n' c' : Nat) (x y : Nat → Int) (w : World) (hn : n < 4000000000) (hn' : n' < 4000000000) (h : Num w a n c x) (h' : Num w a' n' c' y) (hv : val y n' ≤ val x n) :
    Calls Tryz.prog 63 #[.slice a n c, .slice a' n' c'] w fun e w' => ∃ g k cap z, e = .returned (.slice (some ⟨g, 0, none⟩) k cap) ∧ k ≤ max n n' ∧ Num w' (some ⟨g, 0, none⟩) k cap z ∧ val z k = val x n - val y n' ∧ Below w.heap.size w w' ∧ w.heap.size ≤ g ∧ sizeL z k = k := by
  refine (frless_any a a' n c n' c' x y w (by omega) (by omega) h h').mono fun e w' ⟨g, k, cap, e1, hk, hN, hB, hf, htr⟩ => ⟨g, k, cap, _, e1, hk, hN, ?_, hB, hf, htr⟩
  have ex := val_more h.2.2.2.1 (max n n') (by omega)
  have ey := val_more h'.2.2.2.1 (max n n') (by omega)
  have e := dif_val h.2.2.1 h'.2.2.1 (max n n')
  rw [borW_end h.2.2.1 h'.2.2.1 (by omega), ex, ey] at e
  rw [← val_more hN.2.2.2.1 _ hk, val_congr (y := difW x y) (max n n') fun i hi => by unfold difZ; rw [if_pos hi]]
  omega
theorem pos_len {z : Nat → Int} {k : Nat} (h : 0 < val z k) : 0 < k := by
  rcases Nat.eq_zero_or_pos k with e | e
  · subst e; simp [val] at h
  · exact e

/-- what Over answers -/
def OvOut (X Y : Int) (w : World) (e : Ending) (w' : World) : Prop :=
  ∃ g k cap z g' k' cap' z', e = .returned (.tuple #[.slice (some ⟨g, 0, none⟩) k cap, .slice (some ⟨g', 0, none⟩) k' cap']) ∧ k ≤ 41000 ∧ k' ≤ 41000 ∧ Num w' (some ⟨g, 0, none⟩) k cap z ∧ Num w' (some ⟨g', 0, none⟩) k' cap' z' ∧ val z k = X / Y ∧ val z' k' = X % Y ∧ Below w.heap.size w w' ∧ sizeL z' k' = k'

set_option maxHeartbeats 4000000 in
theorem over_any (ga gb s c t c' : Nat) (x y : Nat → Int) (w : World) (hs : s ≤ 20000) (ht2 : t ≤ 20000) (ht : 2 ≤ t) (h : Num w (some ⟨ga, 0, none⟩) s c x) (h' : Num w (some ⟨gb, 0, none⟩) t c' y) (hxs : sizeL x s = s) (hys : sizeL y t = t) :
    Calls Tryz.prog 91 #[.slice (some ⟨ga, 0, none⟩) s c, .slice (some ⟨gb, 0, none⟩) t c'] w (OvOut (val x s) (val y t) w) := by
  have hx := h.2.2.1
  have hy := h'.2.2.1
  have HXS : Hid (sizeL x s = s) := hxs
  have c31 := size_num _ t c' y w (by omega) h'
  rw [hys] at c31
  have c20 := rlen_num _ s c x w (by omega) h
  have c20' := rlen_num _ t c' y w (by omega) h'
  have c45 := trim_any _ s c x w (by omega) h
  rw [hxs] at c45
  have hlx : 0 ≤ lenL x s ∧ lenL x s ≤ 64 * s := by
    unfold lenL; rw [hxs]
    split
    · omega
    · have := bitLen64 (x (s - 1)).toNat; omega
  have hY0 : 0 < val y t := val_pos hy t (by omega) hys
  have hX0 := (val_bd hx s).1
  obtain ⟨Ly, hLy, hy1, hy2⟩ := len_bd hy (n := t) (by omega)
  have hne : ((t : Int) == 1) = false := by simp; omega
  -- the number below the divisor times 2^(far + 1)
  have key : ∀ F : Int, lenL x s - lenL y t = F → (F < 0 → val x s < val y t) ∧ (0 ≤ F → val x s < val y t * 2 ^ (F.toNat + 1)) := by
    intro F hF
    rcases Nat.eq_zero_or_pos s with h0 | h0
    · subst h0
      have e0 : val x 0 = 0 := rfl
      refine ⟨fun _ => by rw [e0]; exact hY0, fun _ => by rw [e0]; exact Int.mul_pos hY0 (p2_pos _)⟩
    · obtain ⟨Lx, hLx, hx1, hx2⟩ := len_bd hx (n := s) (by omega)
      have mono : ∀ a b : Nat, a ≤ b → (2 : Int) ^ a ≤ 2 ^ b := fun a b hab => by
        obtain ⟨k, rfl⟩ : ∃ k, b = a + k := ⟨b - a, by omega⟩
        rw [Int.pow_add]
        have := p2_pos a
        have h3 := p2_pos k
        have : (2 : Int) ^ a * 1 ≤ 2 ^ a * 2 ^ k := Int.mul_le_mul_of_nonneg_left (by omega) (by omega)
        omega
      refine ⟨fun hneg => ?_, fun hpos => ?_⟩
      · have := mono (Lx + 1) Ly (by omega); omega
      · have e1 : Lx + 1 = Ly + (F.toNat + 1) := by omega
        have h5 : 2 ^ Ly * 2 ^ (F.toNat + 1) ≤ val y t * 2 ^ (F.toNat + 1) := Int.mul_le_mul_of_nonneg_right hy1 (Int.le_of_lt (p2_pos _))
        rw [← Int.pow_add, ← e1] at h5
        omega
  have hlyb : 0 ≤ lenL y t ∧ lenL y t ≤ 64 * t := by
    unfold lenL; rw [hys]
    split
    · omega
    · have := bitLen64 (y (t - 1)).toNat; omega
  obtain ⟨F, hF⟩ : ∃ F, lenL x s - lenL y t = F := ⟨_, rfl⟩
  have hk := key F hF
  have hFb : F ≤ 1280000 := by omega
  generalize lenL x s = LX at *
  generalize lenL y t = LY at *
  have HXN : Hid (Num w (some ⟨ga, 0, none⟩) s c x) := h
  have HYN : Hid (Num w (some ⟨gb, 0, none⟩) t c' y) := h'
  clear key h h' hy1 hy2 hLy hx hy
  obtain ⟨X, hX⟩ : ∃ X, val x s = X := ⟨_, rfl⟩
  obtain ⟨Y, hY⟩ : ∃ Y, val y t = Y := ⟨_, rfl⟩
  rw [hX, hY] at hk
  rw [hX] at hX0
  rw [hY] at hY0
  rw [hX, hY]
  have HX : Hid (val x s = X) := hX
  have HY : Hid (val y t = Y) := hY
  clear hX hY
  by_cases hneg : F < 0
  · have hXY := hk.1 hneg
    have HV : Hid (X / Y = 0 ∧ X % Y = X) := ⟨Int.ediv_eq_zero_of_lt hX0 hXY, Int.emod_eq_of_lt hX0 hXY⟩
    have HF : Hid (LX - LY = F) := hF
    have hFn : LX - LY < 0 := by omega
    clear hk hF
    go_enter Tryz.func91, Tryz.ntmps91
    go_wp2_with (first | (go_at_call 87; refine c31.mono ?_; rintro e w' ⟨rfl, rfl⟩) | (go_at_call_of 61 (Value.slice (some ⟨ga, 0, none⟩) s c); refine c20.mono ?_; rintro e w' ⟨rfl, rfl⟩; clear c20) | (go_at_call_of 61 (Value.slice (some ⟨gb, 0, none⟩) t c'); refine c20'.mono ?_; rintro e w' ⟨rfl, rfl⟩) | (go_at_call 66; refine c45.mono ?_; rintro e w1 ⟨g1, p1, rfl, hN1, hB1⟩))
    go_ret2
    have hb := below1 w1 (.cells #[] 22)
    exact ⟨w1.heap.size, 0, 0, fun _ => 0, g1, s, p1, x, rfl, by omega, by omega, ⟨Nat.le_refl _, by unfold maxLen; omega, fun _ => (by decide : (0 : Int) ≤ 0 ∧ (0 : Int) ≤ 18446744073709551615), fun _ _ => rfl, Or.inr ⟨w1.heap.size, 0, rfl, by simp, fun i hi => by omega⟩⟩, hN1.next hb, by rw [HV.out.1]; rfl, by rw [HV.out.2]; exact HX.out, hB1.trans (hb.mono hB1.size), HXS.out⟩
  · obtain ⟨N, rfl⟩ := Int.eq_ofNat_of_zero_le (show 0 ≤ F by omega)
    have hXb := hk.2 (by omega)
    rw [Int.toNat_natCast] at hXb
    obtain ⟨m0, hm0⟩ : ∃ m0 : Nat, (N : Int) / 64 = m0 := ⟨N / 64, by omega⟩
    have hmk := fun w => make_any ((m0 : Int) + 1) (m0 + 1) (by omega) (by omega) w
    have hm0b : m0 ≤ 20000 := by omega
    have hm0n : m0 = N / 64 := by omega
    have HM0 : Hid (m0 = N / 64) := hm0n
    clear hk hm0n
    go_enter Tryz.func91, Tryz.ntmps91
    go_wp2_with (first | (go_at_call 87; refine c31.mono ?_; rintro e w' ⟨rfl, rfl⟩) | (go_at_call_of 61 (Value.slice (some ⟨ga, 0, none⟩) s c); refine c20.mono ?_; rintro e w' ⟨rfl, rfl⟩; clear c20) | (go_at_call_of 61 (Value.slice (some ⟨gb, 0, none⟩) t c'); refine c20'.mono ?_; rintro e w' ⟨rfl, rfl⟩) | (go_at_call 66; refine c45.mono ?_; rintro e w1 ⟨g1, p1, rfl, hN1, hB1⟩))
    have hb1 := below1 w1 (.cells (arrOf (fun _ => 0) (m0 + 1)) 22)
    have hBq := hB1.trans (hb1.mono hB1.size)
    have c49 := fleft_val gb 0 t c' N y _ (by omega) (by omega) (by omega) (HYN.out.next hBq)
    rw [Int.toNat_natCast, HY.out] at c49
    have hO0 := Own.new w1 (fun _ => 0) (m0 + 1)
    have hg1lt : g1 < w1.heap.size := by
      rcases hN1.2.2.2.2 with ⟨h, _⟩ | ⟨b, off, h, hb, _⟩
      · cases h
      · cases h; exact hb
    have hsz : (w1.alloc (.cells (arrOf (fun _ => 0) (m0 + 1)) 22)).heap.size = w1.heap.size + 1 := by simp
    go_wp2_with (go_at_call 64; refine c49.mono ?_; rintro e w2 ⟨g2, k2, p2, z2, rfl, hk2, hN2, hv2, hb2, hf2, htr2⟩; clear c49 htr2)
    rw [hsz] at hf2 hb2
    have hB2 := hBq.trans (hb2.mono (by have := hB1.size; omega))
    have hNr := (hN1.next hb1).next (by rw [hsz]; exact hb2)
    have hO2 := Below.own hb2 (by omega) hO0
    generalize hgq : w1.heap.size = gq at *
    have hBsz := hB1.size
    have HGq : Hid (w.heap.size ≤ gq) := by show _ ≤ _; omega
    have hgq2 : gq < w2.heap.size := by have := hb2.size; omega
    clear hN1 hB1 hb1 hBq hO0 hb2 hsz hBsz hgq
    go_loopw [7, 9, 10, 65] (fun rv dv iv u65 wr => ∃ (k g1 k1 p1 g2 k2 p2 : Nat) (z1 z2 q : Nat → Int), k ≤ N + 1 ∧ iv = .int .i64 ((k : Int) - 1) ∧ rv = .slice (some ⟨g1, 0, none⟩) k1 p1 ∧ dv = .slice (some ⟨g2, 0, none⟩) k2 p2 ∧ k1 ≤ 40002 ∧ k2 ≤ 40002 ∧ g1 ≠ gq ∧ g2 ≠ gq ∧ gq < wr.heap.size ∧ Num wr (some ⟨g1, 0, none⟩) k1 p1 z1 ∧ Num wr (some ⟨g2, 0, none⟩) k2 p2 z2 ∧ Own gq (m0 + 1) q wr ∧ Words q ∧ Hid (val q (m0 + 1) * Y + val z1 k1 = X) ∧ Hid (val z1 k1 < Y * 2 ^ k) ∧ Hid (0 < k → val z2 k2 = Y * 2 ^ (k - 1)) ∧ Hid (val q (m0 + 1) % 2 ^ k = 0) ∧ Hid (sizeL z1 k1 = k1) ∧ Below w.heap.size w wr) (fun _ _ iv _ _ => (intOf iv + 1).toNat)
    case atStart => exact ⟨N + 1, g1, s, p1, g2, k2, p2, x, z2, fun _ => 0, Nat.le_refl _, by go_num, rfl, rfl, by omega, by omega, by omega, by omega, hgq2, hNr, hN2, hO2, fun _ => (by decide : (0 : Int) ≤ 0 ∧ (0 : Int) ≤ 18446744073709551615), by show _ = _; rw [val_zero, Int.zero_mul, Int.zero_add, HX.out], by show _ < _; rw [HX.out]; exact hXb, fun _ => hv2, by show _ = _; rw [val_zero]; exact Int.zero_emod _, HXS, hB2⟩
    case round =>
      clear hNr hN2 hO2 hB2 hv2 hk2 hf2 hg1lt hgq2 hXb c31 c20' c45
      obtain ⟨k, g1, k1, p1, g2, k2, p2, z1, z2, q, hk, rfl, rfl, rfl, hk1, hk2, hg1, hg2, hgq, hN1, hN2, hO, hqw, hv, hlt, hd, hmod, htr, hB⟩ := hrel
      by_cases h0 : k = 0
      · subst h0
        have hQN := hO.num hqw 0 (m0 + 1) (m0 + 1) (by omega) (Nat.le_refl _) (by unfold maxLen; omega)
        have c45 := trim_any _ (m0 + 1) (m0 + 1) _ _ (by omega) hQN
        have hle := sizeL_le (segW q 0 (m0 + 1)) (m0 + 1)
        have e1 : val (segW q 0 (m0 + 1)) (sizeL (segW q 0 (m0 + 1)) (m0 + 1)) = val q (m0 + 1) := by
          rw [val_bare]; exact val_congr _ fun i hi => by rw [segW_lt _ _ _ i hi, Nat.zero_add]
        have HFIN : Hid (val (segW q 0 (m0 + 1)) (sizeL (segW q 0 (m0 + 1)) (m0 + 1)) = X / Y ∧ val z1 k1 = X % Y) := by
          have h1 := hv.out
          have h2 := hlt.out
          rw [Int.pow_zero, Int.mul_one] at h2
          have := (Int.ediv_emod_unique hY0 (a := X) (r := val z1 k1) (q := val q (m0 + 1))).2 ⟨by rw [Int.mul_comm]; omega, (val_bd hN1.2.2.1 k1).1, h2⟩
          exact ⟨by rw [e1]; exact this.1.symm, this.2.symm⟩
        have HN1 : Hid (Num wr (some ⟨g1, 0, none⟩) k1 p1 z1) := hN1
        generalize segW q 0 (m0 + 1) = qz at *
        generalize sizeL qz (m0 + 1) = kq at *
        clear hQN hO hqw hv hlt hd hmod hN1 hN2 e1
        go_wp2_with (go_at_call 66; refine c45.mono ?_; rintro e w3 ⟨g3, p3, rfl, hN3, hB3⟩)
        go_ret2
        exact ⟨g3, kq, p3, qz, g1, k1, p1, z1, rfl, by omega, by omega, hN3, HN1.out.next hB3, HFIN.out.1, HFIN.out.2, hB.trans (hB3.mono hB.size), htr.out⟩
      · obtain ⟨j, rfl⟩ : ∃ j, k = j + 1 := ⟨k - 1, by omega⟩
        have ej : ((j + 1 : Nat) : Int) - 1 = j := by omega
        rw [ej]
        have hdv : val z2 k2 = Y * 2 ^ j := hd.out (by omega)
        have hT := p2_pos j
        have hdp : 0 < val z2 k2 := by rw [hdv]; exact Int.mul_pos hY0 hT
        have hk2p := pos_len hdp
        have c16 := rcmp_any _ _ k1 p1 k2 p2 z1 z2 wr (by omega) (by omega) hN1 hN2
        have HLT : Hid (val z1 k1 < Y * 2 ^ j * 2) := by show _ < _; have := hlt.out; rw [Int.pow_succ, ← Int.mul_assoc] at this; exact this
        have HMOD : Hid (val q (m0 + 1) % (2 ^ j * 2) = 0) := by show _ = _; have := hmod.out; rw [Int.pow_succ] at this; exact this
        have HMODF : Hid (val q (m0 + 1) % 2 ^ (j + 1) = 0) := hmod
        have HN' : Hid (∀ (z' : Nat → Int) (k' : Nat), (∀ V, val z2 k2 = V * 2 → val z' k' = V) → 0 < j → val z' k' = Y * 2 ^ (j - 1)) := fun z' k' hh hj => hh _ (by rw [hdv, Int.mul_assoc, ← Int.pow_succ]; congr 2; omega)
        have HJ : Hid (j ≤ N) := by show _ ≤ _; omega
        clear ej hd hlt hmod
        by_cases hge : Y * 2 ^ j ≤ val z1 k1
        · have hsg : 0 ≤ sgn (val z1 k1) (val z2 k2) := by unfold sgn; rw [if_neg (by omega)]; split <;> omega
          have c37 := frless_val _ _ k1 p1 k2 p2 z1 z2 wr (by omega) (by omega) hN1 hN2 (by rw [hdv]; exact hge)
          generalize sgn (val z1 k1) (val z2 k2) = sg at *
          obtain ⟨m, hmj⟩ : ∃ m : Nat, (j : Int) / 64 = m := ⟨j / 64, by omega⟩
          obtain ⟨r, hrj⟩ : ∃ r : Nat, (j : Int) % 64 = r := ⟨j % 64, by omega⟩
          have hr64 : r < 64 := by omega
          have hjm : j = 64 * m + r := by omega
          have hmm : m < m0 + 1 := by have := HJ.out; have := HM0.out; omega
          have hmi : (m : Int) < ((m0 + 1 : Nat) : Int) := by omega
          have hob := or_bit (hqw m) hr64 (word_mod hqw hmm (show r + 1 ≤ 64 by omega) (by have := HMODF.out; rw [hjm] at this; exact this))
          have HOR : Hid (bits BinOp.or IntKind.u64 (q m) (2 ^ r) = q m + 2 ^ r) := hob.1
          have hpr := p2_pos r
          have hpl := p2_le hr64
          have HQ2 : Hid (val (fun i => if i = m then q m + 2 ^ r else q i) (m0 + 1) = val q (m0 + 1) + 2 ^ j) := by
            show _ = _
            rw [val_set q m (q m + 2 ^ r) (m0 + 1) hmm]
            have e9 : (2 : Int) ^ j = 2 ^ r * 18446744073709551616 ^ m := by rw [p64, ← hjm]
            rw [e9]; congr 1; congr 1; omega
          have HQW2 : Hid (Words (fun i => if i = m then q m + 2 ^ r else q i)) := upd_words hqw ⟨by have := hqw m; omega, hob.2⟩
          have bq := hqw m
          have HO : Hid (Own gq (m0 + 1) q wr) := hO
          have HN2 : Hid (Num wr (some ⟨g2, 0, none⟩) k2 p2 z2) := hN2
          have hob2 := hob.2
          have HD : Hid (val z2 k2 = Y * 2 ^ j) := hdv
          clear hN1 hN2 hO hqw hob hjm HMODF
          go_wp2_with (first | (go_at_call 89; refine c16.mono ?_; rintro e w' ⟨rfl, rfl⟩) | (go_at_call 63; refine c37.mono ?_; rintro e w3 ⟨g3, k3, p3, z3, rfl, hk3, hN3, hv3, hb3, hf3, htr3⟩; have HT3 : Hid (sizeL z3 k3 = k3) := htr3; clear htr3; have hO3 := Below.own hb3 hgq HO.out; have hcq := hO3.cell m hmm; have hfq := hO3.frozen m))
          have hU3 : Upd gq w3 (w3.setCell ⟨gq, m, none⟩ (.int .u64 (bits BinOp.or IntKind.u64 (q m) (2 ^ r)))) := (Upd.refl gq w3).set m _
          have hO4 := hO3.set m (q m + 2 ^ r)
          rw [← HOR.out] at hO4
          have hN24 := hU3.num hg2 (HN2.out.next hb3)
          have hN34 := hU3.num (by omega) hN3
          have hB3 := (hB.trans (hb3.mono hB.size)).trans (hU3.below HGq.out)
          have hsz3 : w3.heap.size ≤ (w3.setCell ⟨gq, m, none⟩ (.int .u64 (bits BinOp.or IntKind.u64 (q m) (2 ^ r)))).heap.size := Nat.le_of_eq hU3.size.symm
          have hgq3 := hb3.size
          have c51 := half_any g2 k2 p2 z2 _ hk2p (by omega) hN24
          clear hO3 hN3 hN24 hU3 hb3
          generalize w3.setCell ⟨gq, m, none⟩ (.int .u64 (bits BinOp.or IntKind.u64 (q m) (2 ^ r))) = wS at *
          go_wp2_with (go_at_call 62; refine c51.mono ?_; rintro e w4 ⟨g4, k4, p4, bb, z4, rfl, hk4, hN4, hhf, hb4, hf4⟩)
          have hgS : gq < wS.heap.size := by omega
          go_roundw
          case rel =>
            refine ⟨j, g3, k3, p3, g4, k4, p4, z3, z4, fun i => if i = m then q m + 2 ^ r else q i, by have := HJ.out; omega, by go_num, rfl, rfl, by omega, by omega, by omega, by omega, by have := hb4.size; omega, hN34.next hb4, hN4, ?_, HQW2.out, ?_, ?_, fun hj => HN'.out z4 k4 hhf hj, ?_, HT3, hB3.trans (hb4.mono hB3.size)⟩
            · have := Below.own hb4 hgS hO4
              rw [HOR.out] at this
              exact this
            · show _ = _
              rw [HQ2.out, hv3, HD.out, Int.add_mul, Int.mul_comm (2 ^ j) Y]
              have := hv.out
              omega
            · show _ < _
              rw [hv3, HD.out]
              have := HLT.out
              omega
            · show _ = _
              rw [HQ2.out, Int.add_emod_right]
              exact mod_half HMOD.out
          case measure => simp [intOf]
        · have hs1 : sgn (val z1 k1) (val z2 k2) = -1 := by unfold sgn; rw [if_pos (by omega)]
          rw [hs1] at c16
          have c51 := half_any g2 k2 p2 z2 wr hk2p (by omega) hN2
          have HN1 : Hid (Num wr (some ⟨g1, 0, none⟩) k1 p1 z1) := hN1
          have HO : Hid (Own gq (m0 + 1) q wr) := hO
          have HQW : Hid (Words q) := hqw
          clear hN1 hN2 hO hqw hs1
          go_wp2_with (first | (go_at_call 89; refine c16.mono ?_; rintro e w' ⟨rfl, rfl⟩) | (go_at_call 62; refine c51.mono ?_; rintro e w4 ⟨g4, k4, p4, bb, z4, rfl, hk4, hN4, hhf, hb4, hf4⟩))
          go_roundw
          case rel => exact ⟨j, g1, k1, p1, g4, k4, p4, z1, z4, q, by have := HJ.out; omega, by go_num, rfl, rfl, hk1, by omega, hg1, by omega, by have := hb4.size; omega, HN1.out.next hb4, hN4, Below.own hb4 hgq HO.out, HQW.out, hv, by show _ < _; omega, fun hj => HN'.out z4 k4 hhf hj, mod_half HMOD.out, htr, hB.trans (hb4.mono hB.size)⟩
          case measure => simp [intOf]
end Go.Proofs.YtkefmapcaggefaaGreatDoor

namespace Go.Proofs.YtkefmapcaggefaaGreatDoor
open Go.RowKit

/-- words shifted down, by whole words and bits: their value -/
theorem shrW_val {y : Nat → Int} {n q r A : Nat} (hy : Words y) (hz : ∀ i, n ≤ i → y i = 0) (hr : r < 64) (m : Nat) (hm : n ≤ m) (hA : val y n = A) : val (shrW y q r) m = ((A / 2 ^ (64 * q + r) : Nat) : Int) := by
  have hw : Words (fun i => y (q + i)) := fun i => hy (q + i)
  have e1 : shrW y q r = shrW (fun i => y (q + i)) 0 r := by
    funext j; unfold shrW; simp only [Nat.zero_add, Nat.add_assoc]
  have h1 := dn_val hw hr m
  have h2 : y (q + m) = 0 := hz _ (by omega)
  simp only [h2, Int.zero_emod, Int.zero_mul, Int.add_zero, Nat.add_zero] at h1
  have h3 := val_split y q m
  have h4 : val (segW y q m) m = val (fun i => y (q + i)) m := val_congr m fun i hi => segW_lt y q m i hi
  rw [h4, val_more hz (q + m) (by omega), hA] at h3
  rw [e1]
  have hb1 := val_bd hy q
  have hb2 := val_bd (shrW_words hw (q := 0) (r := r)) m
  have hp : (0 : Int) < 2 ^ r := p2_pos r
  have hm1 := Int.emod_nonneg (y q) (Int.ne_of_gt hp)
  have hm2 := Int.emod_lt_of_pos (y q) hp
  generalize val (shrW (fun i => y (q + i)) 0 r) m = S at *
  generalize val (fun i => y (q + i)) m = Z at *
  have eZ : Z / 2 ^ r = S := by
    rw [← h1, Int.add_comm, Int.add_mul_ediv_right _ _ (Int.ne_of_gt hp), Int.ediv_eq_zero_of_lt hm1 hm2, Int.zero_add]
  have eA : (A : Int) / 18446744073709551616 ^ q = Z := by
    rw [h3, Int.add_mul_ediv_right _ _ (Int.ne_of_gt (pw_pos q)), Int.ediv_eq_zero_of_lt hb1.1 hb1.2, Int.zero_add]
  rw [← eZ, ← eA, Int.natCast_ediv, Int.ediv_ediv_of_nonneg (Int.le_of_lt (pw_pos q)), p64']
  simp
end Go.Proofs.YtkefmapcaggefaaGreatDoor

namespace Go.Proofs.YtkefmapcaggefaaGreatDoor
open Go.RowKit

theorem bnx {w0 W W' : World} (h : Below w0.heap.size w0 W) (hb : Below W.heap.size W W') : Below w0.heap.size w0 W' := h.trans (hb.mono h.size)
/-- how many bits a number has -/
def bl (V : Nat) : Nat := if V = 0 then 0 else Nat.log2 V + 1
theorem bl_le {V k : Nat} : bl V ≤ k ↔ V < 2 ^ k := by
  unfold bl
  by_cases h : V = 0
  · subst h; simp; exact Nat.two_pow_pos k
  · rw [if_neg h]
    have := Nat.log2_lt h (k := k)
    omega
theorem bl_ge {V k : Nat} : k < bl V ↔ 2 ^ k ≤ V := by
  have := bl_le (V := V) (k := k)
  omega
theorem bl_zero {V : Nat} : bl V = 0 ↔ V = 0 := by
  unfold bl; by_cases h : V = 0 <;> simp [h]
theorem bl_eq {V L : Nat} (h1 : 2 ^ (L - 1) ≤ V) (h2 : V < 2 ^ L) : bl V = L := by
  have a := bl_le.2 h2
  by_cases h : L = 0
  · omega
  · have b := bl_ge.2 h1
    omega
/-- a number in a list of words, at most K of them -/
def Nt (K V : Nat) (v : Value) (w : World) : Prop := ∃ a k cap z, v = .slice a k cap ∧ k ≤ K ∧ Num w a k cap z ∧ val z k = (V : Int)
theorem Nt.next {K V : Nat} {v : Value} {w w' : World} (h : Nt K V v w) (hb : Below w.heap.size w w') : Nt K V v w' := by
  obtain ⟨a, k, cap, z, h1, h2, h3, h4⟩ := h
  exact ⟨a, k, cap, z, h1, h2, h3.next hb, h4⟩
theorem Nt.more {K K' V : Nat} {v : Value} {w : World} (h : Nt K V v w) (hk : K ≤ K') : Nt K' V v w := by
  obtain ⟨a, k, cap, z, h1, h2, h3, h4⟩ := h
  exact ⟨a, k, cap, z, h1, by omega, h3, h4⟩
/-- without noughts at its end -/
def Nz (K V : Nat) (v : Value) (w : World) : Prop := ∃ a k cap z, v = .slice a k cap ∧ k ≤ K ∧ Num w a k cap z ∧ val z k = (V : Int) ∧ sizeL z k = k
theorem Nz.next {K V : Nat} {v : Value} {w w' : World} (h : Nz K V v w) (hb : Below w.heap.size w w') : Nz K V v w' := by
  obtain ⟨a, k, cap, z, h1, h2, h3, h4, h5⟩ := h
  exact ⟨a, k, cap, z, h1, h2, h3.next hb, h4, h5⟩
theorem Nz.nt {K V : Nat} {v : Value} {w : World} (h : Nz K V v w) : Nt K V v w := by
  obtain ⟨a, k, cap, z, h1, h2, h3, h4, h5⟩ := h
  exact ⟨a, k, cap, z, h1, h2, h3, h4⟩
theorem size_zero {z : Nat → Int} {k V : Nat} (hz : Words z) (hv : val z k = (V : Int)) : sizeL z k = 0 ↔ V = 0 := by
  constructor
  · intro h
    have := val_bare (x := z) k
    rw [h] at this
    have h0 : val z 0 = 0 := rfl
    omega
  · intro h
    subst h
    rcases Nat.eq_zero_or_pos (sizeL z k) with h | h
    · exact h
    · exfalso
      have := val_longer (x := z) (y := z) hz hz (n := 0) (m := sizeL z k) h (sizeL_sizeL z k)
      rw [val_bare] at this
      have h0 : val z 0 = 0 := rfl
      omega
theorem len_bl {z : Nat → Int} {k V : Nat} (hz : Words z) (hv : val z k = (V : Int)) : lenL z k = (bl V : Int) := by
  rcases Nat.eq_zero_or_pos (sizeL z k) with h | h
  · have h0 := (size_zero hz hv).1 h
    unfold lenL; rw [if_pos h, h0]; rfl
  · obtain ⟨L, h1, h2, h3⟩ := len_bd hz h
    rw [hv] at h2 h3
    have e : bl V = L + 1 := by
      have e1 : ((2 : Int) ^ L) = ((2 ^ L : Nat) : Int) := by simp
      have e2 : ((2 : Int) ^ (L + 1)) = ((2 ^ (L + 1) : Nat) : Int) := by simp
      rw [e1] at h2
      rw [e2] at h3
      exact bl_eq (by rw [Nat.add_sub_cancel]; omega) (by omega)
    rw [e, h1]; omega
/-- how many words -/
theorem size_bl {z : Nat → Int} {k V m : Nat} (hz : Words z) (hv : val z k = (V : Int)) : sizeL z k ≤ m ↔ bl V ≤ 64 * m := by
  have hl := len_bl hz hv
  unfold lenL at hl
  rcases Nat.eq_zero_or_pos (sizeL z k) with h | h
  · rw [if_pos h] at hl; omega
  · rw [if_neg (by omega)] at hl
    have ht := sizeL_top k h
    have hw := hz (sizeL z k - 1)
    have hb := bitLen_spec (z (sizeL z k - 1)).toNat (by omega) (by omega)
    omega
theorem nlen_v {K V : Nat} {v : Value} {w : World} (hK : K < 100000000) (h : Nt K V v w) :
    Calls Tryz.prog 53 #[v] w fun e w' => e = .returned (.int .i64 (bl V : Int)) ∧ w = w' := by
  obtain ⟨a, k, cap, z, rfl, hk, hN, hv⟩ := h
  refine (nlen_any a k cap z w (by omega) hN).mono fun e w' ⟨h1, h2⟩ => ⟨?_, h2⟩
  rw [h1, len_bl hN.2.2.1 hv]
theorem nshl_v {K V : Nat} {v : Value} {w : World} (d : Nat) (hK : K < 100000000) (h : Nt K V v w) (hd : bl V + d ≤ 127000) :
    Calls Tryz.prog 93 #[v, .int .i64 (d : Int)] w fun e w' => ∃ r, e = .returned (.tuple #[r, .int .i64 0]) ∧ Nz 2001 (V * 2 ^ d) r w' ∧ Below w.heap.size w w' := by
  obtain ⟨a, k, cap, z, rfl, hk, hN, hv⟩ := h
  have hs := (size_bl (m := (bl V + 63) / 64) hN.2.2.1 hv).2 (by omega)
  refine (nshl_any a k cap z d w (by omega) hN (by omega) (by omega)).mono fun e w' ⟨g, k', cap', z', h1, h2, h3, h4, h5, h6⟩ => ⟨_, h1, ⟨_, k', cap', z', rfl, h2, h3, ?_, h5⟩, h6⟩
  rw [h4, hv]; simp
theorem ncmp_v {K K' V V' : Nat} {v v' : Value} {w : World} (hK : K < 100000000) (hK' : K' < 100000000) (h : Nt K V v w) (h' : Nt K' V' v' w) :
    Calls Tryz.prog 79 #[v, v'] w fun e w' => e = .returned (.int .i64 (sgn (V : Int) (V' : Int))) ∧ Below w.heap.size w w' := by
  obtain ⟨a, k, cap, z, rfl, hk, hN, hv⟩ := h
  obtain ⟨a', k', cap', z', rfl, hk', hN', hv'⟩ := h'
  have := ncmp_b a a' k cap k' cap' z z' w (by omega) (by omega) hN hN'
  rw [hv, hv'] at this
  exact this
theorem nadd_v {K K' V V' : Nat} {v v' : Value} {w : World} (hK : K < 100000000) (hK' : K' < 100000000) (h : Nt K V v w) (h' : Nt K' V' v' w) :
    Calls Tryz.prog 82 #[v, v'] w fun e w' => ∃ r, e = .returned r ∧ Nz (K + K' + 1) (V + V') r w' ∧ Below w.heap.size w w' := by
  obtain ⟨a, k, cap, z, rfl, hk, hN, hv⟩ := h
  obtain ⟨a', k', cap', z', rfl, hk', hN', hv'⟩ := h'
  have s1 := sizeL_le z k
  have s2 := sizeL_le z' k'
  refine (nadd_any a a' k cap k' cap' z z' w (by omega) (by omega) hN hN').mono fun e w' ⟨g, k2, cap2, z2, h1, h2, h3, h4, h5, h6⟩ => ⟨_, h1, ⟨_, k2, cap2, z2, rfl, by omega, h3, ?_, h5⟩, h6⟩
  rw [h4, hv, hv']; omega
theorem ndiv_v {K K' V V' : Nat} {v v' : Value} {w : World} (hK : K < 100000000) (hK' : K' < 100000000) (h : Nt K V v w) (h' : Nt K' V' v' w) (hb : bl V ≤ 128000) (hb' : bl V' ≤ 128000) (h0 : V' ≠ 0) :
    Calls Tryz.prog 80 #[v, v'] w fun e w' => ∃ q r, e = .returned (.tuple #[q, r, .int .i64 0]) ∧ Nz 2001 (V / V') q w' ∧ Nz 2001 (V % V') r w' ∧ Below w.heap.size w w' := by
  obtain ⟨a, k, cap, z, rfl, hk, hN, hv⟩ := h
  obtain ⟨a', k', cap', z', rfl, hk', hN', hv'⟩ := h'
  have s1 := (size_bl (m := 2000) hN.2.2.1 hv).2 (by omega)
  have s2 := (size_bl (m := 2000) hN'.2.2.1 hv').2 (by omega)
  have s3 : 0 < sizeL z' k' := Nat.pos_of_ne_zero fun e => h0 ((size_zero hN'.2.2.1 hv').1 e)
  refine (ndiv_any a a' k cap k' cap' z z' w (by omega) (by omega) hN hN' s1 s2 s3).mono fun e w' ⟨o, k2, cap2, z2, o', k3, cap3, z3, h1, h2, h3, h4, h5, h6, h7, h8, h9, h10⟩ => ⟨_, _, h1, ⟨_, _, _, _, rfl, h2, h4, ?_, h8⟩, ⟨_, _, _, _, rfl, h3, h5, ?_, h9⟩, h10⟩
  · rw [h6, hv, hv']; simp
  · rw [h7, hv, hv']; simp
theorem nshr_v {K V : Nat} {v : Value} {w : World} (hK : K < 100000000) (h : Nt K V v w) :
    Calls Tryz.prog 58 #[v, .int .i64 1] w fun e w' => ∃ r b, e = .returned (.tuple #[r, .bool b]) ∧ Nz K (V / 2) r w' ∧ Below w.heap.size w w' := by
  obtain ⟨a, k, cap, z, rfl, hk, hN, hv⟩ := h
  refine (nshr_all a k cap z 1 w (by omega) hN (by decide)).mono fun e w' ⟨o, k2, cap2, h1, h2, h3, h4, h5⟩ => ⟨_, _, h1, ⟨_, _, _, _, rfl, by omega, h3, ?_, h4⟩, h5⟩
  have hz := h3.2.2.2.1
  have e1 : shrF z 1 = shrW z 0 1 := by unfold shrF; rw [if_neg (by decide)]; rfl
  rw [← val_more hz k h2, e1]
  exact shrW_val hN.2.2.1 hN.2.2.2.1 (by decide) k (Nat.le_refl _) hv
end Go.Proofs.YtkefmapcaggefaaGreatDoor

namespace Go.Proofs.YtkefmapcaggefaaGreatDoor
open Go.RowKit

def knB (d : Int) : Prop := 0 ≤ d ∧ d ≤ 4
instance (d : Int) : Decidable (knB d) := inferInstanceAs (Decidable (_ ∧ _))
theorem known_any (d : Int) (w : World) : Calls Tryz.prog 9 #[.int .i64 d] w fun e w' => e = .returned (.bool (decide (knB d))) ∧ w = w' := by
  by_cases h1 : 0 ≤ d
  · by_cases h2 : d ≤ 4
    · rw [decide_eq_true (show knB d from ⟨h1, h2⟩)]
      go_enter Tryz.func9, Tryz.ntmps9
      go_wp2
      go_ret
      exact ⟨rfl, rfl⟩
    · rw [decide_eq_false (show ¬ knB d from fun h => h2 h.2)]
      go_enter Tryz.func9, Tryz.ntmps9
      go_wp2
      go_ret
      exact ⟨rfl, rfl⟩
  · rw [decide_eq_false (show ¬ knB d from fun h => h1 h.1)]
    go_enter Tryz.func9, Tryz.ntmps9
    go_wp2
    go_ret
    exact ⟨rfl, rfl⟩
/-- does what overflows become infinite -/
def inB (d : Int) (s : Bool) : Bool := if d = 0 ∨ d = 1 then true else if d = 3 then !s else if d = 4 then s else false
set_option maxHeartbeats 400000 in
theorem infinite_any (d : Int) (s : Bool) (w : World) : Calls Tryz.prog 85 #[.int .i64 d, .bool s] w fun e w' => e = .returned (.bool (inB d s)) ∧ w = w' := by
  by_cases h0 : d = 0
  · subst h0
    go_enter Tryz.func85, Tryz.ntmps85
    go_wp2
    go_ret
    exact ⟨rfl, rfl⟩
  · by_cases h1 : d = 1
    · subst h1
      go_enter Tryz.func85, Tryz.ntmps85
      go_wp2
      go_ret
      exact ⟨rfl, rfl⟩
    · by_cases h3 : d = 3
      · subst h3
        go_enter Tryz.func85, Tryz.ntmps85
        go_wp2
        go_ret
        exact ⟨rfl, rfl⟩
      · by_cases h4 : d = 4
        · subst h4
          go_enter Tryz.func85, Tryz.ntmps85
          go_wp2
          go_ret
          exact ⟨rfl, rfl⟩
        · have e : inB d s = false := by unfold inB; simp [h0, h1, h3, h4]
          have b0 : (d == 0) = false := by simpa using h0
          have b1 : (d == 1) = false := by simpa using h1
          have b3 : (d == 3) = false := by simpa using h3
          have b4 : (d == 4) = false := by simpa using h4
          rw [e]
          go_enter Tryz.func85, Tryz.ntmps85
          go_wp2
          go_ret
          exact ⟨rfl, rfl⟩
/-- is the neighbour farther from nought taken -/
def faB (d : Int) (s odd : Bool) (R D : Nat) : Bool := if R = 0 then false else if d = 0 then decide (D < R + R) || (decide (R + R = D) && odd) else if d = 1 then decide (D ≤ R + R) else inB d s
theorem sgn_ways (a b : Int) : (a < b ∧ sgn a b = -1) ∨ (a = b ∧ sgn a b = 0) ∨ (b < a ∧ sgn a b = 1) := by
  unfold sgn
  by_cases h : a < b
  · exact Or.inl ⟨h, if_pos h⟩
  · by_cases h' : b < a
    · exact Or.inr (Or.inr ⟨h', by rw [if_neg h, if_pos h']⟩)
    · exact Or.inr (Or.inl ⟨by omega, by rw [if_neg h, if_neg h']⟩)
section
variable (d : Int) (s odd : Bool) (R D : Nat) (vr vd : Value) (w : World)
  (c26 : ∀ W, Below w.heap.size w W → Calls Tryz.prog 53 #[vr] W fun e w' => e = .returned (.int .i64 (bl R : Int)) ∧ W = w')
include c26
set_option maxHeartbeats 400000 in
theorem far_zero (h : R = 0) : Calls Tryz.prog 81 #[.int .i64 d, .bool s, .bool odd, vr, vd] w fun e w' => e = .returned (.bool false) ∧ Below w.heap.size w w' := by
  have hb : (((bl R : Nat) : Int) == 0) = true := by rw [h]; decide
  go_enter Tryz.func81, Tryz.ntmps81
  go_wp2_with (go_at_call 53; refine (c26 _ bgo).mono ?_; rintro e w1 ⟨rfl, rfl⟩)
  go_ret
  exact ⟨rfl, bgo⟩
variable (hv : Int) (hR : (((bl R : Nat) : Int) == 0) = false)
  (c61 : ∀ W, Below w.heap.size w W → Calls Tryz.prog 82 #[vr, vr] W fun e w' => ∃ r, e = .returned r ∧ (∀ W', Below w'.heap.size w' W' → Calls Tryz.prog 79 #[r, vd] W' fun e w'' => e = .returned (.int .i64 hv) ∧ Below W'.heap.size W' w'') ∧ Below W.heap.size W w')
include hR c61
set_option maxHeartbeats 400000 in
theorem far_0g (h : 0 < hv) : Calls Tryz.prog 81 #[.int .i64 0, .bool s, .bool odd, vr, vd] w fun e w' => e = .returned (.bool true) ∧ Below w.heap.size w w' := by
  go_enter Tryz.func81, Tryz.ntmps81
  go_wp2_with (first
    | (go_at_call 53; refine (c26 _ bgo).mono ?_; rintro e w1 ⟨rfl, rfl⟩)
    | (go_at_call 82; refine (c61 _ bgo).mono ?_; rintro e w2 ⟨v2, rfl, c58, hb2⟩; have hA2 := bnx (w0 := w) bgo hb2)
    | (go_at_call 79; refine (c58 _ (Below.refl _ _)).mono ?_; rintro e w3 ⟨rfl, hb3⟩; have hA3 := bnx (w0 := w) hA2 hb3)
    | (go_at_call 85; refine (infinite_any _ _ _).mono ?_; rintro e w4 ⟨rfl, rfl⟩))
  go_ret
  exact ⟨by first | rfl | (simp; omega), bgo⟩
set_option maxHeartbeats 400000 in
theorem far_0e (h : hv = 0) : Calls Tryz.prog 81 #[.int .i64 0, .bool s, .bool odd, vr, vd] w fun e w' => e = .returned (.bool odd) ∧ Below w.heap.size w w' := by
  subst h
  go_enter Tryz.func81, Tryz.ntmps81
  go_wp2_with (first
    | (go_at_call 53; refine (c26 _ bgo).mono ?_; rintro e w1 ⟨rfl, rfl⟩)
    | (go_at_call 82; refine (c61 _ bgo).mono ?_; rintro e w2 ⟨v2, rfl, c58, hb2⟩; have hA2 := bnx (w0 := w) bgo hb2)
    | (go_at_call 79; refine (c58 _ (Below.refl _ _)).mono ?_; rintro e w3 ⟨rfl, hb3⟩; have hA3 := bnx (w0 := w) hA2 hb3)
    | (go_at_call 85; refine (infinite_any _ _ _).mono ?_; rintro e w4 ⟨rfl, rfl⟩))
  go_ret
  exact ⟨by first | rfl | (simp; omega), bgo⟩
set_option maxHeartbeats 400000 in
theorem far_0l (h : ¬ 0 < hv) (h1 : (hv == 0) = false) : Calls Tryz.prog 81 #[.int .i64 0, .bool s, .bool odd, vr, vd] w fun e w' => e = .returned (.bool false) ∧ Below w.heap.size w w' := by
  go_enter Tryz.func81, Tryz.ntmps81
  go_wp2_with (first
    | (go_at_call 53; refine (c26 _ bgo).mono ?_; rintro e w1 ⟨rfl, rfl⟩)
    | (go_at_call 82; refine (c61 _ bgo).mono ?_; rintro e w2 ⟨v2, rfl, c58, hb2⟩; have hA2 := bnx (w0 := w) bgo hb2)
    | (go_at_call 79; refine (c58 _ (Below.refl _ _)).mono ?_; rintro e w3 ⟨rfl, hb3⟩; have hA3 := bnx (w0 := w) hA2 hb3)
    | (go_at_call 85; refine (infinite_any _ _ _).mono ?_; rintro e w4 ⟨rfl, rfl⟩))
  go_ret
  exact ⟨by first | rfl | (simp; omega), bgo⟩
set_option maxHeartbeats 400000 in
theorem far_1g (h : 0 ≤ hv) : Calls Tryz.prog 81 #[.int .i64 1, .bool s, .bool odd, vr, vd] w fun e w' => e = .returned (.bool true) ∧ Below w.heap.size w w' := by
  go_enter Tryz.func81, Tryz.ntmps81
  go_wp2_with (first
    | (go_at_call 53; refine (c26 _ bgo).mono ?_; rintro e w1 ⟨rfl, rfl⟩)
    | (go_at_call 82; refine (c61 _ bgo).mono ?_; rintro e w2 ⟨v2, rfl, c58, hb2⟩; have hA2 := bnx (w0 := w) bgo hb2)
    | (go_at_call 79; refine (c58 _ (Below.refl _ _)).mono ?_; rintro e w3 ⟨rfl, hb3⟩; have hA3 := bnx (w0 := w) hA2 hb3)
    | (go_at_call 85; refine (infinite_any _ _ _).mono ?_; rintro e w4 ⟨rfl, rfl⟩))
  go_ret
  exact ⟨by first | rfl | (simp; omega), bgo⟩
set_option maxHeartbeats 400000 in
theorem far_1l (h : ¬ 0 ≤ hv) : Calls Tryz.prog 81 #[.int .i64 1, .bool s, .bool odd, vr, vd] w fun e w' => e = .returned (.bool false) ∧ Below w.heap.size w w' := by
  go_enter Tryz.func81, Tryz.ntmps81
  go_wp2_with (first
    | (go_at_call 53; refine (c26 _ bgo).mono ?_; rintro e w1 ⟨rfl, rfl⟩)
    | (go_at_call 82; refine (c61 _ bgo).mono ?_; rintro e w2 ⟨v2, rfl, c58, hb2⟩; have hA2 := bnx (w0 := w) bgo hb2)
    | (go_at_call 79; refine (c58 _ (Below.refl _ _)).mono ?_; rintro e w3 ⟨rfl, hb3⟩; have hA3 := bnx (w0 := w) hA2 hb3)
    | (go_at_call 85; refine (infinite_any _ _ _).mono ?_; rintro e w4 ⟨rfl, rfl⟩))
  go_ret
  exact ⟨by first | rfl | (simp; omega), bgo⟩
set_option maxHeartbeats 400000 in
theorem far_d (h0 : (d == 0) = false) (h1 : (d == 1) = false) : Calls Tryz.prog 81 #[.int .i64 d, .bool s, .bool odd, vr, vd] w fun e w' => e = .returned (.bool (inB d s)) ∧ Below w.heap.size w w' := by
  go_enter Tryz.func81, Tryz.ntmps81
  go_wp2_with (first
    | (go_at_call 53; refine (c26 _ bgo).mono ?_; rintro e w1 ⟨rfl, rfl⟩)
    | (go_at_call 82; refine (c61 _ bgo).mono ?_; rintro e w2 ⟨v2, rfl, c58, hb2⟩; have hA2 := bnx (w0 := w) bgo hb2)
    | (go_at_call 79; refine (c58 _ (Below.refl _ _)).mono ?_; rintro e w3 ⟨rfl, hb3⟩; have hA3 := bnx (w0 := w) hA2 hb3)
    | (go_at_call 85; refine (infinite_any _ _ _).mono ?_; rintro e w4 ⟨rfl, rfl⟩))
  go_ret
  exact ⟨by first | rfl | (simp; omega), bgo⟩
end
theorem farther_v (d : Int) (s odd : Bool) {K K' R D : Nat} {vr vd : Value} {w : World} (hK : K < 1000000) (hK' : K' < 1000000) (h : Nt K R vr w) (h' : Nt K' D vd w) :
    Calls Tryz.prog 81 #[.int .i64 d, .bool s, .bool odd, vr, vd] w fun e w' => e = .returned (.bool (faB d s odd R D)) ∧ Below w.heap.size w w' := by
  have c26 := fun W (hb : Below w.heap.size w W) => nlen_v (by omega) (h.next hb)
  unfold faB
  by_cases hz : R = 0
  · rw [if_pos hz]; exact far_zero d s odd R vr vd w c26 hz
  · rw [if_neg hz]
    have hR : (((bl R : Nat) : Int) == 0) = false := by
      have : bl R ≠ 0 := fun e => hz (bl_zero.1 e)
      rw [beq_eq_false_iff_ne]; omega
    have c61 : ∀ W, Below w.heap.size w W → Calls Tryz.prog 82 #[vr, vr] W fun e w' => ∃ r, e = .returned r ∧ (∀ W', Below w'.heap.size w' W' → Calls Tryz.prog 79 #[r, vd] W' fun e w'' => e = .returned (.int .i64 (sgn ((R + R : Nat) : Int) (D : Int))) ∧ Below W'.heap.size W' w'') ∧ Below W.heap.size W w' := fun W hb =>
      (nadd_v (by omega) (by omega) (h.next hb) (h.next hb)).mono fun e w' ⟨r, h1, h2, h3⟩ => ⟨r, h1, fun W' hb' => ncmp_v (by omega) (by omega) (h2.nt.next hb') (h'.next (bnx (bnx hb h3) hb')), h3⟩
    by_cases h0 : d = 0
    · subst h0
      rw [if_pos rfl]
      rcases sgn_ways ((R + R : Nat) : Int) (D : Int) with ⟨a, e⟩ | ⟨a, e⟩ | ⟨a, e⟩
      · rw [e] at c61
        rw [decide_eq_false (show ¬ D < R + R by omega), decide_eq_false (show ¬ R + R = D by omega)]
        exact far_0l s odd R vr vd w c26 (-1) hR c61 (by decide) (by decide)
      · rw [e] at c61
        rw [decide_eq_false (show ¬ D < R + R by omega), decide_eq_true (show R + R = D by omega), Bool.false_or, Bool.true_and]
        exact far_0e s odd R vr vd w c26 0 hR c61 rfl
      · rw [e] at c61
        rw [decide_eq_true (show D < R + R by omega), Bool.true_or]
        exact far_0g s odd R vr vd w c26 1 hR c61 (by decide)
    · rw [if_neg h0]
      by_cases h1 : d = 1
      · subst h1
        rw [if_pos rfl]
        rcases sgn_ways ((R + R : Nat) : Int) (D : Int) with ⟨a, e⟩ | ⟨a, e⟩ | ⟨a, e⟩
        · rw [e] at c61
          rw [decide_eq_false (show ¬ D ≤ R + R by omega)]
          exact far_1l s odd R vr vd w c26 (-1) hR c61 (by decide)
        · rw [e] at c61
          rw [decide_eq_true (show D ≤ R + R by omega)]
          exact far_1g s odd R vr vd w c26 0 hR c61 (by decide)
        · rw [e] at c61
          rw [decide_eq_true (show D ≤ R + R by omega)]
          exact far_1g s odd R vr vd w c26 1 hR c61 (by decide)
      · rw [if_neg h1]
        exact far_d d s odd R vr vd w c26 _ hR c61 (by simpa using h0) (by simpa using h1)
theorem raised_any (x s : Bool) (w : World) : Calls Tryz.prog 60 #[.bool x, .bool s] w fun e w' => e = .returned (.int .i64 (if x then 0 else if s then 12 else 8)) ∧ w = w' := by
  cases x <;> cases s
  all_goals (
    go_enter Tryz.func60, Tryz.ntmps60
    go_wp2
    go_ret
    exact ⟨rfl, rfl⟩)
end Go.Proofs.YtkefmapcaggefaaGreatDoor
