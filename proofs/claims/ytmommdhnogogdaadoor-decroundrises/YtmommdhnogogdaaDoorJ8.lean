/-
  Texts that the proof leans on, joined: Ove, Lv4, Qt, Bs.
-/
import Derived.Test.YtmommdhnogogdaaDoorJ7
import Derived.Test.YtmommdhnogogdaaDoorJ2
import Derived.BigQuiet
import Derived.StillTail
import Derived.WalkKit
set_option linter.unusedVariables false
set_option linter.unusedSimpArgs false
set_option maxRecDepth 20000
set_option linter.unusedSectionVars false
namespace Go.Proofs.YtmommdhnogogdaaDoor
open Go.RowKit

theorem half_any (g k c : Nat) (z : Nat → Int) (w : World) (hk : 0 < k) (hk2 : k < 1000000) (h : Num w (some ⟨g, 0, none⟩) k c z) :
    Calls Tryd.prog 84 #[.slice (some ⟨g, 0, none⟩) k c, .int .i64 1] w fun e w' => ∃ g' k' cap b z', e = .returned (.tuple #[.slice (some ⟨g', 0, none⟩) k' cap, .bool b]) ∧ k' ≤ k ∧ Num w' (some ⟨g', 0, none⟩) k' cap z' ∧ (∀ V, val z k = V * 2 → val z' k' = V) ∧ Below w.heap.size w w' ∧ w.heap.size ≤ g' := by
  refine (frgt_p g 0 k c 0 1 1 z w (by omega) (by omega) (by omega) (by omega) (by decide) (by decide) (by decide) hk h).mono fun e w' ⟨g', k', cap, e1, hk', hN, hB, hf⟩ => ⟨g', k', cap, _, _, e1, hk', hN, fun V hV => ?_, hB, hf⟩
  have hd := dn_val h.2.2.1 (r := 1) (by omega) k
  rw [h.2.2.2.1 k (Nat.le_refl _), hV, ← val_more hN.2.2.2.1 k hk'] at *
  have e2 : (2 : Int) ^ 1 = 2 := rfl
  rw [e2] at hd
  have := Int.emod_nonneg (z 0) (show (2 : Int) ≠ 0 by decide)
  have := Int.emod_lt_of_pos (z 0) (show (0 : Int) < 2 by decide)
  simp at hd
  omega
theorem fleft_val (b off n c : Nat) (d : Int) (x : Nat → Int) (w : World) (hn : n < 1000000) (hd : 0 ≤ d) (hd2 : d ≤ 6300000) (h : Num w (some ⟨b, off, none⟩) n c x) :
    Calls Tryd.prog 58 #[.slice (some ⟨b, off, none⟩) n c, .int .i64 d] w fun e w' => ∃ g k cap z, e = .returned (.slice (some ⟨g, 0, none⟩) k cap) ∧ k ≤ n + d.toNat / 64 + 1 ∧ Num w' (some ⟨g, 0, none⟩) k cap z ∧ val z k = val x n * 2 ^ d.toNat ∧ Below w.heap.size w w' ∧ w.heap.size ≤ g ∧ sizeL z k = k := by
  obtain ⟨q, hq⟩ : ∃ q : Nat, d / 64 = q := ⟨(d / 64).toNat, by omega⟩
  obtain ⟨r, hr⟩ : ∃ r : Nat, d % 64 = r := ⟨(d % 64).toNat, by omega⟩
  have hdn : d.toNat = 64 * q + r := by omega
  have hr64 : r < 64 := by omega
  have hq2 : q < 99000 := by omega
  have hx := h.2.2.1
  have hv := finL_val hx h.2.2.2.1 q hr64
  rw [hdn]
  by_cases hr0 : 0 < r
  · exact (fleft_p b off n c q r d x w (by omega) (by omega) hr64 hr0 hq hr hd h).mono fun e w' ⟨g, k, cap, e1, hk, hN, hB, hf, htr⟩ => ⟨g, k, cap, _, e1, by omega, hN, by rw [← hv, val_more hN.2.2.2.1 _ hk], hB, hf, htr⟩
  · obtain rfl : r = 0 := by omega
    exact (fleft_z b off n c q d x w (by omega) (by omega) hq hr hd h).mono fun e w' ⟨g, k, cap, e1, hk, hN, hB, hf, htr⟩ => ⟨g, k, cap, _, e1, by omega, hN, by rw [← hv, val_more hN.2.2.2.1 _ hk], hB, hf, htr⟩
theorem frless_val (a a' : Option Addr) (n c n' c' : Nat) (x y : Nat → Int) (w : World) (hn : n < 4000000000) (hn' : n' < 4000000000) (h : Num w a n c x) (h' : Num w a' n' c' y) (hv : val y n' ≤ val x n) :
    Calls Tryd.prog 56 #[.slice a n c, .slice a' n' c'] w fun e w' => ∃ g k cap z, e = .returned (.slice (some ⟨g, 0, none⟩) k cap) ∧ k ≤ max n n' ∧ Num w' (some ⟨g, 0, none⟩) k cap z ∧ val z k = val x n - val y n' ∧ Below w.heap.size w w' ∧ w.heap.size ≤ g ∧ sizeL z k = k := by
  refine (frless_any a a' n c n' c' x y w (by omega) (by omega) h h').mono fun e w' ⟨g, k, cap, e1, hk, hN, hB, hf, htr⟩ => ⟨g, k, cap, _, e1, hk, hN, ?_, hB, hf, htr⟩
  have ex := val_more h.2.2.2.1 (max n n') (by omega)
  have ey := val_more h'.2.2.2.1 (max n n') (by omega)
  have e := dif_val h.2.2.1 h'.2.2.1 (max n n')
  rw [borW_end h.2.2.1 h'.2.2.1 (by omega), ex, ey] at e
  rw [← val_more hN.2.2.2.1 _ hk, val_congr (y := difW x y) (max n n') fun i hi => by unfold difZ; rw [if_pos hi]]
  omega
theorem pos_len {z : Nat → Int} {k : Nat} (h : 0 < val z k) : 0 < k := by
  rcases Nat.eq_zero_or_pos k with e | e
  · subst e; simp [val] at h
  · exact e

/-- what Over answers -/
def OvOut (X Y : Int) (w : World) (e : Ending) (w' : World) : Prop :=
  ∃ g k cap z g' k' cap' z', e = .returned (.tuple #[.slice (some ⟨g, 0, none⟩) k cap, .slice (some ⟨g', 0, none⟩) k' cap']) ∧ k ≤ 41000 ∧ k' ≤ 41000 ∧ Num w' (some ⟨g, 0, none⟩) k cap z ∧ Num w' (some ⟨g', 0, none⟩) k' cap' z' ∧ val z k = X / Y ∧ val z' k' = X % Y ∧ Below w.heap.size w w' ∧ sizeL z' k' = k'

set_option maxHeartbeats 4000000 in
theorem over_any (ga gb s c t c' : Nat) (x y : Nat → Int) (w : World) (hs : s ≤ 20000) (ht2 : t ≤ 20000) (ht : 2 ≤ t) (h : Num w (some ⟨ga, 0, none⟩) s c x) (h' : Num w (some ⟨gb, 0, none⟩) t c' y) (hxs : sizeL x s = s) (hys : sizeL y t = t) :
    Calls Tryd.prog 72 #[.slice (some ⟨ga, 0, none⟩) s c, .slice (some ⟨gb, 0, none⟩) t c'] w (OvOut (val x s) (val y t) w) := by
  have hx := h.2.2.1
  have hy := h'.2.2.1
  have HXS : Hid (sizeL x s = s) := hxs
  have c31 := size_num _ t c' y w (by omega) h'
  rw [hys] at c31
  have c20 := rlen_num _ s c x w (by omega) h
  have c20' := rlen_num _ t c' y w (by omega) h'
  have c45 := trim_any _ s c x w (by omega) h
  rw [hxs] at c45
  have hlx : 0 ≤ lenL x s ∧ lenL x s ≤ 64 * s := by
    unfold lenL; rw [hxs]
    split
    · omega
    · have := bitLen64 (x (s - 1)).toNat; omega
  have hY0 : 0 < val y t := val_pos hy t (by omega) hys
  have hX0 := (val_bd hx s).1
  obtain ⟨Ly, hLy, hy1, hy2⟩ := len_bd hy (n := t) (by omega)
  have hne : ((t : Int) == 1) = false := by simp; omega
  -- the number below the divisor times 2^(far + 1)
  have key : ∀ F : Int, lenL x s - lenL y t = F → (F < 0 → val x s < val y t) ∧ (0 ≤ F → val x s < val y t * 2 ^ (F.toNat + 1)) := by
    intro F hF
    rcases Nat.eq_zero_or_pos s with h0 | h0
    · subst h0
      have e0 : val x 0 = 0 := rfl
      refine ⟨fun _ => by rw [e0]; exact hY0, fun _ => by rw [e0]; exact Int.mul_pos hY0 (p2_pos _)⟩
    · obtain ⟨Lx, hLx, hx1, hx2⟩ := len_bd hx (n := s) (by omega)
      have mono : ∀ a b : Nat, a ≤ b → (2 : Int) ^ a ≤ 2 ^ b := fun a b hab => by
        obtain ⟨k, rfl⟩ : ∃ k, b = a + k := ⟨b - a, by omega⟩
        rw [Int.pow_add]
        have := p2_pos a
        have h3 := p2_pos k
        have : (2 : Int) ^ a * 1 ≤ 2 ^ a * 2 ^ k := Int.mul_le_mul_of_nonneg_left (by omega) (by omega)
        omega
      refine ⟨fun hneg => ?_, fun hpos => ?_⟩
      · have := mono (Lx + 1) Ly (by omega); omega
      · have e1 : Lx + 1 = Ly + (F.toNat + 1) := by omega
        have h5 : 2 ^ Ly * 2 ^ (F.toNat + 1) ≤ val y t * 2 ^ (F.toNat + 1) := Int.mul_le_mul_of_nonneg_right hy1 (Int.le_of_lt (p2_pos _))
        rw [← Int.pow_add, ← e1] at h5
        omega
  have hlyb : 0 ≤ lenL y t ∧ lenL y t ≤ 64 * t := by
    unfold lenL; rw [hys]
    split
    · omega
    · have := bitLen64 (y (t - 1)).toNat; omega
  obtain ⟨F, hF⟩ : ∃ F, lenL x s - lenL y t = F := ⟨_, rfl⟩
  have hk := key F hF
  have hFb : F ≤ 1280000 := by omega
  generalize lenL x s = LX at *
  generalize lenL y t = LY at *
  have HXN : Hid (Num w (some ⟨ga, 0, none⟩) s c x) := h
  have HYN : Hid (Num w (some ⟨gb, 0, none⟩) t c' y) := h'
  clear key h h' hy1 hy2 hLy hx hy
  obtain ⟨X, hX⟩ : ∃ X, val x s = X := ⟨_, rfl⟩
  obtain ⟨Y, hY⟩ : ∃ Y, val y t = Y := ⟨_, rfl⟩
  rw [hX, hY] at hk
  rw [hX] at hX0
  rw [hY] at hY0
  rw [hX, hY]
  have HX : Hid (val x s = X) := hX
  have HY : Hid (val y t = Y) := hY
  clear hX hY
  by_cases hneg : F < 0
  · have hXY := hk.1 hneg
    have HV : Hid (X / Y = 0 ∧ X % Y = X) := ⟨Int.ediv_eq_zero_of_lt hX0 hXY, Int.emod_eq_of_lt hX0 hXY⟩
    have HF : Hid (LX - LY = F) := hF
    have hFn : LX - LY < 0 := by omega
    clear hk hF
    go_enter Tryd.func72, Tryd.ntmps72
    go_wp2_with (first | (go_at_call 11; refine c31.mono ?_; rintro e w' ⟨rfl, rfl⟩) | (go_at_call_of 71 (Value.slice (some ⟨ga, 0, none⟩) s c); refine c20.mono ?_; rintro e w' ⟨rfl, rfl⟩; clear c20) | (go_at_call_of 71 (Value.slice (some ⟨gb, 0, none⟩) t c'); refine c20'.mono ?_; rintro e w' ⟨rfl, rfl⟩) | (go_at_call 31; refine c45.mono ?_; rintro e w1 ⟨g1, p1, rfl, hN1, hB1⟩))
    go_ret2
    have hb := below1 w1 (.cells #[] 26)
    exact ⟨w1.heap.size, 0, 0, fun _ => 0, g1, s, p1, x, rfl, by omega, by omega, ⟨Nat.le_refl _, by unfold maxLen; omega, fun _ => (by decide : (0 : Int) ≤ 0 ∧ (0 : Int) ≤ 18446744073709551615), fun _ _ => rfl, Or.inr ⟨w1.heap.size, 0, rfl, by simp, fun i hi => by omega⟩⟩, hN1.next hb, by rw [HV.out.1]; rfl, by rw [HV.out.2]; exact HX.out, hB1.trans (hb.mono hB1.size), HXS.out⟩
  · obtain ⟨N, rfl⟩ := Int.eq_ofNat_of_zero_le (show 0 ≤ F by omega)
    have hXb := hk.2 (by omega)
    rw [Int.toNat_natCast] at hXb
    obtain ⟨m0, hm0⟩ : ∃ m0 : Nat, (N : Int) / 64 = m0 := ⟨N / 64, by omega⟩
    have hmk := fun w => make_any ((m0 : Int) + 1) (m0 + 1) (by omega) (by omega) w
    have hm0b : m0 ≤ 20000 := by omega
    have hm0n : m0 = N / 64 := by omega
    have HM0 : Hid (m0 = N / 64) := hm0n
    clear hk hm0n
    go_enter Tryd.func72, Tryd.ntmps72
    go_wp2_with (first | (go_at_call 11; refine c31.mono ?_; rintro e w' ⟨rfl, rfl⟩) | (go_at_call_of 71 (Value.slice (some ⟨ga, 0, none⟩) s c); refine c20.mono ?_; rintro e w' ⟨rfl, rfl⟩; clear c20) | (go_at_call_of 71 (Value.slice (some ⟨gb, 0, none⟩) t c'); refine c20'.mono ?_; rintro e w' ⟨rfl, rfl⟩) | (go_at_call 31; refine c45.mono ?_; rintro e w1 ⟨g1, p1, rfl, hN1, hB1⟩))
    have hb1 := below1 w1 (.cells (arrOf (fun _ => 0) (m0 + 1)) 26)
    have hBq := hB1.trans (hb1.mono hB1.size)
    have c49 := fleft_val gb 0 t c' N y _ (by omega) (by omega) (by omega) (HYN.out.next hBq)
    rw [Int.toNat_natCast, HY.out] at c49
    have hO0 := Own.new w1 (fun _ => 0) (m0 + 1)
    have hg1lt : g1 < w1.heap.size := by
      rcases hN1.2.2.2.2 with ⟨h, _⟩ | ⟨b, off, h, hb, _⟩
      · cases h
      · cases h; exact hb
    have hsz : (w1.alloc (.cells (arrOf (fun _ => 0) (m0 + 1)) 26)).heap.size = w1.heap.size + 1 := by simp
    go_wp2_with (go_at_call 58; refine c49.mono ?_; rintro e w2 ⟨g2, k2, p2, z2, rfl, hk2, hN2, hv2, hb2, hf2, htr2⟩; clear c49 htr2)
    rw [hsz] at hf2 hb2
    have hB2 := hBq.trans (hb2.mono (by have := hB1.size; omega))
    have hNr := (hN1.next hb1).next (by rw [hsz]; exact hb2)
    have hO2 := Below.own hb2 (by omega) hO0
    generalize hgq : w1.heap.size = gq at *
    have hBsz := hB1.size
    have HGq : Hid (w.heap.size ≤ gq) := by show _ ≤ _; omega
    have hgq2 : gq < w2.heap.size := by have := hb2.size; omega
    clear hN1 hB1 hb1 hBq hO0 hb2 hsz hBsz hgq
    go_loopw [7, 9, 10, 65] (fun rv dv iv u65 wr => ∃ (k g1 k1 p1 g2 k2 p2 : Nat) (z1 z2 q : Nat → Int), k ≤ N + 1 ∧ iv = .int .i64 ((k : Int) - 1) ∧ rv = .slice (some ⟨g1, 0, none⟩) k1 p1 ∧ dv = .slice (some ⟨g2, 0, none⟩) k2 p2 ∧ k1 ≤ 40002 ∧ k2 ≤ 40002 ∧ g1 ≠ gq ∧ g2 ≠ gq ∧ gq < wr.heap.size ∧ Num wr (some ⟨g1, 0, none⟩) k1 p1 z1 ∧ Num wr (some ⟨g2, 0, none⟩) k2 p2 z2 ∧ Own gq (m0 + 1) q wr ∧ Words q ∧ Hid (val q (m0 + 1) * Y + val z1 k1 = X) ∧ Hid (val z1 k1 < Y * 2 ^ k) ∧ Hid (0 < k → val z2 k2 = Y * 2 ^ (k - 1)) ∧ Hid (val q (m0 + 1) % 2 ^ k = 0) ∧ Hid (sizeL z1 k1 = k1) ∧ Below w.heap.size w wr) (fun _ _ iv _ _ => (intOf iv + 1).toNat)
    case atStart => exact ⟨N + 1, g1, s, p1, g2, k2, p2, x, z2, fun _ => 0, Nat.le_refl _, by go_num, rfl, rfl, by omega, by omega, by omega, by omega, hgq2, hNr, hN2, hO2, fun _ => (by decide : (0 : Int) ≤ 0 ∧ (0 : Int) ≤ 18446744073709551615), by show _ = _; rw [val_zero, Int.zero_mul, Int.zero_add, HX.out], by show _ < _; rw [HX.out]; exact hXb, fun _ => hv2, by show _ = _; rw [val_zero]; exact Int.zero_emod _, HXS, hB2⟩
    case round =>
      clear hNr hN2 hO2 hB2 hv2 hk2 hf2 hg1lt hgq2 hXb c31 c20' c45
      obtain ⟨k, g1, k1, p1, g2, k2, p2, z1, z2, q, hk, rfl, rfl, rfl, hk1, hk2, hg1, hg2, hgq, hN1, hN2, hO, hqw, hv, hlt, hd, hmod, htr, hB⟩ := hrel
      by_cases h0 : k = 0
      · subst h0
        have hQN := hO.num hqw 0 (m0 + 1) (m0 + 1) (by omega) (Nat.le_refl _) (by unfold maxLen; omega)
        have c45 := trim_any _ (m0 + 1) (m0 + 1) _ _ (by omega) hQN
        have hle := sizeL_le (segW q 0 (m0 + 1)) (m0 + 1)
        have e1 : val (segW q 0 (m0 + 1)) (sizeL (segW q 0 (m0 + 1)) (m0 + 1)) = val q (m0 + 1) := by
          rw [val_bare]; exact val_congr _ fun i hi => by rw [segW_lt _ _ _ i hi, Nat.zero_add]
        have HFIN : Hid (val (segW q 0 (m0 + 1)) (sizeL (segW q 0 (m0 + 1)) (m0 + 1)) = X / Y ∧ val z1 k1 = X % Y) := by
          have h1 := hv.out
          have h2 := hlt.out
          rw [Int.pow_zero, Int.mul_one] at h2
          have := (Int.ediv_emod_unique hY0 (a := X) (r := val z1 k1) (q := val q (m0 + 1))).2 ⟨by rw [Int.mul_comm]; omega, (val_bd hN1.2.2.1 k1).1, h2⟩
          exact ⟨by rw [e1]; exact this.1.symm, this.2.symm⟩
        have HN1 : Hid (Num wr (some ⟨g1, 0, none⟩) k1 p1 z1) := hN1
        generalize segW q 0 (m0 + 1) = qz at *
        generalize sizeL qz (m0 + 1) = kq at *
        clear hQN hO hqw hv hlt hd hmod hN1 hN2 e1
        go_wp2_with (go_at_call 31; refine c45.mono ?_; rintro e w3 ⟨g3, p3, rfl, hN3, hB3⟩)
        go_ret2
        exact ⟨g3, kq, p3, qz, g1, k1, p1, z1, rfl, by omega, by omega, hN3, HN1.out.next hB3, HFIN.out.1, HFIN.out.2, hB.trans (hB3.mono hB.size), htr.out⟩
      · obtain ⟨j, rfl⟩ : ∃ j, k = j + 1 := ⟨k - 1, by omega⟩
        have ej : ((j + 1 : Nat) : Int) - 1 = j := by omega
        rw [ej]
        have hdv : val z2 k2 = Y * 2 ^ j := hd.out (by omega)
        have hT := p2_pos j
        have hdp : 0 < val z2 k2 := by rw [hdv]; exact Int.mul_pos hY0 hT
        have hk2p := pos_len hdp
        have c16 := rcmp_any _ _ k1 p1 k2 p2 z1 z2 wr (by omega) (by omega) hN1 hN2
        have HLT : Hid (val z1 k1 < Y * 2 ^ j * 2) := by show _ < _; have := hlt.out; rw [Int.pow_succ, ← Int.mul_assoc] at this; exact this
        have HMOD : Hid (val q (m0 + 1) % (2 ^ j * 2) = 0) := by show _ = _; have := hmod.out; rw [Int.pow_succ] at this; exact this
        have HMODF : Hid (val q (m0 + 1) % 2 ^ (j + 1) = 0) := hmod
        have HN' : Hid (∀ (z' : Nat → Int) (k' : Nat), (∀ V, val z2 k2 = V * 2 → val z' k' = V) → 0 < j → val z' k' = Y * 2 ^ (j - 1)) := fun z' k' hh hj => hh _ (by rw [hdv, Int.mul_assoc, ← Int.pow_succ]; congr 2; omega)
        have HJ : Hid (j ≤ N) := by show _ ≤ _; omega
        clear ej hd hlt hmod
        by_cases hge : Y * 2 ^ j ≤ val z1 k1
        · have hsg : 0 ≤ sgn (val z1 k1) (val z2 k2) := by unfold sgn; rw [if_neg (by omega)]; split <;> omega
          have c37 := frless_val _ _ k1 p1 k2 p2 z1 z2 wr (by omega) (by omega) hN1 hN2 (by rw [hdv]; exact hge)
          generalize sgn (val z1 k1) (val z2 k2) = sg at *
          obtain ⟨m, hmj⟩ : ∃ m : Nat, (j : Int) / 64 = m := ⟨j / 64, by omega⟩
          obtain ⟨r, hrj⟩ : ∃ r : Nat, (j : Int) % 64 = r := ⟨j % 64, by omega⟩
          have hr64 : r < 64 := by omega
          have hjm : j = 64 * m + r := by omega
          have hmm : m < m0 + 1 := by have := HJ.out; have := HM0.out; omega
          have hmi : (m : Int) < ((m0 + 1 : Nat) : Int) := by omega
          have hob := or_bit (hqw m) hr64 (word_mod hqw hmm (show r + 1 ≤ 64 by omega) (by have := HMODF.out; rw [hjm] at this; exact this))
          have HOR : Hid (bits BinOp.or IntKind.u64 (q m) (2 ^ r) = q m + 2 ^ r) := hob.1
          have hpr := p2_pos r
          have hpl := p2_le hr64
          have HQ2 : Hid (val (fun i => if i = m then q m + 2 ^ r else q i) (m0 + 1) = val q (m0 + 1) + 2 ^ j) := by
            show _ = _
            rw [val_set q m (q m + 2 ^ r) (m0 + 1) hmm]
            have e9 : (2 : Int) ^ j = 2 ^ r * 18446744073709551616 ^ m := by rw [p64, ← hjm]
            rw [e9]; congr 1; congr 1; omega
          have HQW2 : Hid (Words (fun i => if i = m then q m + 2 ^ r else q i)) := upd_words hqw ⟨by have := hqw m; omega, hob.2⟩
          have bq := hqw m
          have HO : Hid (Own gq (m0 + 1) q wr) := hO
          have HN2 : Hid (Num wr (some ⟨g2, 0, none⟩) k2 p2 z2) := hN2
          have hob2 := hob.2
          have HD : Hid (val z2 k2 = Y * 2 ^ j) := hdv
          clear hN1 hN2 hO hqw hob hjm HMODF
          go_wp2_with (first | (go_at_call 15; refine c16.mono ?_; rintro e w' ⟨rfl, rfl⟩) | (go_at_call 56; refine c37.mono ?_; rintro e w3 ⟨g3, k3, p3, z3, rfl, hk3, hN3, hv3, hb3, hf3, htr3⟩; have HT3 : Hid (sizeL z3 k3 = k3) := htr3; clear htr3; have hO3 := Below.own hb3 hgq HO.out; have hcq := hO3.cell m hmm; have hfq := hO3.frozen m))
          have hU3 : Upd gq w3 (w3.setCell ⟨gq, m, none⟩ (.int .u64 (bits BinOp.or IntKind.u64 (q m) (2 ^ r)))) := (Upd.refl gq w3).set m _
          have hO4 := hO3.set m (q m + 2 ^ r)
          rw [← HOR.out] at hO4
          have hN24 := hU3.num hg2 (HN2.out.next hb3)
          have hN34 := hU3.num (by omega) hN3
          have hB3 := (hB.trans (hb3.mono hB.size)).trans (hU3.below HGq.out)
          have hsz3 : w3.heap.size ≤ (w3.setCell ⟨gq, m, none⟩ (.int .u64 (bits BinOp.or IntKind.u64 (q m) (2 ^ r)))).heap.size := Nat.le_of_eq hU3.size.symm
          have hgq3 := hb3.size
          have c51 := half_any g2 k2 p2 z2 _ hk2p (by omega) hN24
          clear hO3 hN3 hN24 hU3 hb3
          generalize w3.setCell ⟨gq, m, none⟩ (.int .u64 (bits BinOp.or IntKind.u64 (q m) (2 ^ r))) = wS at *
          go_wp2_with (go_at_call 84; refine c51.mono ?_; rintro e w4 ⟨g4, k4, p4, bb, z4, rfl, hk4, hN4, hhf, hb4, hf4⟩)
          have hgS : gq < wS.heap.size := by omega
          go_roundw
          case rel =>
            refine ⟨j, g3, k3, p3, g4, k4, p4, z3, z4, fun i => if i = m then q m + 2 ^ r else q i, by have := HJ.out; omega, by go_num, rfl, rfl, by omega, by omega, by omega, by omega, by have := hb4.size; omega, hN34.next hb4, hN4, ?_, HQW2.out, ?_, ?_, fun hj => HN'.out z4 k4 hhf hj, ?_, HT3, hB3.trans (hb4.mono hB3.size)⟩
            · have := Below.own hb4 hgS hO4
              rw [HOR.out] at this
              exact this
            · show _ = _
              rw [HQ2.out, hv3, HD.out, Int.add_mul, Int.mul_comm (2 ^ j) Y]
              have := hv.out
              omega
            · show _ < _
              rw [hv3, HD.out]
              have := HLT.out
              omega
            · show _ = _
              rw [HQ2.out, Int.add_emod_right]
              exact mod_half HMOD.out
          case measure => simp [intOf]
        · have hs1 : sgn (val z1 k1) (val z2 k2) = -1 := by unfold sgn; rw [if_pos (by omega)]
          rw [hs1] at c16
          have c51 := half_any g2 k2 p2 z2 wr hk2p (by omega) hN2
          have HN1 : Hid (Num wr (some ⟨g1, 0, none⟩) k1 p1 z1) := hN1
          have HO : Hid (Own gq (m0 + 1) q wr) := hO
          have HQW : Hid (Words q) := hqw
          clear hN1 hN2 hO hqw hs1
          go_wp2_with (first | (go_at_call 15; refine c16.mono ?_; rintro e w' ⟨rfl, rfl⟩) | (go_at_call 84; refine c51.mono ?_; rintro e w4 ⟨g4, k4, p4, bb, z4, rfl, hk4, hN4, hhf, hb4, hf4⟩))
          go_roundw
          case rel => exact ⟨j, g1, k1, p1, g4, k4, p4, z1, z4, q, by have := HJ.out; omega, by go_num, rfl, rfl, hk1, by omega, hg1, by omega, by have := hb4.size; omega, HN1.out.next hb4, hN4, Below.own hb4 hgq HO.out, HQW.out, hv, by show _ < _; omega, fun hj => HN'.out z4 k4 hhf hj, mod_half HMOD.out, htr, hB.trans (hb4.mono hB.size)⟩
          case measure => simp [intOf]
end Go.Proofs.YtmommdhnogogdaaDoor

namespace Go.Proofs.YtmommdhnogogdaaDoor
open Go.RowKit

/-- the words of a number -/
def W4 (A : Nat) (i : Nat) : Int := ((A / 2 ^ (64 * i) % 18446744073709551616 : Nat) : Int)
/-- a number of four words -/
abbrev A4 (A : Nat) : Value := .agg #[.int .u64 (W4 A 0), .int .u64 (W4 A 1), .int .u64 (W4 A 2), .int .u64 (W4 A 3)]
theorem W4_words (A : Nat) : Words (W4 A) := fun i => by
  unfold W4
  have := Nat.mod_lt (A / 2 ^ (64 * i)) (show 0 < 18446744073709551616 by decide)
  omega
theorem p64n (n : Nat) : (18446744073709551616 : Int) ^ n = ((2 ^ (64 * n) : Nat) : Int) := by
  rw [Nat.pow_mul]
  simp
theorem W4_val (A : Nat) : ∀ n, val (W4 A) n = ((A % 2 ^ (64 * n) : Nat) : Int)
  | 0 => by simp [val, Nat.mod_one]
  | n + 1 => by
    show val (W4 A) n + W4 A n * 18446744073709551616 ^ n = _
    have e : A % 2 ^ (64 * (n + 1)) = A % 2 ^ (64 * n) + 2 ^ (64 * n) * (A / 2 ^ (64 * n) % 18446744073709551616) := by
      rw [show 64 * (n + 1) = 64 * n + 64 by omega, Nat.pow_add]
      exact Nat.mod_mul
    rw [W4_val A n, p64n, e]
    unfold W4
    rw [Int.natCast_add, Int.natCast_mul, Int.mul_comm]
theorem W4_val4 {A : Nat} (h : A < 2 ^ 256) : val (W4 A) 4 = A := by
  rw [W4_val, Nat.mod_eq_of_lt h]
theorem arr_eq {x y : Nat → Int} (hx : Words x) (hy : Words y) (h : val x 4 = val y 4) : arrOf x 4 = arrOf y 4 :=
  arrOf_congr (val_inj hx hy 4 h)
theorem arr_A4 {x : Nat → Int} (hx : Words x) {A : Nat} (h : val x 4 = ((A % 2 ^ 256 : Nat) : Int)) : Value.agg (arrOf x 4) = A4 A := by
  have e : arrOf x 4 = arrOf (W4 A) 4 := arr_eq hx (W4_words A) (by rw [h, W4_val])
  rw [e]; rfl
end Go.Proofs.YtmommdhnogogdaaDoor

namespace Go.Proofs.YtmommdhnogogdaaDoor
open Go.RowKit

section
variable {P : Program} {ops : Array Oper} {md : Region.Mode} {C : World → Prop}

/-- the first k of m have come up -/
def fdone (k m : Nat) : Array Bool := (List.replicate k true ++ List.replicate (m - k) false).toArray
theorem fdone_next {k m : Nat} (h : k < m) : (fdone k m).setIfInBounds k true = fdone (k + 1) m := by
  apply Array.ext
  · simp [fdone]; omega
  · intro i h1 h2
    have hi : i < m := by simp [fdone] at h2; omega
    simp only [fdone, List.setIfInBounds_toArray, List.getElem_toArray, List.getElem_set, List.getElem_append, List.length_replicate, List.getElem_replicate]
    split
    · subst_vars; simp
    · by_cases hk : i < k
      · simp [hk, show i < k + 1 by omega]
      · simp [hk, show ¬ i < k + 1 by omega]
/-- every one behind n waits for one between n and itself -/
def chainC (md : Region.Mode) (ops : Array Oper) (n : Nat) : Bool :=
  (List.range ops.size).all fun t => decide (t ≤ n) || (List.range t).any fun s => decide (n ≤ s) && Region.waitsFor md ops t s
theorem waits_sink {n : Nat} {done : Array Bool} (hs : Region.sinkB md ops n = true) (hn : n < ops.size) (inv : HeadInv md ops n done) :
    ∀ (d i : Nat), n - i = d → i < n → done.getD i true = false → n ∉ Region.ready md ops done := by
  intro d
  induction d using Nat.strongRecOn with
  | _ d ih =>
    intro i hd hi hun hr
    obtain ⟨_, ot, hot, hall⟩ := mem_ready.1 hr
    obtain ⟨j, hj, hj2⟩ := List.any_eq_true.1 (List.all_eq_true.1 hs i (List.mem_range.2 hi))
    simp only [Bool.and_eq_true, decide_eq_true_eq] at hj2
    obtain ⟨oj, hoj, e, he, hb, hon⟩ := Region.waitsFor_spec hj2.2
    have hjle : j ≤ n := by have := List.mem_range.1 hj; omega
    by_cases hjn : j = n
    · subst hjn
      obtain rfl : oj = ot := Option.some.inj (hoj.symm.trans hot)
      have h2 := hall e he hb
      rw [hon, getD_both hun] at h2
      cases h2
    · cases hl : done.getD j false with
      | true =>
        have h2 := inv.closed j oj hoj hl e he hb
        rw [hon, getD_both hun] at h2
        cases h2
      | false =>
        exact ih (n - j) (by omega) j rfl (by omega) (getD_in (by rw [inv.size]; omega) hl) hr
theorem waits_tail {n i : Nat} {done : Array Bool} (hs : Region.sinkB md ops n = true) (hc : chainC md ops n = true) (hn : n < ops.size) (inv : HeadInv md ops n done) (hi : i < n) (hun : done.getD i true = false) (t : Nat) (ht : n ≤ t) : t ∉ Region.ready md ops done := by
  intro hr
  by_cases htn : t = n
  · subst htn; exact waits_sink hs hn inv _ i rfl hi hun hr
  · obtain ⟨_, ot, hot, hall⟩ := mem_ready.1 hr
    have htlt : t < ops.size := (Array.getElem?_eq_some_iff.1 hot).1
    have h1 := List.all_eq_true.1 hc t (List.mem_range.2 htlt)
    simp only [Bool.or_eq_true, decide_eq_true_eq] at h1
    rcases h1 with h1 | h1
    · omega
    · obtain ⟨s, hsm, hs2⟩ := List.any_eq_true.1 h1
      simp only [Bool.and_eq_true, decide_eq_true_eq] at hs2
      obtain ⟨o', ho', e, he, hb, hon⟩ := Region.waitsFor_spec hs2.2
      obtain rfl : o' = ot := Option.some.inj (ho'.symm.trans hot)
      have hst := List.mem_range.1 hsm
      have h2 := hall e he hb
      rw [hon, getD_both (inv.tail s hs2.1 (by omega))] at h2
      cases h2

/-- what only hands values on -/
def wless : Op → Bool
  | .move _ => true
  | .assign _ => true
  | .extract _ _ => true
  | _ => false
theorem wless_run {o : Oper} {a : Act} {w : World} {K : Act → World → Prop} {Q : Exit → Act → World → Prop} (hk : wless o.op = true) (h : o.wp P a w K Q ∨ (o.asks P a w ∧ LetsOut Q)) :
    ∃ v, (∀ w, (execOp a.eval o).run P w = .ok (.value v) w) ∧ K (a.put o.dst v) w := by
  have key : ∀ v, execOp a.eval o = pure (.value v) → ∃ v, (∀ w, (execOp a.eval o).run P w = .ok (.value v) w) ∧ K (a.put o.dst v) w := by
    intro v hv
    rcases h with h | ⟨h, _⟩
    · refine ⟨v, fun w => by rw [hv]; rfl, ?_⟩
      unfold Oper.wp at h
      rw [hv] at h
      exact h
    · exfalso
      have h1 := h.1
      rw [hv] at h1
      have e : (Sem.runT P (pure (Next.value v)) w #[]).2 = #[] := rfl
      rw [e] at h1
      simp at h1
  cases hop : o.op <;> simp only [hop, wless, Bool.false_eq_true] at hk
  case move x => exact key (a.eval x) (by simp [execOp, hop])
  case assign x => exact key (a.eval x) (by simp [execOp, hop])
  case extract x ix =>
    have bad : ∀ st, execOp a.eval o = ((stuck st : Sem Value) >>= fun v => pure (Next.value v)) → False := by
      intro st hst
      rcases h with h | ⟨h, _⟩
      · unfold Oper.wp at h
        rw [hst] at h
        exact h
      · have h1 := h.1
        rw [hst] at h1
        have e : (Sem.runT P ((stuck st : Sem Value) >>= fun v => pure (Next.value v)) w #[]).2 = #[] := rfl
        rw [e] at h1
        simp at h1
    cases hx : a.eval x
    case tuple vs =>
      cases hv : vs[ix]? with
      | some v => exact key v (by simp [execOp, hop, Instr.extract, hx, hv])
      | none => exact (bad "Extract: no such component" (by simp only [execOp, hop, Instr.extract, hx, hv])).elim
    all_goals exact (bad "Extract: tuple expected" (by simp only [execOp, hop, Instr.extract, hx])).elim

/-- what is left comes up one by one, but for what only hands values on -/
def restB (md : Region.Mode) (ops : Array Oper) (n : Nat) : Bool :=
  Region.noSelect ops && (List.range (ops.size - n)).all (fun j => decide (Region.ready md ops (fdone (n + j) ops.size) = [n + j]) || ((Region.ready md ops (fdone (n + j) ops.size)).contains (n + j) && Region.free md ops (fdone (n + j) ops.size) (n + j) && ((ops[n + j]?).map fun o => wless o.op && o.guard.isNone).getD false)) && (Region.ready md ops (fdone ops.size ops.size)).isEmpty
theorem wpAny_rest {Q : Exit → Act → World → Prop} (hsel : Region.noSelect ops = true) (hQ : ∀ c a d v w, Q (.panic c) (Act.put a d v) w → Q (.panic c) a w) (hend : Region.ready md ops (fdone ops.size ops.size) = []) :
    ∀ (l : List Oper) (k : Nat) (a : Act) (w : World), (∀ j, l[j]? = ops[k + j]?) → k + l.length = ops.size →
    (∀ j, k ≤ j → j < ops.size → Region.ready md ops (fdone j ops.size) = [j] ∨ ((Region.ready md ops (fdone j ops.size)).contains j = true ∧ Region.free md ops (fdone j ops.size) j = true ∧ ∃ o, ops[j]? = some o ∧ wless o.op = true ∧ o.guard = none)) →
    wpList P ops Q l a w → wpAny P md ops Q l.length (fdone k ops.size) a w
  | [], k, a, w, _, hk, _, h => by
    have : k = ops.size := by simpa using hk
    subst this
    exact ⟨hend, h⟩
  | o :: l, k, a, w, hl, hk, hB, h => by
    have h0 : ops[k]? = some o := by simpa using (hl 0).symm
    have hks : k < ops.size := by simp only [List.length_cons] at hk; omega
    have hl' : ∀ j, l[j]? = ops[k + 1 + j]? := fun j => by have := hl (j + 1); simpa [Nat.add_assoc, Nat.add_comm 1 j] using this
    have hk' : k + 1 + l.length = ops.size := by simp only [List.length_cons] at hk; omega
    have ih := fun a w => wpAny_rest hsel hQ hend l (k + 1) a w hl' hk' (fun j h1 h2 => hB j (by omega) h2)
    rcases hB k (Nat.le_refl _) hks with hr | ⟨hr, hf, o', ho', hwl, hg⟩
    · refine ⟨fun h1 => (by rw [hr] at h1; cases h1), fun i hi => ?_⟩
      rw [hr] at hi
      obtain rfl : i = k := by simpa using hi
      rw [fdone_next hks]
      have hw : wpOp P ops Q i (wpList P ops Q l) a w := by unfold wpOp; simp only [h0]; exact h
      exact wpOp_mono (fun a' w' h' => ih a' w' h') hw
    · obtain rfl : o' = o := Option.some.inj (ho'.symm.trans h0)
      have hwt : Region.wanted o' (yielded ops a.tmps) = true := by unfold Region.wanted; rw [hg]
      unfold wpList at h
      rw [if_pos hwt] at h
      obtain ⟨v, hv, hK⟩ := wless_run hwl h
      refine wpAny_take h0 hsel hf hr (fun c a w => hQ c a _ v w) (Or.inl ⟨hwt, hv⟩) ?_
      rw [fdone_next hks]
      exact ih _ _ hK

end
end Go.Proofs.YtmommdhnogogdaaDoor

namespace Go.Proofs.YtmommdhnogogdaaDoor
open Go.RowKit

theorem lt_below {n g : Nat} {W W' : World} (hb : Below n W W') (h : g < W.heap.size) : g < W'.heap.size := Nat.lt_of_lt_of_le h hb.size
theorem bnext {w0 W W' : World} (h : Below w0.heap.size w0 W) (hb : Below W.heap.size W W') : Below w0.heap.size w0 W' := h.trans (hb.mono h.size)
end Go.Proofs.YtmommdhnogogdaaDoor
