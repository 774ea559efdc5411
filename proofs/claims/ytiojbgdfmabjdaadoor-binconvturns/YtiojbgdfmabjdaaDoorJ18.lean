/-
  Texts that the proof leans on.
-/
import Derived.Test.YtiojbgdfmabjdaaDoorJ17
set_option linter.unusedVariables false
set_option linter.unusedSimpArgs false
set_option linter.unusedSectionVars false
set_option maxRecDepth 20000
namespace Go.Proofs.YtiojbgdfmabjdaaDoor
open Go.RowKit
section
/-- the words of z, from off on k of y's that are shifted by r laid over them -/
def upZ (z y : Nat → Int) (r off k j : Nat) : Int := if off ≤ j ∧ j < off + k then shW y r (j - off) else z j
theorem upZ_next (z y : Nat → Int) (r off k j : Nat) : (if j = off + k then shW y r k else upZ z y r off k j) = upZ z y r off (k + 1) j := by
  unfold upZ
  by_cases e : j = off + k
  · subst e
    rw [if_pos rfl, if_pos (by omega)]; congr 1; omega
  · rw [if_neg e]
    by_cases e2 : off ≤ j ∧ j < off + k
    · rw [if_pos e2, if_pos (by omega)]
    · rw [if_neg e2, if_neg (by omega)]

set_option maxHeartbeats 1000000 in
theorem shiftUp_any (g N off m c k c' r : Nat) (a' : Option Addr) (z y : Nat → Int) (w : World) (hm : off + m ≤ N) (hN : N < 4294967296) (hk : k < m) (hr : r < 64) (h : Own g N z w) (h' : Num w a' k c' y) (hA : Apart a' g) :
    Calls Tryd.prog 75 #[.slice (some ⟨g, off, none⟩) m c, .slice a' k c', .int .i64 r] w fun e w' => e = .returned (.tuple #[]) ∧ Own g N (upZ z y r off (k + 1)) w' ∧ Upd g w w' := by
  have hy := h'.2.2.1
  have hri : (r : Int) < 64 := by omega
  have e64 : ((64 : Int) - r).toNat = 64 - r := by omega
  have hk0 := h'.2.2.2.1 k (Nat.le_refl _)
  go_enter Tryd.func75, Tryd.ntmps75
  go_wp2
  go_loopw [6, 7, 8, 11] (fun cv u7 u8 i wr => ∃ (j : Nat), j ≤ k ∧ i = .int .i64 j ∧ cv = .int .u64 (prevW y r j) ∧ Own g N (upZ z y r off j) wr ∧ Upd g w wr) (fun _ _ _ i _ => k - (intOf i).toNat)
  case atStart => exact ⟨0, Nat.zero_le _, rfl, rfl, h.congr fun i _ => by unfold upZ; rw [if_neg (by omega)], Upd.refl _ _⟩
  case round =>
    obtain ⟨j, hj, rfl, rfl, hO, hU⟩ := hrel
    have hpb := prevW_word hy hr j
    by_cases hlt : j < k
    · have hji : (j : Int) < k := by omega
      have hjm : (j : Int) < m := by omega
      obtain ⟨b, off', rfl, hb, hc⟩ := (hU.num' hA h').cells (by omega)
      have hcj := hc j hlt
      have hco : ∃ u, wr.cell? ⟨g, off + j, none⟩ = some (.int .u64 u) := ⟨_, hO.cell (off + j) (by omega)⟩
      obtain ⟨u, hco⟩ := hco
      have hfo := hO.frozen (off + j)
      have b_y := hy j
      have HP : Hid (prevW y r (j + 1) = y j / 2 ^ (64 - r)) := by show _ = _; rw [hiW_eq _ (by omega)]; rfl
      have HS : Hid (bits BinOp.or IntKind.u64 (IntKind.u64.wrap (y j * 2 ^ r)) (prevW y r j) = shW y r j) := by
        show _ = _
        rw [← shW_or hy hr j]
        exact orW_comm _ _ (wrap_word _) hpb
      have HO : Hid (Own g N (upZ z y r off (j + 1)) (wr.setCell ⟨g, off + j, none⟩ (.int .u64 (shW y r j)))) := (hO.set (off + j) _).congr fun i _ => upZ_next z y r off j i
      have HU : Hid (Upd g w (wr.setCell ⟨g, off + j, none⟩ (.int .u64 (shW y r j)))) := hU.set (off + j) _
      rw [← HS.out] at HO HU
      clear hO hU hc h h' hA hy hk0 HS
      generalize prevW y r j = pv at *
      go_wp2
      go_roundw
      case rel => exact ⟨j + 1, by omega, by go_num, by rw [HP.out], HO.out, HU.out⟩
      case measure => simp [intOf]; omega
    · obtain rfl : j = k := by omega
      have hjm : (j : Int) < m := by omega
      have hco : ∃ u, wr.cell? ⟨g, off + j, none⟩ = some (.int .u64 u) := ⟨_, hO.cell (off + j) (by omega)⟩
      obtain ⟨u, hco⟩ := hco
      have hfo := hO.frozen (off + j)
      have e1 : shW y r j = prevW y r j := by unfold shW; rw [hk0]; simp
      have HO : Hid (Own g N (upZ z y r off (j + 1)) (wr.setCell ⟨g, off + j, none⟩ (.int .u64 (prevW y r j)))) := (hO.set (off + j) _).congr fun i _ => by rw [← e1]; exact upZ_next z y r off j i
      have HU : Hid (Upd g w (wr.setCell ⟨g, off + j, none⟩ (.int .u64 (prevW y r j)))) := hU.set (off + j) _
      clear hO hU h h' hA hy hk0 e1
      generalize prevW y r j = pv at *
      go_wp2
      go_end0
      exact ⟨rfl, HO.out, HU.out⟩

theorem bare_own {g N c : Nat} {z : Nat → Int} {w : World} {V : Int} (hO : Own g N z w) (hW : Words z) (hN : N < 4000000000) (hc : N ≤ c) (hc2 : c ≤ maxLen) (hv : val z N = V) :
    ∃ k z', k ≤ N ∧ Num w (some ⟨g, 0, none⟩) k c z' ∧ val z' k = V ∧ sizeL z' k = k ∧ Calls Tryd.prog 65 #[.slice (some ⟨g, 0, none⟩) N c] w fun e w' => e = .returned (.slice (some ⟨g, 0, none⟩) k c) ∧ w = w' := by
  have h := hO.num hW 0 N c (by omega) hc hc2
  refine ⟨sizeL (segW z 0 N) N, segW z 0 N, sizeL_le _ _, h.bare, ?_, sizeL_sizeL _ _, bare_any _ N c _ w (by omega) h⟩
  rw [val_bare, val_congr (x := segW z 0 N) (y := z) N fun i hi => by rw [segW_lt _ 0 N i hi, Nat.zero_add], hv]

set_option maxRecDepth 20000 in
set_option maxHeartbeats 1000000 in
theorem nshl_any (a : Option Addr) (n c : Nat) (x : Nat → Int) (d : Int) (w : World) (hn : n < 4000000000) (h : Num w a n c x) (hd : 0 ≤ d) (hs : (sizeL x n : Int) + (d + 63) / 64 ≤ 2000) :
    Calls Tryd.prog 62 #[.slice a n c, .int .i64 d] w fun e w' => ∃ g k cap z, e = .returned (.tuple #[.slice (some ⟨g, 0, none⟩) k cap, .int .i64 0]) ∧ k ≤ 2001 ∧ Num w' (some ⟨g, 0, none⟩) k cap z ∧ val z k = val x n * 2 ^ d.toNat ∧ sizeL z k = k ∧ Below w.heap.size w w' := by
  have hb := bare_any a n c x w (by omega) h
  rw [← val_bare n]
  have hx := h.2.2.1
  have hle := sizeL_le x n
  have hN := h.bare
  generalize sizeL x n = s at *
  clear h
  obtain ⟨q, hq⟩ : ∃ q : Nat, d / 64 = q := ⟨(d / 64).toNat, by omega⟩
  obtain ⟨r, hr⟩ : ∃ r : Nat, d % 64 = r := ⟨(d % 64).toNat, by omega⟩
  have hr64 : r < 64 := by omega
  have hdn : d.toNat = 64 * q + r := by omega
  rw [hdn]
  obtain ⟨N, hNs⟩ : ∃ N, s + q + 1 = N := ⟨_, rfl⟩
  have hNi : (s : Int) + q + 1 = N := by omega
  have hq2 : (q : Int) ≤ 2000 := by omega
  have hmk := fun w => make_any ((s : Int) + q + 1) N hNi (by omega) w
  have hA := apart_of hN
  have hO := Own.new w (fun _ => 0) N
  have hBW := below1 w (.cells (arrOf (fun _ => 0) N) 22)
  have hsu := shiftUp_any w.heap.size N q (N - q) (N - q) s c r a (fun _ => 0) x _ (by omega) (by omega) (by omega) hr64 hO (hN.next hBW) hA
  have hqN : (q : Int) ≤ N := by omega
  have HVL : Hid (val (upZ (fun _ => 0) x r q (s + 1)) N = val x s * 2 ^ (64 * q + r)) := by
    show _ = _
    rw [← hNs, show s + q + 1 = q + (s + 1) by omega]
    rw [val_congr (y := upW (shW x r) q) (q + (s + 1)) fun i hi => by
      unfold upZ upW
      by_cases e : q ≤ i
      · rw [if_pos (by omega), if_pos e]
      · rw [if_neg (by omega), if_neg e]]
    rw [val_up, sh_end hN.2.2.2.1 r (s + 1) (by omega), Int.mul_assoc, p64]
  have HW : Hid (Words (upZ (fun _ => 0) x r q (s + 1))) := fun i => by
    unfold upZ; split
    · exact shW_words hx hr64 _
    · exact (by decide : (0 : Int) ≤ 0 ∧ (0 : Int) ≤ 18446744073709551615)
  generalize hz : upZ (fun _ => 0) x r q (s + 1) = zz at *
  have HB : Hid (Below w.heap.size w (w.alloc (.cells (arrOf (fun _ => 0) N) 22))) := hBW
  have HNS : Hid (N ≤ 2001) := by show _ ≤ _; omega
  have hup : (s : Int) + q ≤ 2000 := by omega
  have hup2 : 0 < r → (s : Int) + (q + 1) ≤ 2000 := by omega
  clear hBW hN hA hO hNi hz hs hdn hx
  by_cases hr0 : 0 < r
  · have hr0' : (0 : Int) < r := by omega
    have hu := hup2 hr0
    clear hup2
    go_enter Tryd.func62, Tryd.ntmps62
    go_wp2_with (first | (go_at_call_of 65 (Value.slice a n c); refine hb.mono ?_; rintro e w' ⟨rfl, rfl⟩) | (go_at_call 75; refine hsu.mono ?_; rintro e w1 ⟨rfl, hO1, hU1⟩))
    obtain ⟨k, z', hkN, hNk, hvk, hsk, hbr⟩ := bare_own hO1 HW.out (by have := HNS.out; omega) (Nat.le_refl N) (by unfold maxLen; have := HNS.out; omega) HVL.out
    have HB2 : Hid (Below w.heap.size w w1) := HB.out.trans (hU1.below (Nat.le_refl _))
    have HNk : Hid (Num w1 (some ⟨w.heap.size, 0, none⟩) k N z') := hNk
    clear hO1 hU1 hNk
    go_wp2_with (go_at_call 65; refine hbr.mono ?_; rintro e w3 ⟨rfl, rfl⟩)
    go_ret2
    exact ⟨_, k, N, z', rfl, by have := HNS.out; omega, HNk.out, hvk, hsk, HB2.out⟩
  · obtain rfl : r = 0 := by omega
    clear hup2
    go_enter Tryd.func62, Tryd.ntmps62
    go_wp2_with (first | (go_at_call_of 65 (Value.slice a n c); refine hb.mono ?_; rintro e w' ⟨rfl, rfl⟩) | (go_at_call 75; refine hsu.mono ?_; rintro e w1 ⟨rfl, hO1, hU1⟩))
    obtain ⟨k, z', hkN, hNk, hvk, hsk, hbr⟩ := bare_own hO1 HW.out (by have := HNS.out; omega) (Nat.le_refl N) (by unfold maxLen; have := HNS.out; omega) HVL.out
    have HB2 : Hid (Below w.heap.size w w1) := HB.out.trans (hU1.below (Nat.le_refl _))
    have HNk : Hid (Num w1 (some ⟨w.heap.size, 0, none⟩) k N z') := hNk
    clear hO1 hU1 hNk
    go_wp2_with (go_at_call 65; refine hbr.mono ?_; rintro e w3 ⟨rfl, rfl⟩)
    go_ret2
    exact ⟨_, k, N, z', rfl, by have := HNS.out; omega, HNk.out, hvk, hsk, HB2.out⟩
end
section
attribute [local go_sem] setCell_drewN alloc_drewN

/-- whether a bit goes out that is 1 -/
def goneB (x : Nat → Int) (q r : Nat) : Bool := decide (0 < sizeL x q) || decide (x q % 2 ^ r ≠ 0)
theorem and_mask {y : Int} {r : Nat} (hy : 0 ≤ y ∧ y ≤ 18446744073709551615) (hr : r < 64) : bits BinOp.and IntKind.u64 y (2 ^ r - 1) = y % 2 ^ r := by
  have h1 := p2_pos r
  have h2 := p2_le hr
  rw [u64_and _ _ hy.1 (by omega) (by omega) (by omega)]
  obtain ⟨n, rfl⟩ := Int.eq_ofNat_of_zero_le hy.1
  have e : ((2 : Int) ^ r - 1).toNat = 2 ^ r - 1 := by rw [← powCast]; omega
  rw [e, Int.toNat_natCast, Nat.and_two_pow_sub_one_eq_mod, Int.natCast_emod, powCast]
end
end Go.Proofs.YtiojbgdfmabjdaaDoor
