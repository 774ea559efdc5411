/-
  What nat.Mul does: answers are new memory.
-/
import Derived.Test.YtcjbdmgaooojlaaDoorNmu
set_option linter.unusedVariables false
set_option linter.unusedSimpArgs false
set_option maxRecDepth 20000
namespace Go.Proofs.YtcjbdmgaooojlaaDoor
open Go.RowKit

set_option maxHeartbeats 2000000 in
theorem nmulF (a a' : Option Addr) (n c n' c' : Nat) (x y : Nat → Int) (w : World) (hn : n < 4000000000) (hn' : n' < 4000000000) (h : Num w a n c x) (h' : Num w a' n' c' y) (hs : sizeL x n + sizeL y n' ≤ 2000) :
    Calls Tryd.prog 34 #[.slice a n c, .slice a' n' c'] w fun e w' => ∃ g k cap z, e = .returned (.tuple #[.slice (some ⟨g, 0, none⟩) k cap, .int .i64 0]) ∧ k ≤ sizeL x n + sizeL y n' ∧ Num w' (some ⟨g, 0, none⟩) k cap z ∧ val z k = val x n * val y n' ∧ sizeL z k = k ∧ Below w.heap.size w w' ∧ w.heap.size ≤ g ∧ ∀ i, w'.frozen? ⟨g, i, none⟩ = false := by
  have hb := bare_any a n c x w (by omega) h
  have hb' := bare_any a' n' c' y w (by omega) h'
  rw [← val_bare n, ← val_bare n']
  have hx := h.2.2.1
  have hy := h'.2.2.1
  have hle := sizeL_le x n
  have hle' := sizeL_le y n'
  have hN := h.bare
  have hN' := h'.bare
  generalize sizeL x n = s at *
  generalize sizeL y n' = s' at *
  clear h h'
  obtain ⟨N, hNs⟩ : ∃ N, s + s' = N := ⟨_, rfl⟩
  have hNi : (s : Int) + s' = N := by omega
  have hmk := fun w => make_any ((s : Int) + s') N hNi (by omega) w
  have hN2 : (s : Int) + s' ≤ 2000 := by omega
  have HNS : Hid (s + s' = N) := hNs
  have hA := apart_of hN
  have hA' := apart_of hN'
  have hO := Own.new w (fun _ => 0) N
  have hBW := below1 w (.cells (arrOf (fun _ => 0) N) 37)
  have hnx := hN.next hBW
  have hny := hN'.next hBW
  have hap := fun wr z off hO hzw hU (hoff : off + s ≤ N) n hn => addProduct_any w.heap.size N off (N - off) (N - off) s c a z x n wr (by omega) (by omega) (by omega) hzw hn hO (Upd.num' (w := w.alloc (.cells (arrOf (fun _ => 0) N) 37)) hU hA hnx) hA
  have HBW : Hid (Below w.heap.size w (w.alloc (.cells (arrOf (fun _ => 0) N) 37))) := hBW
  clear hBW hN hN' hNi hNs
  go_enter Tryd.func34, Tryd.ntmps34
  go_wp2_with (first | (go_at_call_of 45 (Value.slice a n c); refine hb.mono ?_; rintro e w' ⟨rfl, rfl⟩) | (go_at_call_of 45 (Value.slice a' n' c'); refine hb'.mono ?_; rintro e w' ⟨rfl, rfl⟩))
  generalize w.alloc (.cells (arrOf (fun _ => 0) N) 37) = wA at *
  go_loopw [9, 10, 29] (fun u9 u10 i wr => ∃ (j : Nat) (z : Nat → Int), j ≤ s' ∧ i = .int .i64 j ∧ Own w.heap.size N z wr ∧ Words z ∧ (∀ q, s + j ≤ q → z q = 0) ∧ Hid (val z N = val x s * val y j) ∧ Upd w.heap.size wA wr) (fun _ _ i _ => s' - (intOf i).toNat)
  case atStart => exact ⟨0, fun _ => 0, Nat.zero_le _, rfl, hO, fun _ => (by decide : (0 : Int) ≤ 0 ∧ (0 : Int) ≤ 18446744073709551615), fun _ _ => rfl, by show _ = _; rw [val_zero]; simp [val], Upd.refl _ _⟩
  case round =>
    clear hO
    obtain ⟨j, z, hj, rfl, hO, hzw, hz0, hv, hU⟩ := hrel
    by_cases hlt : j < s'
    · have hji : (j : Int) < s' := by omega
      obtain ⟨b, off', rfl, hbb, hc⟩ := (hU.num' hA' hny).cells (by omega)
      have hcj := hc j hlt
      have hap1 := hap wr z j hO hzw hU (by have := HNS.out; omega) (y j) (hy j)
      have hjN : (j : Int) ≤ N := by have := HNS.out; omega
      have hjs : (j : Int) + s < N := by have := HNS.out; omega
      have e1 : ((j : Int) + s).toNat = j + s := by omega
      have HU : Hid (Upd w.heap.size wA wr) := hU
      have HZ0 : Hid (∀ q, s + j ≤ q → z q = 0) := hz0
      clear hO hU hc hzw hz0 hap hx hy hA hA' hnx hny
      go_wp2_with (go_at_call 52; refine hap1.mono ?_; rintro e w1 ⟨C, z1, rfl, hCb, hO1, hw1, hv1, hzx1, hU1⟩; have hc1 := hO1.cell (j + s) (by have := HNS.out; omega); have hf1 := hO1.frozen (j + s))
      go_roundw
      case rel =>
        have e2 : z1 (j + s) = 0 := by rw [hzx1 (j + s) (Nat.le_refl _)]; exact HZ0.out _ (by omega)
        refine ⟨j + 1, fun i => if i = j + s then C else z1 i, by omega, by go_num, hO1.set (j + s) C, upd_words hw1 hCb, ?_, ?_, (HU.out.trans hU1).set (j + s) _⟩
        · intro q hq
          exact (if_neg (show ¬ q = j + s by omega)).trans ((hzx1 q (by omega)).trans (HZ0.out q (by omega)))
        · show _ = _
          rw [val_set z1 (j + s) C N (by have := HNS.out; omega), e2, Int.sub_zero, hv1, hv.out]
          show _ = val x s * (val y j + y j * 18446744073709551616 ^ j)
          generalize (18446744073709551616 : Int) ^ j = P
          grind
      case measure => simp [intOf]; omega
    · obtain rfl : j = s' := by omega
      have hN2' := hO.num hzw 0 N N (by omega) (Nat.le_refl _) (by unfold maxLen; have := HNS.out; omega)
      have hbr := bare_any (some ⟨w.heap.size, 0, none⟩) N N (segW z 0 N) wr (by have := HNS.out; omega) hN2'
      have HN2 : Hid (Num wr (some ⟨w.heap.size, 0, none⟩) (sizeL (segW z 0 N) N) N (segW z 0 N)) := hN2'.bare
      have HV2 : Hid (val (segW z 0 N) (sizeL (segW z 0 N) N) = val x s * val y j) := by
        show _ = _
        rw [val_bare, val_congr (x := segW z 0 N) (y := z) N fun i hi => by rw [segW_lt _ 0 N i hi, Nat.zero_add], hv.out]
      have HS2 : Hid (sizeL (segW z 0 N) (sizeL (segW z 0 N) N) = sizeL (segW z 0 N) N) := sizeL_sizeL _ _
      have HLE : Hid (sizeL (segW z 0 N) N ≤ N) := sizeL_le _ _
      generalize segW z 0 N = z2 at *
      generalize sizeL z2 N = k at *
      have HF2 : Hid (∀ i, wr.frozen? ⟨w.heap.size, i, none⟩ = false) := fun i => hO.frozen i
      have HB2 : Hid (Below w.heap.size w wr) := HBW.out.trans (hU.below (Nat.le_refl _))
      clear hO hU hN2' hx hy hzw hz0 hap hA hA' hnx hny
      go_wp2_with (go_at_call 45; refine hbr.mono ?_; rintro e w3 ⟨rfl, rfl⟩)
      go_ret2
      exact ⟨_, k, N, z2, rfl, by rw [HNS.out]; exact HLE.out, HN2.out, HV2.out, HS2.out, HB2.out, Nat.le_refl _, HF2.out⟩
end Go.Proofs.YtcjbdmgaooojlaaDoor
