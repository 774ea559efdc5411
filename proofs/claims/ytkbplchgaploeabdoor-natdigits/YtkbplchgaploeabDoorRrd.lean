/-
  What the document's Number and Read do: contracts.
-/
import Derived.Test.YtkbplchgaploeabDoorNrd
set_option linter.unusedVariables false
set_option linter.unusedSimpArgs false
namespace Go.Proofs.YtkbplchgaploeabDoor
open Go.RowKit

theorem num_empty (w : World) : Num (w.alloc (.cells #[] 34)) (some ⟨w.heap.size, 0, none⟩) 0 0 (fun _ => 0) :=
  ⟨Nat.le_refl _, by unfold maxLen; omega, fun _ => (by decide : (0 : Int) ≤ 0 ∧ (0 : Int) ≤ 18446744073709551615), fun _ _ => rfl, Or.inr ⟨_, 0, rfl, by simp, fun i hi => by omega⟩⟩
set_option maxRecDepth 20000 in
set_option maxHeartbeats 2000000 in
theorem number_any (s : ByteArray) (w : World) (hd : isDigB s = true) (hl : s.size ≤ 12000) :
    Calls Tryd.prog 23 #[.string s] w fun e w' => ∃ g k cap z, e = .returned (.slice (some ⟨g, 0, none⟩) k cap) ∧ k ≤ 36000 ∧ Num w' (some ⟨g, 0, none⟩) k cap z ∧ val z k = numV s s.size ∧ Below w.heap.size w w' := by
  have hl' : (s.size : Int) ≤ 12000 := by omega
  have hdig : ∀ k, k < s.size → 48 ≤ sb s k ∧ sb s k ≤ 57 := by
    unfold isDigB at hd; simp at hd; exact digB_at s.size hd.1
  have HDG : Hid (∀ k, k < s.size → 48 ≤ sb s k ∧ sb s k ≤ 57) := hdig
  have HN0 := num_empty w
  have HB0 := below1 w (.cells #[] 34)
  clear hd hdig
  go_enter Tryd.func23, Tryd.ntmps23
  go_wp2
  generalize w.alloc (.cells #[] 34) = wA at *
  go_loopw [3, 4, 5, 6] (fun t3 t4 u5 u6 wr => ∃ (p n c g : Nat) (z : Nat → Int), p ≤ s.size ∧ t3 = .slice (some ⟨g, 0, none⟩) n c ∧ t4 = .int .i64 p ∧ n ≤ 3 * p ∧ Num wr (some ⟨g, 0, none⟩) n c z ∧ val z n = numV s p ∧ Below w.heap.size w wr) (fun _ i _ _ _ => s.size - (intOf i).toNat)
  case atStart => exact ⟨0, 0, 0, _, fun _ => 0, Nat.zero_le _, rfl, rfl, Nat.le_refl _, HN0, rfl, HB0⟩
  case round =>
    clear HN0 HB0
    obtain ⟨p, n, c, g, z, hp, rfl, rfl, hnp, hN, hv, hB⟩ := hrel
    by_cases hlt : p < s.size
    · have hpi : (p : Int) < s.size := by omega
      have HN : Hid (Num wr (some ⟨g, 0, none⟩) n c z) := hN
      have HV : Hid (val z n = numV s p) := hv
      have HB : Hid (Below w.heap.size w wr) := hB
      clear hN hv hB
      go_wp2
      go_loop [4, 5, 6] (fun t4 t5 t6 => ∃ (q : Nat) (S b : Int), p + q ≤ s.size ∧ q ≤ 18 ∧ t4 = .int .i64 ((p + q : Nat) : Int) ∧ t5 = .int .u64 b ∧ t6 = .int .u64 S ∧ Hid (S = 10 ^ q ∧ numV s (p + q) = numV s p * S + b) ∧ 0 ≤ b ∧ b < S) (fun i _ _ => s.size - (intOf i).toNat)
      case atStart => exact ⟨0, 1, 0, by omega, by omega, rfl, rfl, rfl, ⟨by simp, by simp⟩, by decide, by decide⟩
      case round =>
        obtain ⟨q, S, b, hpq, hq, rfl, rfl, rfl, hSb, hb0, hbS⟩ := hrel
        have hS18 : S ≤ 1000000000000000000 := by
          have := p10_le hq
          rw [← hSb.out.1] at this
          exact this
        by_cases hgo : p + q < s.size ∧ q < 18
        · obtain ⟨hgo1, hgo2⟩ := hgo
          have hki : ((p + q : Nat) : Int) < s.size := by omega
          have hS17 : S ≤ 100000000000000000 := by
            have := p10_le (show q ≤ 17 by omega)
            rw [← hSb.out.1] at this
            exact this
          have hsb := sb_lt hgo1
          have hbd := HDG.out (p + q) hgo1
          have HSB : Hid (10 * S = 10 ^ (q + 1) ∧ numV s (p + (q + 1)) = numV s p * (10 * S) + (10 * b + (sb s (p + q) - 48))) := by
            show _ ∧ _
            obtain ⟨e1, e2⟩ := hSb.out
            refine ⟨by rw [e1, Int.pow_succ]; omega, ?_⟩
            rw [← Nat.add_assoc]
            simp only [numV]
            rw [e2]; grind
          have HPQ : Hid ((p + q : Nat) + 1 = p + (q + 1)) := rfl
          clear hSb
          generalize p + q = r at *
          go_wp2
          go_round
          case rel => exact ⟨q + 1, 10 * S, 10 * b + (sb s r - 48), by have := HPQ.out; omega, by omega, by rw [← HPQ.out]; go_num, by go_num, by go_num, HSB.out, by omega, by omega⟩
          case measure => simp [intOf]; omega
        · have hstop : ((p + q : Nat) : Int) < s.size → S = 1000000000000000000 := fun h => by
            have : q = 18 := by omega
            rw [hSb.out.1, this]; rfl
          have hq0 : 0 < q := by omega
          have hN1 := num_one wr S (by omega)
          have hT := times_raw g 0 n c wr.heap.size 0 1 1 z (oneW S) (wr.alloc (.cells #[.int .u64 S] 34)) (by omega) (by omega) (HN.out.next (below1 wr _)) hN1
          have HB1 : Hid (Below w.heap.size w (wr.alloc (.cells #[.int .u64 S] 34))) := HB.out.trans ((below1 wr _).mono HB.out.size)
          have HSV : Hid (numV s (p + q) = val z n * S + b) := by show _ = _; rw [hSb.out.2, HV.out]
          have HQ : Hid (0 < q ∧ q ≤ 18) := ⟨hq0, hq⟩
          have hpr : p < p + q := by omega
          have hnr : n + 3 ≤ 3 * (p + q) := by omega
          have hA := fun (w1 : World) (g1 k1 c1 : Nat) (z1 : Nat → Int) (hk1 : k1 ≤ n + 1 + 1) (h1 : Num w1 (some ⟨g1, 0, none⟩) k1 c1 z1) => radd_val (some ⟨g1, 0, none⟩) (some ⟨w1.heap.size, 0, none⟩) k1 c1 1 1 z1 (oneW b) (w1.alloc (.cells #[.int .u64 b] 34)) (by omega) (by omega) (h1.next (below1 w1 _)) (num_one w1 b (by omega))
          clear hSb hgo hN1 hq hq0
          generalize p + q = r at *
          by_cases hrs : r < s.size
          · have hri : (r : Int) < s.size := by omega
            have hS := hstop hri
            subst hS
            go_wp2_with (first | (go_at_call 39; refine hT.mono ?_; rintro e w1 ⟨g1, k1, c1, z1, rfl, hk1, hN1, hv1, hB1⟩; clear hT; have hA1 := hA w1 g1 k1 c1 z1 (by omega) hN1; clear hA) | (go_at_call 38; refine hA1.mono ?_; rintro e w2 ⟨g2, k2, c2, z2, rfl, hk2, hN2, hv2, hB2⟩; clear hA1))
            go_roundw
            case rel =>
              refine ⟨r, k2, c2, g2, z2, hpq, rfl, rfl, by omega, hN2, ?_, ?_⟩
              · rw [hv2, HSV.out, val_one _ 1 (by omega), ← val_more hN1.2.2.2.1 (n + 1 + 1) hk1, hv1, val_one _ 1 (by omega)]
              · have b1 := HB1.out.trans (hB1.mono HB1.out.size)
                have b2 := b1.trans ((below1 w1 (.cells #[.int .u64 b] 34)).mono b1.size)
                exact b2.trans (hB2.mono b2.size)
            case measure => simp [intOf]; omega
          · obtain rfl : r = s.size := by omega
            clear hstop
            go_wp2_with (first | (go_at_call 39; refine hT.mono ?_; rintro e w1 ⟨g1, k1, c1, z1, rfl, hk1, hN1, hv1, hB1⟩; clear hT; have hA1 := hA w1 g1 k1 c1 z1 (by omega) hN1; clear hA) | (go_at_call 38; refine hA1.mono ?_; rintro e w2 ⟨g2, k2, c2, z2, rfl, hk2, hN2, hv2, hB2⟩; clear hA1))
            go_roundw
            case rel =>
              refine ⟨s.size, k2, c2, g2, z2, Nat.le_refl _, rfl, rfl, by omega, hN2, ?_, ?_⟩
              · rw [hv2, HSV.out, val_one _ 1 (by omega), ← val_more hN1.2.2.2.1 (n + 1 + 1) hk1, hv1, val_one _ 1 (by omega)]
              · have b1 := HB1.out.trans (hB1.mono HB1.out.size)
                have b2 := b1.trans ((below1 w1 (.cells #[.int .u64 b] 34)).mono b1.size)
                exact b2.trans (hB2.mono b2.size)
            case measure => simp [intOf]; omega
    · obtain rfl : p = s.size := by omega
      have HN : Hid (Num wr (some ⟨g, 0, none⟩) n c z) := hN
      have HV : Hid (val z n = numV s s.size) := hv
      have HB : Hid (Below w.heap.size w wr) := hB
      clear hN hv hB
      go_wp2
      go_ret
      exact ⟨g, n, c, z, rfl, by omega, HN.out, HV.out, HB.out⟩
set_option maxHeartbeats 400000 in
theorem rread_form (s : ByteArray) (w : World) (hs : s.size < 4294967296) (hd : isDigB s = false) :
    Calls Tryd.prog 9 #[.string s] w fun e w' => e = .returned (.tuple #[.slice none 0 0, .int .i64 2]) ∧ w = w' := by
  have ha := isDigits_any s w hs
  rw [hd] at ha
  go_enter Tryd.func9, Tryd.ntmps9
  go_wp2_with (go_at_call 22; refine ha.mono ?_; rintro e w' ⟨rfl, rfl⟩)
  go_ret2
  exact ⟨rfl, rfl⟩
set_option maxHeartbeats 400000 in
theorem rread_long (s : ByteArray) (w : World) (hs : s.size < 4294967296) (hd : isDigB s = true) (hl : 12000 < s.size) :
    Calls Tryd.prog 9 #[.string s] w fun e w' => e = .returned (.tuple #[.slice none 0 0, .int .i64 4]) ∧ w = w' := by
  have ha := isDigits_any s w hs
  rw [hd] at ha
  have hl' : (12000 : Int) < s.size := by omega
  go_enter Tryd.func9, Tryd.ntmps9
  go_wp2_with (go_at_call 22; refine ha.mono ?_; rintro e w' ⟨rfl, rfl⟩)
  go_ret2
  exact ⟨rfl, rfl⟩
set_option maxHeartbeats 400000 in
theorem rread_ok (s : ByteArray) (w : World) (hd : isDigB s = true) (hl : s.size ≤ 12000) :
    Calls Tryd.prog 9 #[.string s] w fun e w' => ∃ g k cap z, e = .returned (.tuple #[.slice (some ⟨g, 0, none⟩) k cap, .int .i64 0]) ∧ k ≤ 36000 ∧ Num w' (some ⟨g, 0, none⟩) k cap z ∧ val z k = numV s s.size ∧ Below w.heap.size w w' := by
  have ha := isDigits_any s w (by omega)
  rw [hd] at ha
  have hn := number_any s w hd hl
  have hl' : (s.size : Int) ≤ 12000 := by omega
  clear hd
  go_enter Tryd.func9, Tryd.ntmps9
  go_wp2_with (first | (go_at_call 22; refine ha.mono ?_; rintro e w' ⟨rfl, rfl⟩) | (go_at_call 23; refine hn.mono ?_; rintro e w1 ⟨g1, k1, c1, z1, rfl, hk1, hN1, hv1, hB1⟩))
  go_ret2
  exact ⟨g1, k1, c1, z1, rfl, hk1, hN1, hv1, hB1⟩
theorem rread_all (s : ByteArray) (w : World) (hs : s.size < 4294967296) :
    Calls Tryd.prog 9 #[.string s] w fun e w' => ∃ o k cap z, e = .returned (.tuple #[.slice o k cap, .int .i64 (readE s)]) ∧ k ≤ 36000 ∧ Num w' o k cap z ∧ val z k = readV s ∧ Below w.heap.size w w' := by
  by_cases hd : isDigB s = true
  · by_cases hl : 12000 < s.size
    · refine (rread_long s w hs hd hl).mono fun e w' hw => ⟨none, 0, 0, _, ?_, Nat.zero_le _, num_none w', ?_, hw.2 ▸ Below.refl _ _⟩
      · rw [hw.1]; unfold readE; rw [if_pos hd, if_pos hl]
      · unfold readV; rw [if_pos hd, if_pos hl]; rfl
    · refine (rread_ok s w hd (by omega)).mono fun e w' ⟨o, k, cap, z, e1, hk, hN, hv, hB⟩ => ⟨_, k, cap, z, ?_, hk, hN, ?_, hB⟩
      · rw [e1]; unfold readE; rw [if_pos hd, if_neg hl]
      · unfold readV; rw [if_pos hd, if_neg hl]; exact hv
  · refine (rread_form s w hs (by simpa using hd)).mono fun e w' hw => ⟨none, 0, 0, _, ?_, Nat.zero_le _, num_none w', ?_, hw.2 ▸ Below.refl _ _⟩
    · rw [hw.1]; unfold readE; rw [if_neg hd]
    · unfold readV; rw [if_neg hd]; rfl
end Go.Proofs.YtkbplchgaploeabDoor
