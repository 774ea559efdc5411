/-
  What prepare does: a contract.
-/
import Derived.Test.YtcjbdmgaooojlaaDoorPob
import Derived.Test.YtcjbdmgaooojlaaDoorOnc
import Derived.Test.YtcjbdmgaooojlaaDoorNpf
import Derived.Test.YtcjbdmgaooojlaaDoorNsf
import Derived.Deep.RegionWith
set_option linter.unusedVariables false
set_option linter.unusedSimpArgs false
set_option maxRecDepth 20000
namespace Go.Proofs.YtcjbdmgaooojlaaDoor
open Go.RowKit

def pbase (n : Int) : Int := if baseN n = 2 then 5 else 10
/-- the greatest coefficient, in blocks from base on -/
def Gre (base : Nat) (n : Int) (gr : Value) (w : World) : Prop :=
  ∃ b k c z, gr = .slice (some ⟨b, 0, none⟩) k c ∧ Num w (some ⟨b, 0, none⟩) k c z ∧ val z k = baseN n ^ (precN n).toNat - 1 ∧ k ≤ 2001 ∧ sizeL z k = k ∧ base ≤ b
theorem Gre.keep {base g : Nat} {n : Int} {gr : Value} {w w' : World} (h : Gre base n gr w) (hk : w.grownBy w' (some g)) (hg : g < base) : Gre base n gr w' := by
  obtain ⟨b, k, c, z, e, hN, hv, h1, h2, h3⟩ := h
  exact ⟨b, k, c, z, e, num_row hN hk (by intro q; cases q; omega), hv, h1, h2, h3⟩
theorem base_two_ten {n : Int} (h : okN n) : baseN n = 2 ∨ baseN n = 10 := by
  rcases okN_cases h with rfl | rfl | rfl | rfl | rfl | rfl | rfl | rfl | rfl | rfl | rfl | rfl <;> decide
theorem pow2_le {i : Nat} (h : i < 14) : 2 ^ i ≤ 8192 := by
  have : 2 ^ i ≤ 2 ^ 13 := Nat.pow_le_pow_right (by decide) (by omega)
  simpa using this
theorem Tryd.info43 : (Tryd.prog.info? 43).map (fun i => (i.zero, i.size, i.bytes)) = some (some (.slice none 0 0), 1, 24) := by kernel_rfl

theorem keep_row {g : Nat} {a b c : World} {row : Option Nat} (h : a.grownBy b (some g)) (k : b.grownBy c row) (hr : ∀ q, row = some q → a.heap.size ≤ q) : a.grownBy c (some g) :=
  ⟨k.os.trans h.os, k.tape.trans h.tape, k.output.trans h.output, Nat.le_trans h.size k.size, fun j hj hg => (k.block j (Nat.lt_of_lt_of_le hj h.size) (fun e => by have := hr j e.symm; omega)).trans (h.block j hj hg)⟩
theorem own_row {w : World} {base t s n : Nat} {l : Value} {vs : List Value} (h : w.ownsRow base t s l n vs) : ∀ q, l.ownBlock = some q → base ≤ q ∧ q < w.heap.size := by
  intro q hq
  rcases own_ge h with e | ⟨q', e, h1, h2⟩
  · rw [e] at hq; cases hq
  · rw [e] at hq; cases hq; exact ⟨h1, h2⟩

theorem powV_base {n : Int} (h : okN n) : powV (baseN n) (precN n) = baseN n ^ (precN n).toNat ∧ 1 ≤ baseN n ^ (precN n).toNat := by
  rcases okN_cases h with rfl | rfl | rfl | rfl | rfl | rfl | rfl | rfl | rfl | rfl | rfl | rfl <;> exact ⟨rfl, by decide⟩
set_option maxHeartbeats 2000000 in
theorem prepare_any (g : Nat) (n : Int) (w : World) (hn : okN n) (hP : PowB g n 0 1 0 (.slice none 0 0) (.slice none 0 0) w) :
    Calls Tryd.prog 33 #[.pointer (some ⟨g, 0, none⟩)] w fun e w' => e = .returned (.tuple #[]) ∧ ∃ l gr, PowB g n 0 1 1 l gr w' ∧ Lis w.heap.size 14 (pbase n) l w' ∧ Gre w.heap.size n gr w' ∧ w.grownBy w' (some g) := by
  have hB := base_two_ten hn
  have hg := hP.lt
  have hbase := hP.base
  obtain ⟨i0, hi0, hz0, hz1, hz2⟩ := info_parts Tryd.info43
  have key : (baseN n == 2) = true ∧ pbase n = 5 ∨ (baseN n == 2) = false ∧ pbase n = 10 := by
    unfold pbase
    rcases hB with e | e
    · exact Or.inl ⟨by rw [e]; rfl, if_pos e⟩
    · exact Or.inr ⟨by rw [e]; rfl, if_neg (by omega)⟩
  have hL0 := Lis.start w.heap.size (pbase n) w
  have hK0 := keep_refl g w
  have HB : Hid (baseN n = 2 ∨ baseN n = 10) := hB
  clear hB
  rcases key with ⟨k1, k2⟩ | ⟨k1, k2⟩
  · rw [k2] at hL0 ⊢
    go_enter Tryd.func33, Tryd.ntmps33
    go_wp2
    go_loopw [3] (fun t wr => ∃ (i : Nat) (l : Value), i ≤ 14 ∧ t = .int .i64 ((2 ^ i : Nat) : Int) ∧ PowB g n 0 1 0 l (.slice none 0 0) wr ∧ Lis w.heap.size i 5 l wr ∧ w.grownBy wr (some g)) (fun t _ => 16384 - (intOf t).toNat)
    case atStart => exact ⟨0, _, by decide, rfl, hP, hL0, hK0⟩
    case round =>
      clear hP hL0 hK0 hbase
      obtain ⟨i, l, hi, rfl, hP, hL, hK⟩ := hrel
      by_cases h : i < 14
      · have hp := pow2_le h
        obtain ⟨p, hpe⟩ : ∃ p, 2 ^ i = p := ⟨_, rfl⟩
        have hp0 : 0 < p := by rw [← hpe]; exact Nat.two_pow_pos i
        rw [hpe] at hp ⊢
        have hp1 : (p : Int) ≤ 12000 := by omega
        have hpw := npowF 5 p wr (by decide) (by omega)
        go_wp2_with (first
          | (go_at_call 49; refine hpw.mono ?_; rintro e w1 ⟨b, k, c, z, rfl, hk, hN, hv, hs, hb1, hfa, hfb⟩
             have hb2 := below1' w1 (.cells #[.slice (some ⟨b, 0, none⟩) k c] 43)
             have hP1 := hP.next hb1
             have hl1 := hP1.list
             have hP2 := hP1.next hb2
             have hL2 := (hL.keep (keep_of_below (g := g) hb1) hg).keep (keep_of_below (g := g) hb2) hg
             have hK2 := keep_trans (keep_trans hK (keep_of_below hb1)) (keep_of_below hb2)
             have hlt1 := num_lt hN
             obtain ⟨vs, hown, hel⟩ := hL2
             have hnew : El 5 i w.heap.size (.slice (some ⟨b, 0, none⟩) k c) (w1.alloc (.cells #[.slice (some ⟨b, 0, none⟩) k c] 43)) l.ownBlock := ⟨b, k, c, z, rfl, hN.next hb2, by rw [hpe]; exact hv, hk, hs, Nat.le_trans hK.size hfa, fun e => by
               have h3 := own_row (hL.choose_spec.1) b e.symm
               omega⟩
             have hrow := own_row hown
             clear hP hL hK hpw hN hb1 hP1)
          | (at_builtin
             refine wpList_append_lies _ rfl (.tmp 28) (.tmp 30) 53 rfl w.heap.size 43 i0 (.slice none 0 0) 1 24 Tryd.underlying53 hi0 hz0 hz1 hz2 rfl (by decide) l i vs rfl hown ⟨w1.heap.size, 0, none⟩ 1 1 [.slice (some ⟨b, 0, none⟩) k c] rfl (by simp) (fun j u hu => by
               have hj : j = 0 := by
                 rcases j with _ | j
                 · rfl
                 · simp at hu
               subst hj
               simp at hu
               subst hu
               simp [Addr.add]) (by simp; rfl) (by decide) (by unfold maxLen; omega) (by omega) (by have := hK2.size; exact this) (w1.heap.size + 1) (by simp) ?_
             intro q cap w3 hown3 hgrow hat hlt3
             have hq : l.ownBlock = some q ∨ q = (w1.alloc (.cells #[.slice (some ⟨b, 0, none⟩) k c] 43)).heap.size := by rw [World.size_alloc]; exact hat
             have hL3 := Lis.push hown hel hnew hown3 hgrow hq
             have hP3 := hP2.row hgrow (fun e => by have := (hrow g e.symm).1; omega)
             have hK3 := keep_row hK2 hgrow (fun q hq => (hrow q hq).1)
             have hl3 := hP3.list
             have hz3 := hP3.loose 14
             have HL3 : Hid (Lis w.heap.size (i + 1) 5 (.slice (some ⟨q, 0, none⟩) (i + 1) cap) w3) := hL3
             have HP3 : Hid (PowB g n 0 1 0 l (.slice none 0 0) w3) := hP3
             have HK3 : Hid (w.grownBy w3 (some g)) := hK3
             clear hown hown3 hgrow hat hlt3 hq hel hnew hrow hP2 hK2 hL3 hP3 hK3))
        go_roundw
        case rel => exact ⟨i + 1, _, by omega, by rw [Nat.pow_succ, hpe]; simp, HP3.out.setList _, HL3.out.keep (keep_set _ _ _ _) hg, keep_trans HK3.out (keep_set _ _ _ _)⟩
        case measure => simp [intOf]; omega
      · obtain rfl : i = 14 := by omega
        have hc2 := hP.base
        have hc4 := hP.prec
        have hpa := npow_all (baseN n) (precN n)
        go_wp2
        go_region_with (go_at_call 49; refine (hpa _).mono ?_; rintro e w1 ⟨o, k, c, z, rfl, hk, hN, hv, hs, hb1⟩)
        all_goals
          have hb1' : Below wr.heap.size wr w1 := ⟨hb1.os, hb1.tape, hb1.output, hb1.size, hb1.block⟩
          have hb2 := below1' w1 (.cells #[.int .u64 1] 37)
          have hone := num_one w1 1 (by decide)
          have hvb := powV_base hn
          rw [hvb.1] at hv
          have hsb := nsubF o (some ⟨w1.heap.size, 0, none⟩) k c 1 1 z (oneW 1) _ (by omega) (by omega) (hN.next hb2) hone (by rw [val_one1, hv]; exact hvb.2)
          rw [val_one1, hv] at hsb
          have hP1 := (hP.next hb1').next hb2
          have hK1 := keep_trans (keep_trans hK (keep_of_below hb1')) (keep_of_below hb2)
          have hL1 := (hL.keep (keep_of_below (g := g) hb1') hg).keep (keep_of_below (g := g) hb2) hg
          clear hP hK hL hN hone hb1 hc2 hc4 hpa hv hvb
          simp only [Exit.then]
          go_wp2_with (first
            | (go_at_call 50; refine hsb.mono ?_; rintro e w2 ⟨b2, k2, c2, z2, rfl, hk2, hN2, hv2, hs2, hb3, hfa2, hfb2⟩
               have hP2 := hP1.next hb3
               have hL2 := hL1.keep (keep_of_below (g := g) hb3) hg
               have hK2 := keep_trans hK1 (keep_of_below hb3)
               have hG2 : Gre w.heap.size n (.slice (some ⟨b2, 0, none⟩) k2 c2) w2 := ⟨b2, k2, c2, z2, rfl, hN2, hv2, by have := sizeL_le z k; omega, hs2, Nat.le_trans hK1.size hfa2⟩
               have hgr := hP2.great
               have hgz := hP2.loose 15
               have hP3 := hP2.setGreat (.slice (some ⟨b2, 0, none⟩) k2 c2)
               have hadd := run_call_add (P := Tryd.prog) Tryd.func77 (by kernel_rfl) (by kernel_rfl) (by kernel_rfl) .i32 (by kernel_rfl) (y := 1) (s := 1) hP3.made (hP3.loose 13) (by simp [go_sem]; rfl)
               clear hsb hN2 hP1 hL1 hK1)
            | (go_at_call 51; go_in))
          go_end0
          exact ⟨rfl, _, _, hP3.setMade 1, (hL2.keep (keep_set _ _ _ _) hg).keep (keep_set _ _ _ _) hg, (hG2.keep (keep_set _ _ _ _) hg).keep (keep_set _ _ _ _) hg, keep_trans (keep_trans hK2 (keep_set _ _ _ _)) (keep_set _ _ _ _)⟩
  · rw [k2] at hL0 ⊢
    go_enter Tryd.func33, Tryd.ntmps33
    go_wp2
    go_loopw [3] (fun t wr => ∃ (i : Nat) (l : Value), i ≤ 14 ∧ t = .int .i64 ((2 ^ i : Nat) : Int) ∧ PowB g n 0 1 0 l (.slice none 0 0) wr ∧ Lis w.heap.size i 10 l wr ∧ w.grownBy wr (some g)) (fun t _ => 16384 - (intOf t).toNat)
    case atStart => exact ⟨0, _, by decide, rfl, hP, hL0, hK0⟩
    case round =>
      clear hP hL0 hK0 hbase
      obtain ⟨i, l, hi, rfl, hP, hL, hK⟩ := hrel
      by_cases h : i < 14
      · have hp := pow2_le h
        obtain ⟨p, hpe⟩ : ∃ p, 2 ^ i = p := ⟨_, rfl⟩
        have hp0 : 0 < p := by rw [← hpe]; exact Nat.two_pow_pos i
        rw [hpe] at hp ⊢
        have hp1 : (p : Int) ≤ 12000 := by omega
        have hpw := npowF 10 p wr (by decide) (by omega)
        go_wp2_with (first
          | (go_at_call 49; refine hpw.mono ?_; rintro e w1 ⟨b, k, c, z, rfl, hk, hN, hv, hs, hb1, hfa, hfb⟩
             have hb2 := below1' w1 (.cells #[.slice (some ⟨b, 0, none⟩) k c] 43)
             have hP1 := hP.next hb1
             have hl1 := hP1.list
             have hP2 := hP1.next hb2
             have hL2 := (hL.keep (keep_of_below (g := g) hb1) hg).keep (keep_of_below (g := g) hb2) hg
             have hK2 := keep_trans (keep_trans hK (keep_of_below hb1)) (keep_of_below hb2)
             have hlt1 := num_lt hN
             obtain ⟨vs, hown, hel⟩ := hL2
             have hnew : El 10 i w.heap.size (.slice (some ⟨b, 0, none⟩) k c) (w1.alloc (.cells #[.slice (some ⟨b, 0, none⟩) k c] 43)) l.ownBlock := ⟨b, k, c, z, rfl, hN.next hb2, by rw [hpe]; exact hv, hk, hs, Nat.le_trans hK.size hfa, fun e => by
               have h3 := own_row (hL.choose_spec.1) b e.symm
               omega⟩
             have hrow := own_row hown
             clear hP hL hK hpw hN hb1 hP1)
          | (at_builtin
             refine wpList_append_lies _ rfl (.tmp 28) (.tmp 30) 53 rfl w.heap.size 43 i0 (.slice none 0 0) 1 24 Tryd.underlying53 hi0 hz0 hz1 hz2 rfl (by decide) l i vs rfl hown ⟨w1.heap.size, 0, none⟩ 1 1 [.slice (some ⟨b, 0, none⟩) k c] rfl (by simp) (fun j u hu => by
               have hj : j = 0 := by
                 rcases j with _ | j
                 · rfl
                 · simp at hu
               subst hj
               simp at hu
               subst hu
               simp [Addr.add]) (by simp; rfl) (by decide) (by unfold maxLen; omega) (by omega) (by have := hK2.size; exact this) (w1.heap.size + 1) (by simp) ?_
             intro q cap w3 hown3 hgrow hat hlt3
             have hq : l.ownBlock = some q ∨ q = (w1.alloc (.cells #[.slice (some ⟨b, 0, none⟩) k c] 43)).heap.size := by rw [World.size_alloc]; exact hat
             have hL3 := Lis.push hown hel hnew hown3 hgrow hq
             have hP3 := hP2.row hgrow (fun e => by have := (hrow g e.symm).1; omega)
             have hK3 := keep_row hK2 hgrow (fun q hq => (hrow q hq).1)
             have hl3 := hP3.list
             have hz3 := hP3.loose 14
             have HL3 : Hid (Lis w.heap.size (i + 1) 10 (.slice (some ⟨q, 0, none⟩) (i + 1) cap) w3) := hL3
             have HP3 : Hid (PowB g n 0 1 0 l (.slice none 0 0) w3) := hP3
             have HK3 : Hid (w.grownBy w3 (some g)) := hK3
             clear hown hown3 hgrow hat hlt3 hq hel hnew hrow hP2 hK2 hL3 hP3 hK3))
        go_roundw
        case rel => exact ⟨i + 1, _, by omega, by rw [Nat.pow_succ, hpe]; simp, HP3.out.setList _, HL3.out.keep (keep_set _ _ _ _) hg, keep_trans HK3.out (keep_set _ _ _ _)⟩
        case measure => simp [intOf]; omega
      · obtain rfl : i = 14 := by omega
        have hc2 := hP.base
        have hc4 := hP.prec
        have hpa := npow_all (baseN n) (precN n)
        go_wp2
        go_region_with (go_at_call 49; refine (hpa _).mono ?_; rintro e w1 ⟨o, k, c, z, rfl, hk, hN, hv, hs, hb1⟩)
        all_goals
          have hb1' : Below wr.heap.size wr w1 := ⟨hb1.os, hb1.tape, hb1.output, hb1.size, hb1.block⟩
          have hb2 := below1' w1 (.cells #[.int .u64 1] 37)
          have hone := num_one w1 1 (by decide)
          have hvb := powV_base hn
          rw [hvb.1] at hv
          have hsb := nsubF o (some ⟨w1.heap.size, 0, none⟩) k c 1 1 z (oneW 1) _ (by omega) (by omega) (hN.next hb2) hone (by rw [val_one1, hv]; exact hvb.2)
          rw [val_one1, hv] at hsb
          have hP1 := (hP.next hb1').next hb2
          have hK1 := keep_trans (keep_trans hK (keep_of_below hb1')) (keep_of_below hb2)
          have hL1 := (hL.keep (keep_of_below (g := g) hb1') hg).keep (keep_of_below (g := g) hb2) hg
          clear hP hK hL hN hone hb1 hc2 hc4 hpa hv hvb
          simp only [Exit.then]
          go_wp2_with (first
            | (go_at_call 50; refine hsb.mono ?_; rintro e w2 ⟨b2, k2, c2, z2, rfl, hk2, hN2, hv2, hs2, hb3, hfa2, hfb2⟩
               have hP2 := hP1.next hb3
               have hL2 := hL1.keep (keep_of_below (g := g) hb3) hg
               have hK2 := keep_trans hK1 (keep_of_below hb3)
               have hG2 : Gre w.heap.size n (.slice (some ⟨b2, 0, none⟩) k2 c2) w2 := ⟨b2, k2, c2, z2, rfl, hN2, hv2, by have := sizeL_le z k; omega, hs2, Nat.le_trans hK1.size hfa2⟩
               have hgr := hP2.great
               have hgz := hP2.loose 15
               have hP3 := hP2.setGreat (.slice (some ⟨b2, 0, none⟩) k2 c2)
               have hadd := run_call_add (P := Tryd.prog) Tryd.func77 (by kernel_rfl) (by kernel_rfl) (by kernel_rfl) .i32 (by kernel_rfl) (y := 1) (s := 1) hP3.made (hP3.loose 13) (by simp [go_sem]; rfl)
               clear hsb hN2 hP1 hL1 hK1)
            | (go_at_call 51; go_in))
          go_end0
          exact ⟨rfl, _, _, hP3.setMade 1, (hL2.keep (keep_set _ _ _ _) hg).keep (keep_set _ _ _ _) hg, (hG2.keep (keep_set _ _ _ _) hg).keep (keep_set _ _ _ _) hg, keep_trans (keep_trans hK2 (keep_set _ _ _ _)) (keep_set _ _ _ _)⟩
end Go.Proofs.YtcjbdmgaooojlaaDoor
