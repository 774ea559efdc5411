/-
  Texts that the proof leans on, joined: Rdc.
-/
import Derived.Test.YtplocajjfoiklaaGreatDoorJ34
import Derived.Test.YtplocajjfoiklaaGreatDoorJ32
set_option linter.unusedVariables false
set_option linter.unusedSimpArgs false
set_option maxRecDepth 20000
set_option linter.unusedSectionVars false
namespace Go.Proofs.YtplocajjfoiklaaGreatDoor
open Go.RowKit

theorem Tryz.info5d : (Tryz.prog.info? 5).map (fun i => (i.zero, i.size, i.bytes)) = some (some (.int .u8 0), 1, 1) := by kernel_rfl

theorem dgt_step18 {V r : Int} {L j : Nat} (hr : V / 10 ^ L % 10 ^ 18 = r) (hj : j < 18) : r / 10 ^ j % 10 = dgt V (L + j) := by
  unfold dgt
  rw [← div_div10]
  generalize V / 10 ^ L = W at *
  subst hr
  have h1 : (10 : Int) ^ 18 = 10 ^ j * (10 * 10 ^ (17 - j)) := by
    rw [← Int.mul_assoc, ← Int.pow_succ, ← Int.pow_add]; congr 1; omega
  have hp := p10_pos j
  have hp2 := p10_pos (17 - j)
  rw [h1, emod_mul_ediv' hp]
  exact Int.emod_emod_of_dvd _ ⟨10 ^ (17 - j), rfl⟩
theorem lt_sizeL {V : Int} (h0 : 0 ≤ V) : ∀ L, V < 10 ^ L → V < 10 ^ (sizeL (dgt V) L)
  | 0, h => h
  | L + 1, h => by
    by_cases e : dgt V L = 0
    · have e1 : sizeL (dgt V) (L + 1) = sizeL (dgt V) L := by simp [sizeL, e]
      rw [e1]
      refine lt_sizeL h0 L ?_
      unfold dgt at e
      have hp := p10_pos L
      rw [Int.pow_succ] at h
      have h1 : V / 10 ^ L < 10 := Int.ediv_lt_of_lt_mul hp (by omega)
      have h2 : 0 ≤ V / 10 ^ L := Int.ediv_nonneg h0 (by omega)
      have h3 : V / 10 ^ L = 0 := by omega
      have := Int.lt_mul_ediv_self_add (x := V) (k := 10 ^ L) hp
      rw [h3] at this; omega
    · have e1 : sizeL (dgt V) (L + 1) = L + 1 := by simp [sizeL, e]
      rw [e1]; exact h
theorem owns_below {w w' : World} {base n : Nat} {v : Value} {xs : List Value} (h : w.ownsRow base 5 1 v n xs) (hB : Below w.heap.size w w') : w'.ownsRow base 5 1 v n xs := by
  obtain ⟨h1, h2⟩ := h
  refine ⟨h1, ?_⟩
  rcases h2 with h2 | ⟨g', cap, cur, e, hb, hh, r⟩
  · exact Or.inl h2
  · have hg : g' < w.heap.size := by
      rcases Nat.lt_or_ge g' w.heap.size with h' | h'
      · exact h'
      · rw [Array.getElem?_eq_none h'] at hh; cases hh
    exact Or.inr ⟨g', cap, cur, e, hb, (hB.block g' hg).trans hh, r⟩
theorem num_grown {w w' : World} {V : Int} {g k cap base L cp : Nat} {ao : Option Addr} {z : Nat → Int} (hN : Num w (some ⟨g, 0, none⟩) k cap z) (hown : w.ownsRow base 5 1 (.slice ao L cp) L (blB V L)) (hao : ao = none ∨ 0 < L) (hg : w.grownBy w' (Value.slice ao L cp).ownBlock) : Num w' (some ⟨g, 0, none⟩) k cap z := by
  obtain ⟨h1, h2, h3, h4, h5⟩ := hN
  rcases h5 with ⟨h, _⟩ | ⟨b, off, e, hb, hc⟩
  · cases h
  · cases e
    refine ⟨h1, h2, h3, h4, Or.inr ⟨g, 0, rfl, Nat.lt_of_lt_of_le hb hg.size, fun i hi => ?_⟩⟩
    have hne : some g ≠ (Value.slice ao L cp).ownBlock := by
      intro e
      rcases ao with _ | ⟨b', o', s'⟩
      · cases e
      · have hL : 0 < L := by rcases hao with h | h; cases h; exact h
        obtain ⟨g', cap', e2, _⟩ := hown.form hL
        cases e2
        cases e
        have h6 := hc 0 (by omega)
        rw [Nat.add_zero, hown.cellAt 0 (by omega)] at h6
        simp [blB, hL] at h6
    exact (hg.cell_far ⟨g, 0 + i, none⟩ hb hne).trans (hc i hi)
/-- in the middle of the work: the digits so far, and the rest to come -/
def DS (w0 : World) (V : Int) (ao : Option Addr) (L cp g k cap : Nat) (z : Nat → Int) (wr : World) : Prop :=
  wr.ownsRow w0.heap.size 5 1 (.slice ao L cp) L (blB V L) ∧ (ao = none ∨ 0 < L) ∧ Num wr (some ⟨g, 0, none⟩) k cap z ∧ Below w0.heap.size w0 wr
def revL (V : Int) (K : Nat) : List Int := (List.range K).map fun i => 48 + dgt V (K - 1 - i)
def rl (V : Int) (K i : Nat) : List Value := (List.range i).map fun q => Value.int .u8 (48 + dgt V (K - 1 - q))
theorem rl_succ (V : Int) (K i : Nat) : rl V K i ++ [Value.int .u8 (48 + dgt V (K - 1 - i))] = rl V K (i + 1) := by simp [rl, List.range_succ]

set_option maxRecDepth 20000 in
set_option maxHeartbeats 4000000 in
theorem rdec_any (a : Option Addr) (n c : Nat) (x : Nat → Int) (w : World) (hn : n < 100000) (h : Num w a n c x) (hsz : sizeL x n ≤ 2000) (hpos : 0 < sizeL x n) :
    Calls Tryz.prog 63 #[.slice a n c] w fun e w' => ∃ L, val x n < 10 ^ L ∧ e = .returned (.string (strOfNums (revL (val x n) (sizeL (dgt (val x n)) L)))) ∧ Below w.heap.size w w' := by
  have ht := trim_any a n c x w (by omega) h
  obtain ⟨s, hs⟩ : ∃ s, sizeL x n = s := ⟨_, rfl⟩
  have hss := sizeL_sizeL x n
  have hx := h.2.2.1
  rw [← val_bare n]
  rw [hs] at ht hsz hss hpos ⊢
  obtain ⟨V, hV⟩ : ∃ V, val x s = V := ⟨_, rfl⟩
  have hV0 : 0 < V := by rw [← hV]; exact val_pos hx s hpos hss
  rw [hV]
  have HVB : Hid (V < 18446744073709551616 ^ s) := by show _ < _; rw [← hV]; exact (val_bd hx s).2
  have HV : Hid (val x s = V) := hV
  have HSS : Hid (sizeL x s = s) := hss
  clear h hs hV hss hx
  go_enter Tryz.func63, Tryz.ntmps63
  go_wp2_with (go_at_call 67; refine ht.mono ?_; rintro e wA ⟨g0, cap0, rfl, hN0, hB0⟩; clear ht)
  go_loopw [0, 3, 4, 5, 6, 15, 22] (fun t0 t3 u4 u5 u6 u15 u22 wr => ∃ (L k cp g cap : Nat) (ao : Option Addr) (z : Nat → Int), t3 = .slice ao L cp ∧ t0 = .slice (some ⟨g, 0, none⟩) k cap ∧ k ≤ s ∧ L ≤ 22 * s + 18 ∧ Hid (sizeL z k = k ∧ val z k = V / 10 ^ L) ∧ Hid (DS w V ao L cp g k cap z wr)) (fun _ t3 _ _ _ _ _ _ => 22 * s + 19 - slLen t3)
  case atStart => exact ⟨0, s, 0, g0, cap0, none, x, rfl, rfl, Nat.le_refl _, by omega, ⟨HSS.out, by rw [HV.out]; simp⟩, ⟨World.ownsRow_nil _ _ _ _, Or.inl rfl, hN0, hB0⟩⟩
  case round =>
    clear hN0 hB0
    obtain ⟨L, k, cp, g, cap, ao, z, rfl, rfl, hk, hLs, hzv, hst⟩ := hrel
    by_cases h0 : k = 0
    · subst h0
      have hVL : V < 10 ^ L := by
        have e : V / 10 ^ L = 0 := hzv.out.2.symm
        have := Int.lt_mul_ediv_self_add (x := V) (k := 10 ^ L) (p10_pos L)
        rw [e] at this; simpa using this
      have HVL : Hid (V < 10 ^ L) := hVL
      have hKp : 0 < sizeL (dgt V) L := by
        rcases Nat.eq_zero_or_pos (sizeL (dgt V) L) with e | e
        · have := lt_sizeL (Int.le_of_lt hV0) L hVL
          rw [e] at this; simp at this; omega
        · exact e
      have hL0 : 0 < L := Nat.lt_of_lt_of_le hKp (sizeL_le _ _)
      obtain ⟨hown, hao, hN, hB⟩ := hst.out
      obtain ⟨gb, capb, e2, hbg, hgb⟩ := hown.form hL0
      cases e2
      obtain ⟨_, hLc, hcm, hHB⟩ := owns_cells hown
      have HHB : Hid (HasB gb L (fun i => 48 + dgt V i) wr) := hHB
      have HB : Hid (Below w.heap.size w wr) := hB
      clear hst hown hao hN hB hHB hzv hVL
      go_wp2
      go_loop [7] (fun t7 => ∃ m : Nat, m ≤ L ∧ t7 = .int .i64 m ∧ Hid (sizeL (dgt V) m = sizeL (dgt V) L)) (fun t7 => (intOf t7).toNat)
      case atStart => exact ⟨L, Nat.le_refl _, rfl, rfl⟩
      case round =>
        obtain ⟨m, hm, rfl, hmK⟩ := hrel
        by_cases hm0 : m = 0
        · subst hm0
          have := hmK.out
          simp [sizeL] at this
          omega
        · obtain ⟨j, rfl⟩ : ∃ j, m = j + 1 := ⟨m - 1, by omega⟩
          have hcj : wr.cell? ⟨gb, j, none⟩ = some (.int .u8 (48 + dgt V j)) := (HHB.out.2 j (by omega)).1
          have hdb := dgt_bd V j
          by_cases hzj : dgt V j = 0
          · have HS : Hid (sizeL (dgt V) j = sizeL (dgt V) L) := by
              have : sizeL (dgt V) (j + 1) = sizeL (dgt V) j := by simp [sizeL, hzj]
              exact this.symm.trans hmK.out
            clear hmK
            rw [hzj] at hcj
            go_wp2
            go_round
            case rel => exact ⟨j, by omega, by go_num, HS.out⟩
            case measure => simp [intOf]
          · have HS : Hid (sizeL (dgt V) L = j + 1) := by
              have : sizeL (dgt V) (j + 1) = j + 1 := by simp [sizeL, hzj]
              exact hmK.out.symm.trans this
            have hne : (48 + dgt V j == 48) = false := by simp; omega
            clear hmK
            generalize dgt V j = dj at hcj hdb hzj hne
            go_wp2
            clear hcj hdb hzj hne
            have HK : Hid (0 < j + 1 ∧ j + 1 ≤ L) := by show _ ∧ _; omega
            rename World => wB
            go_loopw [8, 9, 50] (fun t8 u9 t50 wr => ∃ (i cp2 : Nat) (ao2 : Option Addr), i ≤ (j + 1) ∧ t8 = .slice ao2 i cp2 ∧ t50 = .int .i64 i ∧ Hid (wr.ownsRow wB.heap.size 5 1 (.slice ao2 i cp2) i (rl V (j + 1) i) ∧ Below wB.heap.size wB wr)) (fun _ _ t50 _ => (j + 1) - (intOf t50).toNat)
            case atStart => exact ⟨0, 0, none, Nat.zero_le _, rfl, rfl, ⟨World.ownsRow_nil _ _ _ _, Below.refl _ _⟩⟩
            case round =>
              obtain ⟨i, cp2, ao2, hi, rfl, rfl, hst2⟩ := hrel
              obtain ⟨hown2, hB2⟩ := hst2.out
              by_cases hik : i < (j + 1)
              · obtain ⟨q, hq⟩ : ∃ q, (j + 1) - 1 - i = q := ⟨_, rfl⟩
                have e1 : ((j : Int) - i).toNat = q := by omega
                have e2 : 0 ≤ (j : Int) - i := by omega
                have e3 : (j : Int) - i < L := by have := HK.out.2; omega
                have hii : (i : Int) < (j : Int) + 1 := by omega
                have hcq : wr.cell? ⟨gb, q, none⟩ = some (.int .u8 (48 + dgt V q)) := (World.cell?_of_block (hB2.block gb hgb)).trans (HHB.out.2 q (by have := HK.out.2; omega)).1
                have hdb := dgt_bd V q
                have HDV : Hid (dgt V q = dgt V ((j + 1) - 1 - i)) := by show _ = _; rw [hq]
                generalize dgt V q = dq at *
                obtain ⟨i0, hi0, hz0, hz1, hz2⟩ := info_parts Tryz.info5d
                have HOWN : (wr.alloc (.cells #[.int .u8 (48 + dq)] 5)).ownsRow wB.heap.size 5 1 (.slice ao2 i cp2) i (rl V (j + 1) i) := hown2.alloc _
                have HNEWS : ∀ (q : Nat) (u : Value), [Value.int .u8 (48 + dq)][q]? = some u → (wr.alloc (.cells #[.int .u8 (48 + dq)] 5)).cell? ((⟨wr.heap.size, 0, none⟩ : Addr).add q) = some u := by
                  intro q u hq
                  match q, hq with
                  | 0, hq => simp at hq; subst hq; simp [Addr.add]
                have HONE : ∀ u ∈ [Value.int .u8 (48 + dq)], u.oneCell' = true := by
                  intro u hu; simp at hu; subst hu; rfl
                have HOF : Hid (∀ q, (Value.slice ao2 i cp2).ownBlock = some q → wB.heap.size ≤ q) := fun q hq => (hown2.lt q hq).1
                have hb2s := hB2.size
                have HB2 : Hid (Below wB.heap.size wB wr) := hB2
                have HKL := HK.out.2
                clear hst2 hown2 hB2 hq
                go_wp2_with (first | (at_builtin; refine wpList_append_lies _ rfl (.tmp 53) (.tmp 61) 81 rfl wB.heap.size 5 i0 (.int .u8 0) 1 1 Tryz.underlying81 hi0 hz0 hz1 hz2 rfl (by decide) (.slice ao2 i cp2) i (rl V (j + 1) i) rfl HOWN ⟨wr.heap.size, 0, none⟩ 1 1 [Value.int .u8 (48 + dq)] rfl rfl HNEWS HONE (by omega) (by unfold maxLen; omega) (by omega) (by simp; omega) (wr.heap.size + 1) (by simp) ?_; intro g1 cap1 w1 hown1 hgrow hat hlt1; clear HOWN HNEWS HONE))
                have HB3 : Below wB.heap.size wr w1 := ((Below.refl _ wr).alloc hb2s _).grown hgrow (by simp; omega) HOF.out
                have HST : Hid (w1.ownsRow wB.heap.size 5 1 (.slice (some ⟨g1, 0, none⟩) (i + 1) cap1) (i + 1) (rl V (j + 1) (i + 1)) ∧ Below wB.heap.size wB w1) := by
                  refine ⟨?_, HB2.out.trans HB3⟩
                  rw [HDV.out, rl_succ] at hown1; exact hown1
                clear hown1 hgrow HB3
                go_wp2
                go_roundw
                case rel => exact ⟨i + 1, cap1, some ⟨g1, 0, none⟩, by omega, rfl, by go_num, HST.out⟩
                case measure => simp [intOf]; omega
              · obtain rfl : i = j + 1 := by omega
                obtain ⟨g2, cap2, e2, _⟩ := hown2.form HK.out.1
                cases e2
                have hcc : ∀ q, q < j + 1 → wr.cell? ⟨g2, q, none⟩ = some (.int .u8 (48 + dgt V (j + 1 - 1 - q))) := fun q hq => by
                  rw [hown2.cellAt q (by omega)]; simp [rl, hq]
                have hcv := run_convert_bytes_arg (P := Tryz.prog) wr 81 5 Tryz.underlying81 Tryz.underlying5 g2 0 (j + 1) cp2 (revL V (j + 1)) (by simp [revL]) (fun q hq => by rw [Nat.zero_add, hcc q hq]; simp [revL, hq]) 9 Tryz.underlying9
                have HB3 : Hid (Below w.heap.size w wr) := HB.out.trans (hB2.mono HB.out.size)
                clear hst2 hown2 hB2 hcc
                go_wp2
                go_ret
                exact ⟨L, HVL.out, by rw [HS.out]; rfl, HB3.out⟩
    · have hk0 : (0 : Int) < k := by omega
      obtain ⟨hown, hao, hN, hB⟩ := hst.out
      have hz := hN.2.2.1
      have hL : L < 22 * s := by
        have h1 := val_pos hz k (by omega) hzv.out.1
        rw [hzv.out.2] at h1
        refine p10_lt (Int.lt_of_le_of_lt ?_ HVB.out)
        have h2 := p10_pos L
        rcases Int.lt_or_le V (10 ^ L) with h3 | h3
        · rw [Int.ediv_eq_zero_of_lt (Int.le_of_lt hV0) h3] at h1; omega
        · exact h3
      have hsm := smb_any (some ⟨g, 0, none⟩) k cap z 1000000000000000000 wr (by omega) hN (by decide)
      have HQ : Hid (val z k / 1000000000000000000 = V / 10 ^ (L + 18)) := by show _ = _; rw [hzv.out.2, ← div_div10]; rfl
      have HR0 : Hid (val z k % 1000000000000000000 = V / 10 ^ L % 10 ^ 18) := by show _ = _; rw [hzv.out.2]; rfl
      have HOW : Hid (wr.ownsRow w.heap.size 5 1 (.slice ao L cp) L (blB V L)) := hown
      have HB : Hid (Below w.heap.size w wr) := hB
      clear hst hown hN hB hz hzv
      go_wp2_with (first | (go_at_call 123; refine hsm.mono ?_; rintro e w1 ⟨g1, k1, cap1, z1, g2, k2, cap2, z2, rfl, hk1, hk2, hN1, hN2, hv1, hs1, hv2, hB1⟩; clear hsm; have hwd := word_any (some ⟨g2, 0, none⟩) k2 cap2 0 z2 w1 hN2) | (go_at_call 68; refine hwd.mono ?_; rintro e w1' ⟨rfl, hww⟩; subst hww; clear hwd))
      have hr : V / 10 ^ L % 10 ^ 18 = z2 0 := by
        rw [← HR0.out, ← hv2]
        rcases Nat.eq_zero_or_pos k2 with e | e
        · subst e; rw [hN2.2.2.2.1 0 (Nat.le_refl _)]; rfl
        · have : k2 = 1 := by omega
          subst this; simp [val]
      have HR : Hid (∀ j, j < 18 → z2 0 / 10 ^ j % 10 = dgt V (L + j)) := fun j hj => dgt_step18 hr hj
      have hrb := hN2.2.2.1 0
      have hst1 : Hid (DS w V ao L cp g1 k1 cap1 z1 w1') := ⟨owns_below HOW.out hB1, hao, hN1, HB.out.trans (hB1.mono HB.out.size)⟩
      have HZ1 : Hid (sizeL z1 k1 = k1 ∧ val z1 k1 = V / 10 ^ (L + 18)) := ⟨hs1, by rw [hv1, HQ.out]⟩
      generalize z2 0 = r at *
      clear hN1 hN2 hB1 hr hv1 hv2 hs1 HQ HR0 HOW HB
      go_loopw [3, 6, 22] (fun t3 t6 t22 wr => ∃ (j cp : Nat) (ao : Option Addr), j ≤ 18 ∧ t3 = .slice ao (L + j) cp ∧ t6 = .int .u64 (r / 10 ^ j) ∧ t22 = .int .i64 j ∧ Hid (DS w V ao (L + j) cp g1 k1 cap1 z1 wr)) (fun _ _ t22 _ => 18 - (intOf t22).toNat)
      case atStart => exact ⟨0, cp, ao, by omega, rfl, by simp, rfl, hst1⟩
      case round =>
        clear hst1
        obtain ⟨j, cp2, ao2, hj, rfl, rfl, rfl, hst2⟩ := hrel
        by_cases hj18 : j < 18
        · have hji : (j : Int) < 18 := by omega
          have hp : 0 ≤ r / 10 ^ j ∧ r / 10 ^ j ≤ 18446744073709551615 := by
            have h1 := p10_pos j
            have h2 := Int.ediv_nonneg hrb.1 (Int.le_of_lt h1)
            have h3 : r / 10 ^ j ≤ r := Int.ediv_le_self _ hrb.1
            omega
          have HP : Hid (r / 10 ^ (j + 1) = r / 10 ^ j / 10) := by
            show _ = _
            rw [Int.pow_succ, ← Int.ediv_ediv_of_nonneg (Int.le_of_lt (p10_pos j))]
          have HVAL : Hid (r / 10 ^ j % 10 = dgt V (L + j)) := HR.out j hj18
          generalize r / 10 ^ j = p at *
          obtain ⟨i0, hi0, hz0, hz1, hz2⟩ := info_parts Tryz.info5d
          obtain ⟨hown, hao2, hN, hB⟩ := hst2.out
          have HOWN : (wr.alloc (.cells #[.int .u8 (48 + p % 10)] 5)).ownsRow w.heap.size 5 1 (.slice ao2 (L + j) cp2) (L + j) (blB V (L + j)) := hown.alloc _
          have HO2 : Hid ((wr.alloc (.cells #[.int .u8 (48 + p % 10)] 5)).ownsRow w.heap.size 5 1 (.slice ao2 (L + j) cp2) (L + j) (blB V (L + j))) := HOWN
          have HN2 : Hid (Num (wr.alloc (.cells #[.int .u8 (48 + p % 10)] 5)) (some ⟨g1, 0, none⟩) k1 cap1 z1) := hN.next (below1 wr _)
          have HNEWS : ∀ (q : Nat) (u : Value), [Value.int .u8 (48 + p % 10)][q]? = some u → (wr.alloc (.cells #[.int .u8 (48 + p % 10)] 5)).cell? ((⟨wr.heap.size, 0, none⟩ : Addr).add q) = some u := by
            intro q u hq
            match q, hq with
            | 0, hq => simp at hq; subst hq; simp [Addr.add]
          have HONE : ∀ u ∈ [Value.int .u8 (48 + p % 10)], u.oneCell' = true := by
            intro u hu; simp at hu; subst hu; rfl
          have HOF : Hid (∀ q, (Value.slice ao2 (L + j) cp2).ownBlock = some q → w.heap.size ≤ q) := fun q hq => (hown.lt q hq).1
          have hbs := hB.size
          have HB : Hid (Below w.heap.size w wr) := hB
          clear hown hN hB hst2
          go_wp2_with (first | (at_builtin; refine wpList_append_lies _ rfl (.tmp 24) (.tmp 29) 81 rfl w.heap.size 5 i0 (.int .u8 0) 1 1 Tryz.underlying81 hi0 hz0 hz1 hz2 rfl (by decide) (.slice ao2 (L + j) cp2) (L + j) (blB V (L + j)) rfl HOWN ⟨wr.heap.size, 0, none⟩ 1 1 [Value.int .u8 (48 + p % 10)] rfl rfl HNEWS HONE (by omega) (by unfold maxLen; omega) (by omega) (by simp; omega) (wr.heap.size + 1) (by simp) ?_; intro g3 cap3 w3 hown1 hgrow hat hlt1; clear HOWN HNEWS HONE))
          have HB3 : Below w.heap.size wr w3 := ((Below.refl _ wr).alloc hbs _).grown hgrow (by simp; omega) HOF.out
          have HST : Hid (DS w V (some ⟨g3, 0, none⟩) (L + (j + 1)) cap3 g1 k1 cap1 z1 w3) := by
            refine ⟨?_, Or.inr (by omega), num_grown HN2.out HO2.out hao2 hgrow, HB.out.trans HB3⟩
            rw [HVAL.out, blB_succ] at hown1; exact hown1
          clear hown1 hgrow HB3
          go_wp2
          go_roundw
          case rel => exact ⟨j + 1, cap3, some ⟨g3, 0, none⟩, by omega, rfl, by rw [HP.out], by go_num, HST.out⟩
          case measure => simp [intOf]; omega
        · obtain rfl : j = 18 := by omega
          go_wp2
          go_roundw
          case rel => exact ⟨L + 18, k1, cp2, g1, cap1, ao2, z1, rfl, rfl, by omega, by omega, HZ1.out, hst2⟩
          case measure => simp [slLen]; omega
end Go.Proofs.YtplocajjfoiklaaGreatDoor
