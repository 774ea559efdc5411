/-
  Texts that the proof leans on, joined: Rrd, Ha, Hb, Hc.
-/
import Derived.Test.YtplocajjfoiklaaGreatDoorR36
import Derived.Test.YtplocajjfoiklaaGreatDoorR26
import Derived.Test.YtplocajjfoiklaaGreatDoorR1
set_option maxHeartbeats 8000000
set_option linter.unusedVariables false
set_option linter.unusedSimpArgs false
set_option linter.unusedSectionVars false
set_option maxRecDepth 20000
namespace Go.Proofs.YtplocajjfoiklaaGreatDoor
open Go.RowKit
section
theorem num_empty (w : World) : Num (w.alloc (.cells #[] 22)) (some ⟨w.heap.size, 0, none⟩) 0 0 (fun _ => 0) :=
 ⟨Nat.le_refl _, by unfold maxLen; omega, fun _ => (by decide : (0 : Int) ≤ 0 ∧ (0 : Int) ≤ 18446744073709551615), fun _ _ => rfl, Or.inr ⟨_, 0, rfl, by simp, fun i hi => by omega⟩⟩
set_option maxRecDepth 20000 in
theorem number_any (s : ByteArray) (w : World) (hd : isDigB s = true) (hl : s.size ≤ 12000) :
  Calls Tryz.prog 98 #[.string s] w fun e w' => ∃ g k cap z, e = .returned (.slice (some ⟨g, 0, none⟩) k cap) ∧ k ≤ 36000 ∧ Num w' (some ⟨g, 0, none⟩) k cap z ∧ val z k = numV s s.size ∧ Below w.heap.size w w' ∧ sizeL z k = k := by
 have hl' : (s.size : Int) ≤ 12000 := by omega
 have hdig : ∀ k, k < s.size → 48 ≤ sb s k ∧ sb s k ≤ 57 := by
  unfold isDigB at hd; simp at hd; exact digB_at s.size hd.1
 have HDG : Hid (∀ k, k < s.size → 48 ≤ sb s k ∧ sb s k ≤ 57) := hdig
 have HN0 := num_empty w
 have HB0 := below1 w (.cells #[] 22)
 clear hd hdig
 go_enter Tryz.func98, Tryz.ntmps98
 go_wp2
 generalize w.alloc (.cells #[] 22) = wA at *
 go_loopw [3, 4, 5, 6] (fun t3 t4 u5 u6 wr => ∃ (p n c g : Nat) (z : Nat → Int), p ≤ s.size ∧ t3 = .slice (some ⟨g, 0, none⟩) n c ∧ t4 = .int .i64 p ∧ n ≤ 3 * p ∧ Num wr (some ⟨g, 0, none⟩) n c z ∧ val z n = numV s p ∧ Hid (sizeL z n = n) ∧ Below w.heap.size w wr) (fun _ i _ _ _ => s.size - (intOf i).toNat)
 case atStart => exact ⟨0, 0, 0, _, fun _ => 0, Nat.zero_le _, rfl, rfl, Nat.le_refl _, HN0, rfl, (show sizeL _ 0 = 0 from rfl), HB0⟩
 case round =>
  clear HN0 HB0
  obtain ⟨p, n, c, g, z, hp, rfl, rfl, hnp, hN, hv, hts, hB⟩ := hrel
  by_cases hlt : p < s.size
  ·have hpi : (p : Int) < s.size := by omega
   have HN : Hid (Num wr (some ⟨g, 0, none⟩) n c z) := hN
   have HV : Hid (val z n = numV s p) := hv
   have HB : Hid (Below w.heap.size w wr) := hB
   clear hN hv hB
   go_wp2
   go_loop [4, 5, 6] (fun t4 t5 t6 => ∃ (q : Nat) (S b : Int), p + q ≤ s.size ∧ q ≤ 18 ∧ t4 = .int .i64 ((p + q : Nat) : Int) ∧ t5 = .int .u64 b ∧ t6 = .int .u64 S ∧ Hid (S = 10 ^ q ∧ numV s (p + q) = numV s p * S + b) ∧ 0 ≤ b ∧ b < S) (fun i _ _ => s.size - (intOf i).toNat)
   case atStart => exact ⟨0, 1, 0, by omega, by omega, rfl, rfl, rfl, ⟨by simp, by simp⟩, by decide, by decide⟩
   case round =>
    obtain ⟨q, S, b, hpq, hq, rfl, rfl, rfl, hSb, hb0, hbS⟩ := hrel
    have hS18 : S ≤ 1000000000000000000 := by
     have := p10_le hq
     rw [← hSb.out.1] at this
     exact this
    by_cases hgo : p + q < s.size ∧ q < 18
    ·obtain ⟨hgo1, hgo2⟩ := hgo
     have hki : ((p + q : Nat) : Int) < s.size := by omega
     have hS17 : S ≤ 100000000000000000 := by
      have := p10_le (show q ≤ 17 by omega)
      rw [← hSb.out.1] at this
      exact this
     have hsb := sb_lt hgo1
     have hbd := HDG.out (p + q) hgo1
     have HSB : Hid (10 * S = 10 ^ (q + 1) ∧ numV s (p + (q + 1)) = numV s p * (10 * S) + (10 * b + (sb s (p + q) - 48))) := by
      show _ ∧ _
      obtain ⟨e1, e2⟩ := hSb.out
      refine ⟨by rw [e1, Int.pow_succ]; omega, ?_⟩
      rw [← Nat.add_assoc]
      simp only [numV]
      rw [e2]; grind
     have HPQ : Hid ((p + q : Nat) + 1 = p + (q + 1)) := rfl
     clear hSb
     generalize p + q = r at *
     go_wp2
     go_round
     case rel => exact ⟨q + 1, 10 * S, 10 * b + (sb s r - 48), by have := HPQ.out; omega, by omega, by rw [← HPQ.out]; go_num, by go_num, by go_num, HSB.out, by omega, by omega⟩
     case measure => simp [intOf]; omega
    ·have hstop : ((p + q : Nat) : Int) < s.size → S = 1000000000000000000 := fun h => by
      have : q = 18 := by omega
      rw [hSb.out.1, this]; rfl
     have hq0 : 0 < q := by omega
     have hN1 := num_one wr S (by omega)
     have hT := times_raw g 0 n c wr.heap.size 0 1 1 z (oneW S) (wr.alloc (.cells #[.int .u64 S] 22)) (by omega) (by omega) (HN.out.next (below1 wr _)) hN1
     have HB1 : Hid (Below w.heap.size w (wr.alloc (.cells #[.int .u64 S] 22))) := HB.out.trans ((below1 wr _).mono HB.out.size)
     have HSV : Hid (numV s (p + q) = val z n * S + b) := by show _ = _; rw [hSb.out.2, HV.out]
     have HQ : Hid (0 < q ∧ q ≤ 18) := ⟨hq0, hq⟩
     have hpr : p < p + q := by omega
     have hnr : n + 3 ≤ 3 * (p + q) := by omega
     have hA := fun (w1 : World) (g1 k1 c1 : Nat) (z1 : Nat → Int) (hk1 : k1 ≤ n + 1 + 1) (h1 : Num w1 (some ⟨g1, 0, none⟩) k1 c1 z1) => radd_vt (some ⟨g1, 0, none⟩) (some ⟨w1.heap.size, 0, none⟩) k1 c1 1 1 z1 (oneW b) (w1.alloc (.cells #[.int .u64 b] 22)) (by omega) (by omega) (h1.next (below1 w1 _)) (num_one w1 b (by omega))
     clear hSb hgo hN1 hq hq0
     generalize p + q = r at *
     by_cases hrs : r < s.size
     ·have hri : (r : Int) < s.size := by omega
      have hS := hstop hri
      subst hS
      go_wp2_with (first | (go_at_call 122; refine hT.mono ?_; rintro e w1 ⟨g1, k1, c1, z1, rfl, hk1, hN1, hv1, hB1⟩; clear hT; have hA1 := hA w1 g1 k1 c1 z1 (by omega) hN1; clear hA) | (go_at_call 44; refine hA1.mono ?_; rintro e w2 ⟨g2, k2, c2, z2, rfl, hk2, hN2, hv2, hB2, ht2⟩; clear hA1; have HT2 : Hid (sizeL z2 k2 = k2) := ht2; clear ht2))
      go_roundw
      case rel =>
       refine ⟨r, k2, c2, g2, z2, hpq, rfl, rfl, by omega, hN2, ?_, HT2, ?_⟩
       ·rw [hv2, HSV.out, val_one _ 1 (by omega), ← val_more hN1.2.2.2.1 (n + 1 + 1) hk1, hv1, val_one _ 1 (by omega)]
       ·have b1 := HB1.out.trans (hB1.mono HB1.out.size)
        have b2 := b1.trans ((below1 w1 (.cells #[.int .u64 b] 22)).mono b1.size)
        exact b2.trans (hB2.mono b2.size)
      case measure => simp [intOf]; omega
     ·obtain rfl : r = s.size := by omega
      clear hstop
      go_wp2_with (first | (go_at_call 122; refine hT.mono ?_; rintro e w1 ⟨g1, k1, c1, z1, rfl, hk1, hN1, hv1, hB1⟩; clear hT; have hA1 := hA w1 g1 k1 c1 z1 (by omega) hN1; clear hA) | (go_at_call 44; refine hA1.mono ?_; rintro e w2 ⟨g2, k2, c2, z2, rfl, hk2, hN2, hv2, hB2, ht2⟩; clear hA1; have HT2 : Hid (sizeL z2 k2 = k2) := ht2; clear ht2))
      go_roundw
      case rel =>
       refine ⟨s.size, k2, c2, g2, z2, Nat.le_refl _, rfl, rfl, by omega, hN2, ?_, HT2, ?_⟩
       ·rw [hv2, HSV.out, val_one _ 1 (by omega), ← val_more hN1.2.2.2.1 (n + 1 + 1) hk1, hv1, val_one _ 1 (by omega)]
       ·have b1 := HB1.out.trans (hB1.mono HB1.out.size)
        have b2 := b1.trans ((below1 w1 (.cells #[.int .u64 b] 22)).mono b1.size)
        exact b2.trans (hB2.mono b2.size)
      case measure => simp [intOf]; omega
  ·obtain rfl : p = s.size := by omega
   have HN : Hid (Num wr (some ⟨g, 0, none⟩) n c z) := hN
   have HV : Hid (val z n = numV s s.size) := hv
   have HB : Hid (Below w.heap.size w wr) := hB
   clear hN hv hB
   go_wp2
   go_ret
   exact ⟨g, n, c, z, rfl, by omega, HN.out, HV.out, HB.out, hts.out⟩
end
theorem dig_of (k : Nat) (h : k < 10) : dg (UInt8.ofNat (48 + k)) = true ∧ ((UInt8.ofNat (48 + k)).toNat : Int) = 48 + k := by
 have : (UInt8.ofNat (48 + k)).toNat = 48 + k := by
  rw [UInt8.toNat_ofNat']; omega
 refine ⟨?_, by omega⟩
 unfold dg; rw [this]; simp; omega
theorem dec_dg (u : Nat) : (Lib.decDigits u).all dg = true := by
 induction u using Nat.strongRecOn with
 | ind u ih =>
  rw [Lib.decDigits]
  split
  ·rename_i h
   simp only [List.all_cons, List.all_nil, Bool.and_true]
   exact (dig_of u h).1
  ·rename_i h
   rw [List.all_append, ih (u / 10) (by omega)]
   simp only [List.all_cons, List.all_nil, Bool.and_true, Bool.true_and]
   exact (dig_of (u % 10) (by omega)).1
theorem dec_nv (u : Nat) : nv (Lib.decDigits u) = u := by
 induction u using Nat.strongRecOn with
 | ind u ih =>
  rw [Lib.decDigits]
  split
  ·rename_i h
   rw [gnv_one, (dig_of u h).2]; omega
  ·rename_i h
   rw [nv_app, ih (u / 10) (by omega), gnv_one, (dig_of (u % 10) (by omega)).2]
   simp
   omega
theorem dec_ne (u : Nat) : Lib.decDigits u ≠ [] := by
 rw [Lib.decDigits]
 split
 ·simp
 ·simp
theorem dec_isd (u : Nat) : isd (Lib.decDigits u) = true := by
 unfold isd
 rw [dec_dg]
 simp [dec_ne u]
theorem sg_cons {c : UInt8} {r : List UInt8} (h : (c.toNat : Int) ≠ 45 ∧ (c.toNat : Int) ≠ 43) : gsgB (c :: r) = false ∧ sgR (c :: r) = c :: r := by
 refine ⟨by simp only [gsgB]; exact decide_eq_false h.1, ?_⟩
 simp only [sgR]
 rw [if_neg (by omega)]
theorem dg_nat {c : UInt8} (h : dg c = true) : 48 ≤ (c.toNat : Int) ∧ (c.toNat : Int) ≤ 57 := by
 unfold dg at h
 have := of_decide_eq_true h
 omega
theorem sg_all {l : List UInt8} (h : l.all dg = true) : gsgB l = false ∧ sgR l = l := by
 cases l with
 | nil => exact ⟨rfl, rfl⟩
 | cons c r =>
  rw [List.all_cons, Bool.and_eq_true] at h
  have := dg_nat h.1
  exact sg_cons ⟨by omega, by omega⟩
theorem exT_cut (e : Int) (h : -1000000000 ≤ e ∧ e ≤ 1000000000) : exB (exT e) = true ∧ exI (exT e) = e ∧ Lib.hasPrefix (exT e) [46] = false ∧ dgs (exT e) = [] ∧ rst (exT e) = exT e := by
 unfold exT
 split
 ·rename_i h0; subst h0; exact ⟨rfl, rfl, rfl, rfl, rfl⟩
 ·rename_i h0
  have hi : isd (sgR (Lib.itoa e)) = true ∧ exS (Lib.itoa e) = e := by
   unfold Lib.itoa
   split
   ·rename_i h1
    have e1 : gsgB (45 :: Lib.decDigits e.natAbs) = true := rfl
    have e2 : sgR (45 :: Lib.decDigits e.natAbs) = Lib.decDigits e.natAbs := rfl
    unfold exS
    rw [e1, e2, if_pos rfl]
    refine ⟨dec_isd _, ?_⟩
    unfold vc; rw [dec_nv]; omega
   ·rename_i h1
    obtain ⟨e1, e2⟩ := sg_all (dec_dg e.toNat)
    unfold exS
    rw [e1, e2]
    refine ⟨dec_isd _, ?_⟩
    rw [if_neg (by decide)]
    unfold vc; rw [dec_nv]; omega
  have hx : exB (101 :: Lib.itoa e) = true := by
   simp only [exB]
   rw [hi.1]; rfl
  refine ⟨hx, ?_, rfl, rfl, rfl⟩
  simp only [exI]
  rw [if_pos hx]
  exact hi.2
theorem dgs_app2 {l m : List UInt8} (h : l.all dg = true) (hm : dgs m = []) : dgs (l ++ m) = l ∧ rst (l ++ m) = m := by
 have h1 : dgs (l ++ m) = l := by
  induction l with
  | nil => exact hm
  | cons c r ih =>
   rw [List.all_cons, Bool.and_eq_true] at h
   unfold dgs at ih ⊢
   rw [List.cons_append, List.takeWhile_cons, if_pos h.1, ih h.2]
 refine ⟨h1, ?_⟩
 have e := dgs_rst (l ++ m)
 rw [h1] at e
 exact List.append_cancel_left e
theorem fin_cut (T : List UInt8) (e : Int) (hT : T.all dg = true) (hn : T ≠ []) (h : -1000000000 ≤ e ∧ e ≤ 1000000000) : finB (T ++ exT e) = true ∧ finD (T ++ exT e) = bar T ∧ finE (T ++ exT e) = e := by
 obtain ⟨h1, h2, h3, h4, h5⟩ := exT_cut e h
 obtain ⟨d1, d2⟩ := dgs_app2 hT h4
 have f1 : frac (T ++ exT e) = [] := by unfold frac; rw [d2, h3]; rfl
 have f2 : behind (T ++ exT e) = exT e := by unfold behind; rw [d2, h3]; rfl
 refine ⟨?_, ?_, ?_⟩
 ·unfold finB; rw [f1, f2, h1, d1]
  cases T with
  | nil => exact absurd rfl hn
  | cons c r => rfl
 ·unfold finD; rw [f1, d1, List.append_nil]
 ·unfold finE; rw [f1, f2, h2]; unfold clampE; simp; omega
def gdD (d : List UInt8) : Prop := d = [] ∨ (isd d = true ∧ by_ d 0 ≠ 48)
theorem gdD_all {d : List UInt8} (h : gdD d) : d.all dg = true := by
 rcases h with rfl | ⟨h, _⟩
 ·rfl
 ·exact isd_all h
theorem gdD_bar {d : List UInt8} (h : gdD d) : bar d = d := by
 cases d with
 | nil => rfl
 | cons c r =>
  rcases h with h | ⟨_, h⟩
  ·cases h
  ·rw [by_zero] at h
   rw [bar_cons, if_neg h]
theorem bar_gdD {l : List UInt8} (h : l.all dg = true) : gdD (bar l) := by
 have ha := bar_all h
 cases hb : bar l with
 | nil => exact Or.inl rfl
 | cons c r =>
  rw [hb] at ha
  refine Or.inr ⟨?_, ?_⟩
  ·unfold isd; rw [ha]; rfl
  ·rw [by_zero]; exact bar_head hb
theorem gdD_dgT {d : List UInt8} (h : gdD d) : (dgT d).all dg = true ∧ dgT d ≠ [] ∧ bar (dgT d) = d := by
 unfold dgT
 split
 ·rename_i h0; subst h0; exact ⟨rfl, by simp, rfl⟩
 ·rename_i h0; exact ⟨gdD_all h, h0, gdD_bar h⟩
def gdP (p : Prt) : Prop := gdD p.dig ∧ ((p.cls = 1 ∧ p.sn = false ∧ (-1000000000 ≤ p.ex ∧ p.ex ≤ 1000000000) ∧ (texT p.cls p.sg p.sn p.dig p.ex).length ≤ 4000) ∨ (p.cls = 2 ∧ p.sn = false ∧ p.dig = [] ∧ p.ex = 0) ∨ (p.cls = 3 ∧ p.ex = 0 ∧ (texT p.cls p.sg p.sn p.dig p.ex).length ≤ 4000))
theorem sig_app (s : Bool) (c : UInt8) (r : List UInt8) (h : (c.toNat : Int) ≠ 45 ∧ (c.toNat : Int) ≠ 43) : gsgB ((if s then [45] else []) ++ (c :: r)) = s ∧ sgR ((if s then [45] else []) ++ (c :: r)) = c :: r := by
 cases s
 ·exact sg_cons h
 ·exact ⟨rfl, rfl⟩
theorem sml_dg {d : List UInt8} (h : d.all dg = true) : sml d = d := by
 induction d with
 | nil => rfl
 | cons c r ih =>
  rw [List.all_cons, Bool.and_eq_true] at h
  have := dg_nat h.1
  show sm c :: sml r = c :: r
  rw [ih h.2]
  unfold sm
  rw [if_neg (by omega)]
theorem nan_pa {d : List UInt8} (h : gdD d) : sml (if d = [] then [] else 40 :: (d ++ [41])) = (if d = [] then [] else 40 :: (d ++ [41])) ∧ paB (if d = [] then [] else 40 :: (d ++ [41])) = true ∧ paD (if d = [] then [] else 40 :: (d ++ [41])) = d := by
 by_cases h0 : d = []
 ·rw [if_pos h0]; subst h0; exact ⟨rfl, rfl, rfl⟩
 ·rw [if_neg h0]
  have e1 : Lib.trimPrefix (40 :: (d ++ [41])) [40] = d ++ [41] := rfl
  have e2 : Lib.hasPrefix (40 :: (d ++ [41])) [40] = true := rfl
  obtain ⟨d1, d2⟩ := dgs_app2 (m := [41]) (gdD_all h) rfl
  refine ⟨?_, ?_, ?_⟩
  ·have := sml_dg (gdD_all h)
   unfold sml at this ⊢
   rw [List.map_cons, List.map_append, this]; rfl
  ·unfold paB; rw [e1, e2, d1, d2]
   cases d with
   | nil => exact absurd rfl h0
   | cons c r => rfl
  ·unfold paD; rw [e1, e2, d1]; rfl
theorem nan_cut (g : Bool) {d : List UInt8} (h : gdD d) : finB (nanT g d) = false ∧ infB (sml (nanT g d)) = false ∧ nanB (sml (nanT g d)) = true ∧ Lib.hasPrefix (sml (nanT g d)) [115] = g ∧ paD (nanR (sml (nanT g d))) = d := by
 obtain ⟨p1, p2, p3⟩ := nan_pa h
 unfold nanT
 generalize (if d = [] then [] else 40 :: (d ++ [41]) : List UInt8) = X at p1 p2 p3 ⊢
 cases g
 ·have e : sml ((if false = true then [115] else []) ++ ([110, 97, 110] ++ X)) = [110, 97, 110] ++ X := by
   show 110 :: 97 :: 110 :: sml X = _
   rw [p1]; rfl
  rw [e]
  refine ⟨rfl, rfl, ?_, rfl, ?_⟩
  ·show (true && paB X) = true
   rw [p2]; rfl
  ·exact p3
 ·have e : sml ((if true = true then [115] else []) ++ ([110, 97, 110] ++ X)) = 115 :: ([110, 97, 110] ++ X) := by
   show 115 :: 110 :: 97 :: 110 :: sml X = _
   rw [p1]; rfl
  rw [e]
  refine ⟨rfl, rfl, ?_, rfl, ?_⟩
  ·show (true && paB X) = true
   rw [p2]; rfl
  ·exact p3
theorem jn_of_gd {p : Prt} (h : gdP p) : jnP p := by
 obtain ⟨c, s, g, d, e⟩ := p
 obtain ⟨hd, h⟩ := h
 dsimp only at hd h
 rcases h with ⟨rfl, rfl, he, hl⟩ | ⟨rfl, rfl, rfl, rfl⟩ | ⟨rfl, rfl, hl⟩
 ·obtain ⟨t1, t2, t3⟩ := gdD_dgT hd
  have hb : bodT 1 false d e = dgT d ++ exT e := rfl
  have hdl : d.length ≤ (dgT d).length := by
   unfold dgT; split
   ·rename_i h0; subst h0; simp
   ·exact Nat.le_refl _
  have ht : texT 1 s false d e = (if s then [45] else []) ++ (dgT d ++ exT e) := rfl
  refine ⟨?_, ?_⟩
  ·rw [ht] at hl
   simp only [List.length_append] at hl
   show d.length ≤ 4000
   omega
  ·unfold cutP
   rw [if_neg (show ¬ 4000 < (texT 1 s false d e).length by omega)]
   show bodP (gsgB (texT 1 s false d e)) (sgR (texT 1 s false d e)) = _
   obtain ⟨f1, f2, f3⟩ := fin_cut (dgT d) e t1 t2 he
   have hs : gsgB (texT 1 s false d e) = s ∧ sgR (texT 1 s false d e) = dgT d ++ exT e := by
    rw [ht]
    revert t1 t2
    generalize dgT d = T
    intro t1 t2
    cases T with
    | nil => exact absurd rfl t2
    | cons c r =>
     rw [List.all_cons, Bool.and_eq_true] at t1
     have := dg_nat t1.1
     exact sig_app s c _ ⟨by omega, by omega⟩
   rw [hs.1, hs.2]
   unfold bodP
   rw [if_pos f1, f2, f3, t3]
 ·refine ⟨by simp, ?_⟩
  cases s <;> rfl
 ·have hn := nan_cut g hd
  have ht : texT 3 s g d 0 = (if s then [45] else []) ++ nanT g d := rfl
  refine ⟨?_, ?_⟩
  ·rw [ht] at hl
   unfold nanT at hl
   simp only [List.length_append] at hl
   show d.length ≤ 4000
   by_cases h0 : d = []
   ·subst h0; simp
   ·rw [if_neg h0] at hl
    simp only [List.length_cons, List.length_append] at hl
    omega
  ·unfold cutP
   rw [if_neg (show ¬ 4000 < (texT 3 s g d 0).length by omega)]
   show bodP (gsgB (texT 3 s g d 0)) (sgR (texT 3 s g d 0)) = _
   have hs : gsgB (texT 3 s g d 0) = s ∧ sgR (texT 3 s g d 0) = nanT g d := by
    rw [ht]
    cases g
    ·exact sig_app s 110 _ ⟨by decide, by decide⟩
    ·exact sig_app s 115 _ ⟨by decide, by decide⟩
   obtain ⟨n1, n2, n3, n4, n5⟩ := hn
   rw [hs.1, hs.2]
   unfold bodP
   rw [if_neg (by rw [n1]; decide), if_neg (by rw [n2]; decide), if_pos n3, n4, n5, gdD_bar hd]
theorem cut_good {l : List UInt8} {p : Prt} (h : cutP l = some p) : gdD p.dig ∧ ((p.cls = 1 ∧ p.sn = false ∧ (-1000000000 ≤ p.ex ∧ p.ex ≤ 1000000000)) ∨ (p.cls = 2 ∧ p.sn = false ∧ p.dig = [] ∧ p.ex = 0) ∨ (p.cls = 3 ∧ p.ex = 0)) := by
 unfold cutP at h
 split at h
 ·cases h
 ·unfold bodP at h
  generalize sgR l = r at h
  split at h
  ·injection h with h; subst h
   refine ⟨bar_gdD ?_, Or.inl ⟨rfl, rfl, ?_⟩⟩
   ·rw [List.all_append, all_dgs]
    unfold frac
    split
    ·rw [all_dgs]; rfl
    ·rfl
   ·show -1000000000 ≤ finE r ∧ finE r ≤ 1000000000
    unfold finE clampE
    omega
  ·split at h
   ·injection h with h; subst h
    exact ⟨Or.inl rfl, Or.inr (Or.inl ⟨rfl, rfl, rfl, rfl⟩)⟩
   ·split at h
    ·injection h with h; subst h
     refine ⟨bar_gdD ?_, Or.inr (Or.inr ⟨rfl, rfl⟩)⟩
     unfold paD
     split
     ·rw [all_dgs]
     ·rfl
    ·cases h
theorem itoa_any (e : Int) (w : World) (he : -9223372036854775808 ≤ e ∧ e ≤ 9223372036854775807) (hT : Tb10 w) :
  Calls Tryz.prog 31 #[.int .i64 e] w fun x w' => x = .returned (.string (B (Lib.itoa e))) ∧ Below w.heap.size w w' := by
 refine (Tryz.strconv_Itoa e he.1 he.2 w hT).mono ?_
 rintro x w' ⟨rfl, k, os, rfl⟩
 exact ⟨rfl, ⟨rfl, rfl, rfl, by show w.heap.size ≤ (w.heap ++ os).size; simp, fun b hb => by show (w.heap ++ os)[b]? = w.heap[b]?; rw [Array.getElem?_append_left hb]⟩⟩
theorem rx3_ff0 (e : Int) (w : World) :
  Calls Tryz.prog 62 #[PV 3 false false [] e] w fun x w' => x = .returned (.string (B ([] ++ [110, 97, 110]))) ∧ Below w.heap.size w w' := by
 have htl := B_toList
 have hsm := gcell_set_map
 have hn0 : B [] = ⟨#[]⟩ := rfl
 have p0 : (⟨#[]⟩ : ByteArray) ++ (⟨#[110, 97, 110]⟩ : ByteArray) = B ([] ++ [110, 97, 110]) := B_app ([]) ([110, 97, 110])
 have z0 : (B ([] ++ [110, 97, 110])).size = 3 := by rw [B_size]; simp only [List.length_append, List.length_cons, List.length_nil]; try omega
 generalize ([] ++ [110, 97, 110] : List UInt8) = L0 at *
 unfold PV
 go_enter Tryz.func62, Tryz.ntmps62
 go_wp2
 go_ret
 exact ⟨rfl, bgo⟩
theorem rx3_ff1 (y : UInt8) (ys : List UInt8) (hd : ys.length < 100000) (e : Int) (w : World) :
  Calls Tryz.prog 62 #[PV 3 false false (y :: ys) e] w fun x w' => x = .returned (.string (B (((([] ++ [110, 97, 110]) ++ [40]) ++ (y :: ys)) ++ [41]))) ∧ Below w.heap.size w w' := by
 have htl := B_toList
 have hsm := gcell_set_map
 have hsz : (B (y :: ys)).size = ys.length + 1 := B_size (y :: ys)
 have p0 : (⟨#[]⟩ : ByteArray) ++ (⟨#[110, 97, 110]⟩ : ByteArray) = B ([] ++ [110, 97, 110]) := B_app ([]) ([110, 97, 110])
 have z0 : (B ([] ++ [110, 97, 110])).size = 3 := by rw [B_size]; simp only [List.length_append, List.length_cons, List.length_nil]; try omega
 generalize ([] ++ [110, 97, 110] : List UInt8) = L0 at *
 have p1 : B L0 ++ (⟨#[40]⟩ : ByteArray) = B (L0 ++ [40]) := B_app (L0) ([40])
 have z1 : (B (L0 ++ [40])).size = 4 := by have h := z0; rw [B_size] at h ⊢; simp only [List.length_append, List.length_cons, List.length_nil]; omega
 generalize (L0 ++ [40] : List UInt8) = L1 at *
 have p2 : B L1 ++ B (y :: ys) = B (L1 ++ (y :: ys)) := B_app (L1) ((y :: ys))
 have z2 : (B (L1 ++ (y :: ys))).size = ys.length + 1 + 4 := by have h := z1; rw [B_size] at h ⊢; simp only [List.length_append, List.length_cons, List.length_nil]; omega
 generalize (L1 ++ (y :: ys) : List UInt8) = L2 at *
 have p3 : B L2 ++ (⟨#[41]⟩ : ByteArray) = B (L2 ++ [41]) := B_app (L2) ([41])
 have z3 : (B (L2 ++ [41])).size = ys.length + 1 + 5 := by have h := z2; rw [B_size] at h ⊢; simp only [List.length_append, List.length_cons, List.length_nil]; omega
 generalize (L2 ++ [41] : List UInt8) = L3 at *
 unfold PV
 go_enter Tryz.func62, Tryz.ntmps62
 go_wp2
 go_ret
 exact ⟨rfl, bgo⟩
theorem rx3_ft0 (e : Int) (w : World) :
  Calls Tryz.prog 62 #[PV 3 false true [] e] w fun x w' => x = .returned (.string (B (([] ++ [115]) ++ [110, 97, 110]))) ∧ Below w.heap.size w w' := by
 have htl := B_toList
 have hsm := gcell_set_map
 have hn0 : B [] = ⟨#[]⟩ := rfl
 have p0 : (⟨#[]⟩ : ByteArray) ++ (⟨#[115]⟩ : ByteArray) = B ([] ++ [115]) := B_app ([]) ([115])
 have z0 : (B ([] ++ [115])).size = 1 := by rw [B_size]; simp only [List.length_append, List.length_cons, List.length_nil]; try omega
 generalize ([] ++ [115] : List UInt8) = L0 at *
 have p1 : B L0 ++ (⟨#[110, 97, 110]⟩ : ByteArray) = B (L0 ++ [110, 97, 110]) := B_app (L0) ([110, 97, 110])
 have z1 : (B (L0 ++ [110, 97, 110])).size = 4 := by have h := z0; rw [B_size] at h ⊢; simp only [List.length_append, List.length_cons, List.length_nil]; omega
 generalize (L0 ++ [110, 97, 110] : List UInt8) = L1 at *
 unfold PV
 go_enter Tryz.func62, Tryz.ntmps62
 go_wp2
 go_ret
 exact ⟨rfl, bgo⟩
theorem rx3_ft1 (y : UInt8) (ys : List UInt8) (hd : ys.length < 100000) (e : Int) (w : World) :
  Calls Tryz.prog 62 #[PV 3 false true (y :: ys) e] w fun x w' => x = .returned (.string (B ((((([] ++ [115]) ++ [110, 97, 110]) ++ [40]) ++ (y :: ys)) ++ [41]))) ∧ Below w.heap.size w w' := by
 have htl := B_toList
 have hsm := gcell_set_map
 have hsz : (B (y :: ys)).size = ys.length + 1 := B_size (y :: ys)
 have p0 : (⟨#[]⟩ : ByteArray) ++ (⟨#[115]⟩ : ByteArray) = B ([] ++ [115]) := B_app ([]) ([115])
 have z0 : (B ([] ++ [115])).size = 1 := by rw [B_size]; simp only [List.length_append, List.length_cons, List.length_nil]; try omega
 generalize ([] ++ [115] : List UInt8) = L0 at *
 have p1 : B L0 ++ (⟨#[110, 97, 110]⟩ : ByteArray) = B (L0 ++ [110, 97, 110]) := B_app (L0) ([110, 97, 110])
 have z1 : (B (L0 ++ [110, 97, 110])).size = 4 := by have h := z0; rw [B_size] at h ⊢; simp only [List.length_append, List.length_cons, List.length_nil]; omega
 generalize (L0 ++ [110, 97, 110] : List UInt8) = L1 at *
 have p2 : B L1 ++ (⟨#[40]⟩ : ByteArray) = B (L1 ++ [40]) := B_app (L1) ([40])
 have z2 : (B (L1 ++ [40])).size = 5 := by have h := z1; rw [B_size] at h ⊢; simp only [List.length_append, List.length_cons, List.length_nil]; omega
 generalize (L1 ++ [40] : List UInt8) = L2 at *
 have p3 : B L2 ++ B (y :: ys) = B (L2 ++ (y :: ys)) := B_app (L2) ((y :: ys))
 have z3 : (B (L2 ++ (y :: ys))).size = ys.length + 1 + 5 := by have h := z2; rw [B_size] at h ⊢; simp only [List.length_append, List.length_cons, List.length_nil]; omega
 generalize (L2 ++ (y :: ys) : List UInt8) = L3 at *
 have p4 : B L3 ++ (⟨#[41]⟩ : ByteArray) = B (L3 ++ [41]) := B_app (L3) ([41])
 have z4 : (B (L3 ++ [41])).size = ys.length + 1 + 6 := by have h := z3; rw [B_size] at h ⊢; simp only [List.length_append, List.length_cons, List.length_nil]; omega
 generalize (L3 ++ [41] : List UInt8) = L4 at *
 unfold PV
 go_enter Tryz.func62, Tryz.ntmps62
 go_wp2
 go_ret
 exact ⟨rfl, bgo⟩
theorem rx3_tf0 (e : Int) (w : World) :
  Calls Tryz.prog 62 #[PV 3 true false [] e] w fun x w' => x = .returned (.string (B ([45] ++ [110, 97, 110]))) ∧ Below w.heap.size w w' := by
 have htl := B_toList
 have hsm := gcell_set_map
 have hn0 : B [] = ⟨#[]⟩ := rfl
 have p0 : (⟨#[45]⟩ : ByteArray) ++ (⟨#[110, 97, 110]⟩ : ByteArray) = B ([45] ++ [110, 97, 110]) := B_app ([45]) ([110, 97, 110])
 have z0 : (B ([45] ++ [110, 97, 110])).size = 4 := by rw [B_size]; simp only [List.length_append, List.length_cons, List.length_nil]; try omega
 generalize ([45] ++ [110, 97, 110] : List UInt8) = L0 at *
 unfold PV
 go_enter Tryz.func62, Tryz.ntmps62
 go_wp2
 go_ret
 exact ⟨rfl, bgo⟩
theorem rx3_tf1 (y : UInt8) (ys : List UInt8) (hd : ys.length < 100000) (e : Int) (w : World) :
  Calls Tryz.prog 62 #[PV 3 true false (y :: ys) e] w fun x w' => x = .returned (.string (B (((([45] ++ [110, 97, 110]) ++ [40]) ++ (y :: ys)) ++ [41]))) ∧ Below w.heap.size w w' := by
 have htl := B_toList
 have hsm := gcell_set_map
 have hsz : (B (y :: ys)).size = ys.length + 1 := B_size (y :: ys)
 have p0 : (⟨#[45]⟩ : ByteArray) ++ (⟨#[110, 97, 110]⟩ : ByteArray) = B ([45] ++ [110, 97, 110]) := B_app ([45]) ([110, 97, 110])
 have z0 : (B ([45] ++ [110, 97, 110])).size = 4 := by rw [B_size]; simp only [List.length_append, List.length_cons, List.length_nil]; try omega
 generalize ([45] ++ [110, 97, 110] : List UInt8) = L0 at *
 have p1 : B L0 ++ (⟨#[40]⟩ : ByteArray) = B (L0 ++ [40]) := B_app (L0) ([40])
 have z1 : (B (L0 ++ [40])).size = 5 := by have h := z0; rw [B_size] at h ⊢; simp only [List.length_append, List.length_cons, List.length_nil]; omega
 generalize (L0 ++ [40] : List UInt8) = L1 at *
 have p2 : B L1 ++ B (y :: ys) = B (L1 ++ (y :: ys)) := B_app (L1) ((y :: ys))
 have z2 : (B (L1 ++ (y :: ys))).size = ys.length + 1 + 5 := by have h := z1; rw [B_size] at h ⊢; simp only [List.length_append, List.length_cons, List.length_nil]; omega
 generalize (L1 ++ (y :: ys) : List UInt8) = L2 at *
 have p3 : B L2 ++ (⟨#[41]⟩ : ByteArray) = B (L2 ++ [41]) := B_app (L2) ([41])
 have z3 : (B (L2 ++ [41])).size = ys.length + 1 + 6 := by have h := z2; rw [B_size] at h ⊢; simp only [List.length_append, List.length_cons, List.length_nil]; omega
 generalize (L2 ++ [41] : List UInt8) = L3 at *
 unfold PV
 go_enter Tryz.func62, Tryz.ntmps62
 go_wp2
 go_ret
 exact ⟨rfl, bgo⟩
theorem rx3_tt0 (e : Int) (w : World) :
  Calls Tryz.prog 62 #[PV 3 true true [] e] w fun x w' => x = .returned (.string (B (([45] ++ [115]) ++ [110, 97, 110]))) ∧ Below w.heap.size w w' := by
 have htl := B_toList
 have hsm := gcell_set_map
 have hn0 : B [] = ⟨#[]⟩ := rfl
 have p0 : (⟨#[45]⟩ : ByteArray) ++ (⟨#[115]⟩ : ByteArray) = B ([45] ++ [115]) := B_app ([45]) ([115])
 have z0 : (B ([45] ++ [115])).size = 2 := by rw [B_size]; simp only [List.length_append, List.length_cons, List.length_nil]; try omega
 generalize ([45] ++ [115] : List UInt8) = L0 at *
 have p1 : B L0 ++ (⟨#[110, 97, 110]⟩ : ByteArray) = B (L0 ++ [110, 97, 110]) := B_app (L0) ([110, 97, 110])
 have z1 : (B (L0 ++ [110, 97, 110])).size = 5 := by have h := z0; rw [B_size] at h ⊢; simp only [List.length_append, List.length_cons, List.length_nil]; omega
 generalize (L0 ++ [110, 97, 110] : List UInt8) = L1 at *
 unfold PV
 go_enter Tryz.func62, Tryz.ntmps62
 go_wp2
 go_ret
 exact ⟨rfl, bgo⟩
theorem rx3_tt1 (y : UInt8) (ys : List UInt8) (hd : ys.length < 100000) (e : Int) (w : World) :
  Calls Tryz.prog 62 #[PV 3 true true (y :: ys) e] w fun x w' => x = .returned (.string (B ((((([45] ++ [115]) ++ [110, 97, 110]) ++ [40]) ++ (y :: ys)) ++ [41]))) ∧ Below w.heap.size w w' := by
 have htl := B_toList
 have hsm := gcell_set_map
 have hsz : (B (y :: ys)).size = ys.length + 1 := B_size (y :: ys)
 have p0 : (⟨#[45]⟩ : ByteArray) ++ (⟨#[115]⟩ : ByteArray) = B ([45] ++ [115]) := B_app ([45]) ([115])
 have z0 : (B ([45] ++ [115])).size = 2 := by rw [B_size]; simp only [List.length_append, List.length_cons, List.length_nil]; try omega
 generalize ([45] ++ [115] : List UInt8) = L0 at *
 have p1 : B L0 ++ (⟨#[110, 97, 110]⟩ : ByteArray) = B (L0 ++ [110, 97, 110]) := B_app (L0) ([110, 97, 110])
 have z1 : (B (L0 ++ [110, 97, 110])).size = 5 := by have h := z0; rw [B_size] at h ⊢; simp only [List.length_append, List.length_cons, List.length_nil]; omega
 generalize (L0 ++ [110, 97, 110] : List UInt8) = L1 at *
 have p2 : B L1 ++ (⟨#[40]⟩ : ByteArray) = B (L1 ++ [40]) := B_app (L1) ([40])
 have z2 : (B (L1 ++ [40])).size = 6 := by have h := z1; rw [B_size] at h ⊢; simp only [List.length_append, List.length_cons, List.length_nil]; omega
 generalize (L1 ++ [40] : List UInt8) = L2 at *
 have p3 : B L2 ++ B (y :: ys) = B (L2 ++ (y :: ys)) := B_app (L2) ((y :: ys))
 have z3 : (B (L2 ++ (y :: ys))).size = ys.length + 1 + 6 := by have h := z2; rw [B_size] at h ⊢; simp only [List.length_append, List.length_cons, List.length_nil]; omega
 generalize (L2 ++ (y :: ys) : List UInt8) = L3 at *
 have p4 : B L3 ++ (⟨#[41]⟩ : ByteArray) = B (L3 ++ [41]) := B_app (L3) ([41])
 have z4 : (B (L3 ++ [41])).size = ys.length + 1 + 7 := by have h := z3; rw [B_size] at h ⊢; simp only [List.length_append, List.length_cons, List.length_nil]; omega
 generalize (L3 ++ [41] : List UInt8) = L4 at *
 unfold PV
 go_enter Tryz.func62, Tryz.ntmps62
 go_wp2
 go_ret
 exact ⟨rfl, bgo⟩
theorem gd_2yn (s : Bool)  (w : World) :
  Calls Tryz.prog 95 #[PV 2 s false [] 0] w fun x w' => x = .returned (.bool true) ∧ Below w.heap.size w w' := by
 have htl := B_toList
 have hsm := gcell_set_map
 have hn0 : B [] = ⟨#[]⟩ := rfl
 unfold PV
 go_enter Tryz.func95, Tryz.ntmps95
 go_wp2
 go_ret
 exact ⟨rfl, bgo⟩
theorem gd_3yn (s : Bool) (g : Bool) (T : List UInt8) (hT : (T.length : Int) ≤ 4000) (w : World)
  (c26 : ∀ W, Below w.heap.size w W → Calls Tryz.prog 62 #[PV 3 s g [] 0] W fun x w' => x = .returned (.string (B T)) ∧ Below W.heap.size W w') :
  Calls Tryz.prog 95 #[PV 3 s g [] 0] w fun x w' => x = .returned (.bool true) ∧ Below w.heap.size w w' := by
 have htl := B_toList
 have hsm := gcell_set_map
 have hn0 : B [] = ⟨#[]⟩ := rfl
 have hTz := B_size T
 unfold PV at c26
 unfold PV
 go_enter Tryz.func95, Tryz.ntmps95
 go_wp2_with (first | (go_at_call 62; refine (c26 _ bgo).mono ?_; rintro x w2 ⟨rfl, hb2⟩; obtain ⟨hc2, hf2, hz2_0, hl2_0, hA2, hs2⟩ := wz w hb2 w.heap.size; clear hb2))
 go_ret
 exact ⟨rfl, bgo⟩
theorem gd_3yg (s : Bool) (g : Bool) (y : UInt8) (ys : List UInt8) (hd : ys.length < 100000) (hi : isd (y :: ys) = true) (hy : ((y.toNat : Int) == 48) = false) (T : List UInt8) (hT : (T.length : Int) ≤ 4000) (w : World)
  (c26 : ∀ W, Below w.heap.size w W → Calls Tryz.prog 62 #[PV 3 s g (y :: ys) 0] W fun x w' => x = .returned (.string (B T)) ∧ Below W.heap.size W w') :
  Calls Tryz.prog 95 #[PV 3 s g (y :: ys) 0] w fun x w' => x = .returned (.bool true) ∧ Below w.heap.size w w' := by
 have htl := B_toList
 have hsm := gcell_set_map
 have hsz : (B (y :: ys)).size = ys.length + 1 := B_size (y :: ys)
 have hsb := by_lt (l := y :: ys) (i := 0) (by rw [hsz]; omega)
 rw [by_zero] at hsb
 have hbd := y.toNat_lt
 have c34 := fun W => isd_any (y :: ys) W (by rw [List.length_cons]; omega)
 rw [hi] at c34
 have hTz := B_size T
 unfold PV at c26
 unfold PV
 go_enter Tryz.func95, Tryz.ntmps95
 go_wp2_with (first | (go_at_call 101; refine (c34 _).mono ?_; rintro x w1 ⟨rfl, hb1⟩; obtain ⟨hc1, hf1, hz1_0, hl1_0, hA1, hs1⟩ := wz w hb1 w.heap.size; clear hb1) | (go_at_call 62; refine (c26 _ bgo).mono ?_; rintro x w2 ⟨rfl, hb2⟩; obtain ⟨hc2, hf2, hz2_0, hl2_0, hA2, hs2⟩ := wz w hb2 w.heap.size; clear hb2))
 go_ret
 exact ⟨rfl, bgo⟩
theorem head_ne {y : UInt8} {ys : List UInt8} (h : by_ (y :: ys) 0 ≠ 48) : ((y.toNat : Int) == 48) = false := by
 rw [by_zero] at h; exact beq_eq_false_iff_ne.2 h
end Go.Proofs.YtplocajjfoiklaaGreatDoor
