/-
  Texts that the proof leans on, joined: Ha, Hb, Xm, Xa, Mk, Kb, Rl, Kd.
-/
import Derived.Test.YtplocajjfoiklaaGreatDoorL16
import Derived.Test.YtplocajjfoiklaaGreatDoorL24
import Derived.Test.YtplocajjfoiklaaGreatDoorL18
import Derived.Test.YtplocajjfoiklaaGreatDoorL19
import Derived.Test.YtplocajjfoiklaaGreatDoorL1
import Derived.Test.YtplocajjfoiklaaGreatDoorL5
import Derived.Test.YtplocajjfoiklaaGreatDoorL2
import Derived.Deep.Cut
import Derived.Deep.CutRange
import Derived.Deep.RegionWith
import Derived.Test.YtplocajjfoiklaaGreatDoorL17
import Derived.Test.YtplocajjfoiklaaGreatDoorL8
import Derived.Test.YtplocajjfoiklaaGreatDoorL20
import Derived.StillTail
import Derived.Below
import Derived.WalkKit
import Derived.Test.YtplocajjfoiklaaGreatDoorL13
import Derived.Test.YtplocajjfoiklaaGreatDoorL12
set_option linter.unusedVariables false
set_option linter.unusedSimpArgs false
set_option maxRecDepth 20000
set_option linter.unusedSectionVars false
namespace Go.Proofs.YtplocajjfoiklaaGreatDoor
open Go.RowKit

theorem dig_of (k : Nat) (h : k < 10) : dg (UInt8.ofNat (48 + k)) = true ∧ ((UInt8.ofNat (48 + k)).toNat : Int) = 48 + k := by
  have : (UInt8.ofNat (48 + k)).toNat = 48 + k := by
    rw [UInt8.toNat_ofNat']; omega
  refine ⟨?_, by omega⟩
  unfold dg; rw [this]; simp; omega
theorem dec_dg (u : Nat) : (Lib.decDigits u).all dg = true := by
  induction u using Nat.strongRecOn with
  | ind u ih =>
    rw [Lib.decDigits]
    split
    · rename_i h
      simp only [List.all_cons, List.all_nil, Bool.and_true]
      exact (dig_of u h).1
    · rename_i h
      rw [List.all_append, ih (u / 10) (by omega)]
      simp only [List.all_cons, List.all_nil, Bool.and_true, Bool.true_and]
      exact (dig_of (u % 10) (by omega)).1
theorem dec_nv (u : Nat) : nv (Lib.decDigits u) = u := by
  induction u using Nat.strongRecOn with
  | ind u ih =>
    rw [Lib.decDigits]
    split
    · rename_i h
      rw [gnv_one, (dig_of u h).2]; omega
    · rename_i h
      rw [nv_app, ih (u / 10) (by omega), gnv_one, (dig_of (u % 10) (by omega)).2]
      simp
      omega
theorem dec_ne (u : Nat) : Lib.decDigits u ≠ [] := by
  rw [Lib.decDigits]
  split
  · simp
  · simp
theorem dec_isd (u : Nat) : isd (Lib.decDigits u) = true := by
  unfold isd
  rw [dec_dg]
  simp [dec_ne u]
/-- no sign ahead of a digit -/
theorem sg_cons {c : UInt8} {r : List UInt8} (h : (c.toNat : Int) ≠ 45 ∧ (c.toNat : Int) ≠ 43) : gsgB (c :: r) = false ∧ sgR (c :: r) = c :: r := by
  refine ⟨by simp only [gsgB]; exact decide_eq_false h.1, ?_⟩
  simp only [sgR]
  rw [if_neg (by omega)]
theorem dg_nat {c : UInt8} (h : dg c = true) : 48 ≤ (c.toNat : Int) ∧ (c.toNat : Int) ≤ 57 := by
  unfold dg at h
  have := of_decide_eq_true h
  omega
theorem sg_all {l : List UInt8} (h : l.all dg = true) : gsgB l = false ∧ sgR l = l := by
  cases l with
  | nil => exact ⟨rfl, rfl⟩
  | cons c r =>
    rw [List.all_cons, Bool.and_eq_true] at h
    have := dg_nat h.1
    exact sg_cons ⟨by omega, by omega⟩
theorem exT_cut (e : Int) (h : -1000000000 ≤ e ∧ e ≤ 1000000000) : exB (exT e) = true ∧ exI (exT e) = e ∧ Lib.hasPrefix (exT e) [46] = false ∧ dgs (exT e) = [] ∧ rst (exT e) = exT e := by
  unfold exT
  split
  · rename_i h0; subst h0; exact ⟨rfl, rfl, rfl, rfl, rfl⟩
  · rename_i h0
    have hi : isd (sgR (Lib.itoa e)) = true ∧ exS (Lib.itoa e) = e := by
      unfold Lib.itoa
      split
      · rename_i h1
        have e1 : gsgB (45 :: Lib.decDigits e.natAbs) = true := rfl
        have e2 : sgR (45 :: Lib.decDigits e.natAbs) = Lib.decDigits e.natAbs := rfl
        unfold exS
        rw [e1, e2, if_pos rfl]
        refine ⟨dec_isd _, ?_⟩
        unfold vc; rw [dec_nv]; omega
      · rename_i h1
        obtain ⟨e1, e2⟩ := sg_all (dec_dg e.toNat)
        unfold exS
        rw [e1, e2]
        refine ⟨dec_isd _, ?_⟩
        rw [if_neg (by decide)]
        unfold vc; rw [dec_nv]; omega
    have hx : exB (101 :: Lib.itoa e) = true := by
      simp only [exB]
      rw [hi.1]; rfl
    refine ⟨hx, ?_, rfl, rfl, rfl⟩
    simp only [exI]
    rw [if_pos hx]
    exact hi.2
theorem dgs_app2 {l m : List UInt8} (h : l.all dg = true) (hm : dgs m = []) : dgs (l ++ m) = l ∧ rst (l ++ m) = m := by
  have h1 : dgs (l ++ m) = l := by
    induction l with
    | nil => exact hm
    | cons c r ih =>
      rw [List.all_cons, Bool.and_eq_true] at h
      unfold dgs at ih ⊢
      rw [List.cons_append, List.takeWhile_cons, if_pos h.1, ih h.2]
  refine ⟨h1, ?_⟩
  have e := dgs_rst (l ++ m)
  rw [h1] at e
  exact List.append_cancel_left e
theorem fin_cut (T : List UInt8) (e : Int) (hT : T.all dg = true) (hn : T ≠ []) (h : -1000000000 ≤ e ∧ e ≤ 1000000000) : finB (T ++ exT e) = true ∧ finD (T ++ exT e) = bar T ∧ finE (T ++ exT e) = e := by
  obtain ⟨h1, h2, h3, h4, h5⟩ := exT_cut e h
  obtain ⟨d1, d2⟩ := dgs_app2 hT h4
  have f1 : frac (T ++ exT e) = [] := by unfold frac; rw [d2, h3]; rfl
  have f2 : behind (T ++ exT e) = exT e := by unfold behind; rw [d2, h3]; rfl
  refine ⟨?_, ?_, ?_⟩
  · unfold finB; rw [f1, f2, h1, d1]
    cases T with
    | nil => exact absurd rfl hn
    | cons c r => rfl
  · unfold finD; rw [f1, d1, List.append_nil]
  · unfold finE; rw [f1, f2, h2]; unfold clampE; simp; omega
/-- good digits: none, or digits with no nought ahead -/
def gdD (d : List UInt8) : Prop := d = [] ∨ (isd d = true ∧ by_ d 0 ≠ 48)
theorem gdD_all {d : List UInt8} (h : gdD d) : d.all dg = true := by
  rcases h with rfl | ⟨h, _⟩
  · rfl
  · exact isd_all h
theorem gdD_bar {d : List UInt8} (h : gdD d) : bar d = d := by
  cases d with
  | nil => rfl
  | cons c r =>
    rcases h with h | ⟨_, h⟩
    · cases h
    · rw [by_zero] at h
      rw [bar_cons, if_neg h]
theorem bar_gdD {l : List UInt8} (h : l.all dg = true) : gdD (bar l) := by
  have ha := bar_all h
  cases hb : bar l with
  | nil => exact Or.inl rfl
  | cons c r =>
    rw [hb] at ha
    refine Or.inr ⟨?_, ?_⟩
    · unfold isd; rw [ha]; rfl
    · rw [by_zero]; exact bar_head hb
theorem gdD_dgT {d : List UInt8} (h : gdD d) : (dgT d).all dg = true ∧ dgT d ≠ [] ∧ bar (dgT d) = d := by
  unfold dgT
  split
  · rename_i h0; subst h0; exact ⟨rfl, by simp, rfl⟩
  · rename_i h0; exact ⟨gdD_all h, h0, gdD_bar h⟩
/-- what the document takes -/
def gdP (p : Prt) : Prop := gdD p.dig ∧ ((p.cls = 1 ∧ p.sn = false ∧ (-1000000000 ≤ p.ex ∧ p.ex ≤ 1000000000) ∧ (texT p.cls p.sg p.sn p.dig p.ex).length ≤ 4000) ∨ (p.cls = 2 ∧ p.sn = false ∧ p.dig = [] ∧ p.ex = 0) ∨ (p.cls = 3 ∧ p.ex = 0 ∧ (texT p.cls p.sg p.sn p.dig p.ex).length ≤ 4000))
theorem sig_app (s : Bool) (c : UInt8) (r : List UInt8) (h : (c.toNat : Int) ≠ 45 ∧ (c.toNat : Int) ≠ 43) : gsgB ((if s then [45] else []) ++ (c :: r)) = s ∧ sgR ((if s then [45] else []) ++ (c :: r)) = c :: r := by
  cases s
  · exact sg_cons h
  · exact ⟨rfl, rfl⟩
theorem sml_dg {d : List UInt8} (h : d.all dg = true) : sml d = d := by
  induction d with
  | nil => rfl
  | cons c r ih =>
    rw [List.all_cons, Bool.and_eq_true] at h
    have := dg_nat h.1
    show sm c :: sml r = c :: r
    rw [ih h.2]
    unfold sm
    rw [if_neg (by omega)]
theorem nan_pa {d : List UInt8} (h : gdD d) : sml (if d = [] then [] else 40 :: (d ++ [41])) = (if d = [] then [] else 40 :: (d ++ [41])) ∧ paB (if d = [] then [] else 40 :: (d ++ [41])) = true ∧ paD (if d = [] then [] else 40 :: (d ++ [41])) = d := by
  by_cases h0 : d = []
  · rw [if_pos h0]; subst h0; exact ⟨rfl, rfl, rfl⟩
  · rw [if_neg h0]
    have e1 : Lib.trimPrefix (40 :: (d ++ [41])) [40] = d ++ [41] := rfl
    have e2 : Lib.hasPrefix (40 :: (d ++ [41])) [40] = true := rfl
    obtain ⟨d1, d2⟩ := dgs_app2 (m := [41]) (gdD_all h) rfl
    refine ⟨?_, ?_, ?_⟩
    · have := sml_dg (gdD_all h)
      unfold sml at this ⊢
      rw [List.map_cons, List.map_append, this]; rfl
    · unfold paB; rw [e1, e2, d1, d2]
      cases d with
      | nil => exact absurd rfl h0
      | cons c r => rfl
    · unfold paD; rw [e1, e2, d1]; rfl
theorem nan_cut (g : Bool) {d : List UInt8} (h : gdD d) : finB (nanT g d) = false ∧ infB (sml (nanT g d)) = false ∧ nanB (sml (nanT g d)) = true ∧ Lib.hasPrefix (sml (nanT g d)) [115] = g ∧ paD (nanR (sml (nanT g d))) = d := by
  obtain ⟨p1, p2, p3⟩ := nan_pa h
  unfold nanT
  generalize (if d = [] then [] else 40 :: (d ++ [41]) : List UInt8) = X at p1 p2 p3 ⊢
  cases g
  · have e : sml ((if false = true then [115] else []) ++ ([110, 97, 110] ++ X)) = [110, 97, 110] ++ X := by
      show 110 :: 97 :: 110 :: sml X = _
      rw [p1]; rfl
    rw [e]
    refine ⟨rfl, rfl, ?_, rfl, ?_⟩
    · show (true && paB X) = true
      rw [p2]; rfl
    · exact p3
  · have e : sml ((if true = true then [115] else []) ++ ([110, 97, 110] ++ X)) = 115 :: ([110, 97, 110] ++ X) := by
      show 115 :: 110 :: 97 :: 110 :: sml X = _
      rw [p1]; rfl
    rw [e]
    refine ⟨rfl, rfl, ?_, rfl, ?_⟩
    · show (true && paB X) = true
      rw [p2]; rfl
    · exact p3
theorem jn_of_gd {p : Prt} (h : gdP p) : jnP p := by
  obtain ⟨c, s, g, d, e⟩ := p
  obtain ⟨hd, h⟩ := h
  dsimp only at hd h
  rcases h with ⟨rfl, rfl, he, hl⟩ | ⟨rfl, rfl, rfl, rfl⟩ | ⟨rfl, rfl, hl⟩
  · obtain ⟨t1, t2, t3⟩ := gdD_dgT hd
    have hb : bodT 1 false d e = dgT d ++ exT e := rfl
    have hdl : d.length ≤ (dgT d).length := by
      unfold dgT; split
      · rename_i h0; subst h0; simp
      · exact Nat.le_refl _
    have ht : texT 1 s false d e = (if s then [45] else []) ++ (dgT d ++ exT e) := rfl
    refine ⟨?_, ?_⟩
    · rw [ht] at hl
      simp only [List.length_append] at hl
      show d.length ≤ 4000
      omega
    · unfold cutP
      rw [if_neg (show ¬ 4000 < (texT 1 s false d e).length by omega)]
      show bodP (gsgB (texT 1 s false d e)) (sgR (texT 1 s false d e)) = _
      obtain ⟨f1, f2, f3⟩ := fin_cut (dgT d) e t1 t2 he
      have hs : gsgB (texT 1 s false d e) = s ∧ sgR (texT 1 s false d e) = dgT d ++ exT e := by
        rw [ht]
        revert t1 t2
        generalize dgT d = T
        intro t1 t2
        cases T with
        | nil => exact absurd rfl t2
        | cons c r =>
          rw [List.all_cons, Bool.and_eq_true] at t1
          have := dg_nat t1.1
          exact sig_app s c _ ⟨by omega, by omega⟩
      rw [hs.1, hs.2]
      unfold bodP
      rw [if_pos f1, f2, f3, t3]
  · refine ⟨by simp, ?_⟩
    cases s <;> rfl
  · have hn := nan_cut g hd
    have ht : texT 3 s g d 0 = (if s then [45] else []) ++ nanT g d := rfl
    refine ⟨?_, ?_⟩
    · rw [ht] at hl
      unfold nanT at hl
      simp only [List.length_append] at hl
      show d.length ≤ 4000
      by_cases h0 : d = []
      · subst h0; simp
      · rw [if_neg h0] at hl
        simp only [List.length_cons, List.length_append] at hl
        omega
    · unfold cutP
      rw [if_neg (show ¬ 4000 < (texT 3 s g d 0).length by omega)]
      show bodP (gsgB (texT 3 s g d 0)) (sgR (texT 3 s g d 0)) = _
      have hs : gsgB (texT 3 s g d 0) = s ∧ sgR (texT 3 s g d 0) = nanT g d := by
        rw [ht]
        cases g
        · exact sig_app s 110 _ ⟨by decide, by decide⟩
        · exact sig_app s 115 _ ⟨by decide, by decide⟩
      obtain ⟨n1, n2, n3, n4, n5⟩ := hn
      rw [hs.1, hs.2]
      unfold bodP
      rw [if_neg (by rw [n1]; decide), if_neg (by rw [n2]; decide), if_pos n3, n4, n5, gdD_bar hd]
theorem cut_good {l : List UInt8} {p : Prt} (h : cutP l = some p) : gdD p.dig ∧ ((p.cls = 1 ∧ p.sn = false ∧ (-1000000000 ≤ p.ex ∧ p.ex ≤ 1000000000)) ∨ (p.cls = 2 ∧ p.sn = false ∧ p.dig = [] ∧ p.ex = 0) ∨ (p.cls = 3 ∧ p.ex = 0)) := by
  unfold cutP at h
  split at h
  · cases h
  · unfold bodP at h
    generalize sgR l = r at h
    split at h
    · injection h with h; subst h
      refine ⟨bar_gdD ?_, Or.inl ⟨rfl, rfl, ?_⟩⟩
      · rw [List.all_append, all_dgs]
        unfold frac
        split
        · rw [all_dgs]; rfl
        · rfl
      · show -1000000000 ≤ finE r ∧ finE r ≤ 1000000000
        unfold finE clampE
        omega
    · split at h
      · injection h with h; subst h
        exact ⟨Or.inl rfl, Or.inr (Or.inl ⟨rfl, rfl, rfl, rfl⟩)⟩
      · split at h
        · injection h with h; subst h
          refine ⟨bar_gdD ?_, Or.inr (Or.inr ⟨rfl, rfl⟩)⟩
          unfold paD
          split
          · rw [all_dgs]
          · rfl
        · cases h
theorem gd_of_jn {p : Prt} (h : jnP p) : gdP p := by
  obtain ⟨hd, h⟩ := h
  have hl : (texT p.cls p.sg p.sn p.dig p.ex).length ≤ 4000 := by
    unfold cutP at h
    split at h
    · cases h
    · omega
  obtain ⟨g1, g2⟩ := cut_good h
  refine ⟨g1, ?_⟩
  rcases g2 with ⟨a, b, c⟩ | g2 | ⟨a, b⟩
  · exact Or.inl ⟨a, b, c, hl⟩
  · exact Or.inr (Or.inl g2)
  · exact Or.inr (Or.inr ⟨a, b, hl⟩)
end Go.Proofs.YtplocajjfoiklaaGreatDoor

namespace Go.Proofs.YtplocajjfoiklaaGreatDoor
open Go.RowKit

theorem itoa_any (e : Int) (w : World) (he : -9223372036854775808 ≤ e ∧ e ≤ 9223372036854775807) (hT : Tb10 w) :
    Calls Tryz.prog 31 #[.int .i64 e] w fun x w' => x = .returned (.string (B (Lib.itoa e))) ∧ Below w.heap.size w w' := by
  refine (Tryz.strconv_Itoa e he.1 he.2 w hT).mono ?_
  rintro x w' ⟨rfl, k, os, rfl⟩
  exact ⟨rfl, ⟨rfl, rfl, rfl, by show w.heap.size ≤ (w.heap ++ os).size; simp, fun b hb => by show (w.heap ++ os)[b]? = w.heap[b]?; rw [Array.getElem?_append_left hb]⟩⟩
end Go.Proofs.YtplocajjfoiklaaGreatDoor

namespace Go.Proofs.YtplocajjfoiklaaGreatDoor
open Go.RowKit

theorem nr_shift (d : Int) (s : Bool) (N D a b : Nat) (k : Int) : nrC d s (N * 2 ^ a) (D * 2 ^ b) k = nrC d s N D (k + ((a : Int) - b)) ∧ (nrR (N * 2 ^ a) (D * 2 ^ b) k = 0 ↔ nrR N D (k + ((a : Int) - b)) = 0) := by
  have h := wh_sc d s N D (a + k.toNat) (b + (-k).toNat) (n := k + ((a : Int) - b)) (by omega)
  rw [Nat.pow_add, Nat.pow_add, ← Nat.mul_assoc, ← Nat.mul_assoc] at h
  exact h
theorem rX_shift {n : Int} {N D : Nat} (hN : N ≠ 0) (hD : D ≠ 0) (a b : Nat) (x : Int) : rX n (N * 2 ^ a) (D * 2 ^ b) x = rX n N D (x + ((a : Int) - b)) - ((a : Int) - b) := by
  unfold rX wiZ
  rw [ld_shift hN hD]
  omega
theorem rd_shift (n d : Int) (s : Bool) (N : Nat) {D : Nat} (hD : D ≠ 0) (a b : Nat) (x : Int) : rdV n d s (N * 2 ^ a) (D * 2 ^ b) x = rdV n d s N D (x + ((a : Int) - b)) ∧ rdF n d s (N * 2 ^ a) (D * 2 ^ b) x = rdF n d s N D (x + ((a : Int) - b)) := by
  by_cases hN : N = 0
  · subst hN
    rw [Nat.zero_mul]
    unfold rdV rdF
    rw [if_pos rfl, if_pos rfl, if_pos rfl, if_pos rfl]
    exact ⟨rfl, rfl⟩
  have hN' : N * 2 ^ a ≠ 0 := Nat.mul_ne_zero hN (Nat.pos_iff_ne_zero.1 (Nat.two_pow_pos _))
  have eX := rX_shift (n := n) hN hD a b x
  have eL := ld_shift hN hD a b
  have eQ : rQ n (N * 2 ^ a) (D * 2 ^ b) x = rQ n N D (x + ((a : Int) - b)) := by
    unfold rQ; rw [eX, eL]; congr 1; omega
  have hk := nr_shift d s N D a b (rX n (N * 2 ^ a) (D * 2 ^ b) x - rQ n (N * 2 ^ a) (D * 2 ^ b) x)
  rw [show rX n (N * 2 ^ a) (D * 2 ^ b) x - rQ n (N * 2 ^ a) (D * 2 ^ b) x + ((a : Int) - b) = rX n N D (x + ((a : Int) - b)) - rQ n N D (x + ((a : Int) - b)) by rw [eX, eQ]; omega] at hk
  have eC : rC n d s (N * 2 ^ a) (D * 2 ^ b) x = rC n d s N D (x + ((a : Int) - b)) := hk.1
  have eC' : rC' n d s (N * 2 ^ a) (D * 2 ^ b) x = rC' n d s N D (x + ((a : Int) - b)) := by unfold rC'; rw [eC]
  have eQ' : rQ' n d s (N * 2 ^ a) (D * 2 ^ b) x = rQ' n d s N D (x + ((a : Int) - b)) := by unfold rQ'; rw [eC, eQ]
  have eS : ld (N * 2 ^ a) (D * 2 ^ b) + rX n (N * 2 ^ a) (D * 2 ^ b) x = ld N D + rX n N D (x + ((a : Int) - b)) := by rw [eX, eL]; omega
  unfold rdV rdF
  rw [if_neg hN, if_neg hN, if_neg hN', if_neg hN', eC', eQ', eS]
  refine ⟨rfl, ?_⟩
  simp only [hk.2]
/-- the fraction of a number and a power of ten, its twos apart -/
def tN (A : Nat) (e : Int) : Nat := A * 5 ^ e.toNat
def tD (e : Int) : Nat := 5 ^ (-e).toNat
/-- the exponent as the program takes it, and as the document does -/
def pwE (L : Nat) (e : Int) : Int := min (max e (-6000 - L)) (6000 - L)
end Go.Proofs.YtplocajjfoiklaaGreatDoor

namespace Go.Proofs.YtplocajjfoiklaaGreatDoor
open Go.RowKit

theorem cpy1 (W : World) (g b off cap : Nat) (v0 : Int) (h0 : W.cell? ⟨b, off, none⟩ = some (.int .u64 v0)) (c0 : (W.cell? ⟨g, 0, none⟩).isSome = true) (f0 : W.frozen? ⟨g, 0, none⟩ = false) :
    Sem.run Tryz.prog (Builtin.copy_ #[49, 49] 3 #[.slice (some ⟨g, 0, none⟩) 4 4, .slice (some ⟨b, off, none⟩) 1 cap]) W = .ok (.int .i64 1) (W.setCell ⟨g, 0, none⟩ (.int .u64 v0)) := by
  have := run_copy_cells (P := Tryz.prog) W 49 49 3 22 g 0 4 4 ⟨b, off, none⟩ 1 cap [.int .u64 v0] Tryz.underlying49 (by kernel_rfl) rfl ?_ ?_ ?_ ?_
  · exact this
  · intro j v
    match j, v with
    | 0, _ => intro h; cases h; simpa [Addr.add] using h0
    | (j + 1), _ => intro h; simp at h
  · intro j hj
    match j, hj with
    | 0, _ => simpa using c0
    | (j + 1), h => exact absurd h (by simp only [List.length_cons, List.length_nil]; omega)
  · intro j hj
    match j, hj with
    | 0, _ => simpa using f0
    | (j + 1), h => exact absurd h (by simp only [List.length_cons, List.length_nil]; omega)
  · intro v hv
    simp at hv
    first | (subst hv; rfl) | (rcases hv with rfl | rfl <;> rfl) | (rcases hv with rfl | rfl | rfl <;> rfl) | (rcases hv with rfl | rfl | rfl | rfl <;> rfl)
theorem cpy2 (W : World) (g b off cap : Nat) (v0 v1 : Int) (h0 : W.cell? ⟨b, off, none⟩ = some (.int .u64 v0)) (h1 : W.cell? ⟨b, off + 1, none⟩ = some (.int .u64 v1)) (c0 : (W.cell? ⟨g, 0, none⟩).isSome = true) (f0 : W.frozen? ⟨g, 0, none⟩ = false) (c1 : (W.cell? ⟨g, 1, none⟩).isSome = true) (f1 : W.frozen? ⟨g, 1, none⟩ = false) :
    Sem.run Tryz.prog (Builtin.copy_ #[49, 49] 3 #[.slice (some ⟨g, 0, none⟩) 4 4, .slice (some ⟨b, off, none⟩) 2 cap]) W = .ok (.int .i64 2) ((W.setCell ⟨g, 0, none⟩ (.int .u64 v0)).setCell ⟨g, 1, none⟩ (.int .u64 v1)) := by
  have := run_copy_cells (P := Tryz.prog) W 49 49 3 22 g 0 4 4 ⟨b, off, none⟩ 2 cap [.int .u64 v0, .int .u64 v1] Tryz.underlying49 (by kernel_rfl) rfl ?_ ?_ ?_ ?_
  · exact this
  · intro j v
    match j, v with
    | 0, _ => intro h; cases h; simpa [Addr.add] using h0
    | 1, _ => intro h; cases h; simpa [Addr.add] using h1
    | (j + 2), _ => intro h; simp at h
  · intro j hj
    match j, hj with
    | 0, _ => simpa using c0
    | 1, _ => simpa using c1
    | (j + 2), h => exact absurd h (by simp only [List.length_cons, List.length_nil]; omega)
  · intro j hj
    match j, hj with
    | 0, _ => simpa using f0
    | 1, _ => simpa using f1
    | (j + 2), h => exact absurd h (by simp only [List.length_cons, List.length_nil]; omega)
  · intro v hv
    simp at hv
    first | (subst hv; rfl) | (rcases hv with rfl | rfl <;> rfl) | (rcases hv with rfl | rfl | rfl <;> rfl) | (rcases hv with rfl | rfl | rfl | rfl <;> rfl)
theorem cpy3 (W : World) (g b off cap : Nat) (v0 v1 v2 : Int) (h0 : W.cell? ⟨b, off, none⟩ = some (.int .u64 v0)) (h1 : W.cell? ⟨b, off + 1, none⟩ = some (.int .u64 v1)) (h2 : W.cell? ⟨b, off + 2, none⟩ = some (.int .u64 v2)) (c0 : (W.cell? ⟨g, 0, none⟩).isSome = true) (f0 : W.frozen? ⟨g, 0, none⟩ = false) (c1 : (W.cell? ⟨g, 1, none⟩).isSome = true) (f1 : W.frozen? ⟨g, 1, none⟩ = false) (c2 : (W.cell? ⟨g, 2, none⟩).isSome = true) (f2 : W.frozen? ⟨g, 2, none⟩ = false) :
    Sem.run Tryz.prog (Builtin.copy_ #[49, 49] 3 #[.slice (some ⟨g, 0, none⟩) 4 4, .slice (some ⟨b, off, none⟩) 3 cap]) W = .ok (.int .i64 3) (((W.setCell ⟨g, 0, none⟩ (.int .u64 v0)).setCell ⟨g, 1, none⟩ (.int .u64 v1)).setCell ⟨g, 2, none⟩ (.int .u64 v2)) := by
  have := run_copy_cells (P := Tryz.prog) W 49 49 3 22 g 0 4 4 ⟨b, off, none⟩ 3 cap [.int .u64 v0, .int .u64 v1, .int .u64 v2] Tryz.underlying49 (by kernel_rfl) rfl ?_ ?_ ?_ ?_
  · exact this
  · intro j v
    match j, v with
    | 0, _ => intro h; cases h; simpa [Addr.add] using h0
    | 1, _ => intro h; cases h; simpa [Addr.add] using h1
    | 2, _ => intro h; cases h; simpa [Addr.add] using h2
    | (j + 3), _ => intro h; simp at h
  · intro j hj
    match j, hj with
    | 0, _ => simpa using c0
    | 1, _ => simpa using c1
    | 2, _ => simpa using c2
    | (j + 3), h => exact absurd h (by simp only [List.length_cons, List.length_nil]; omega)
  · intro j hj
    match j, hj with
    | 0, _ => simpa using f0
    | 1, _ => simpa using f1
    | 2, _ => simpa using f2
    | (j + 3), h => exact absurd h (by simp only [List.length_cons, List.length_nil]; omega)
  · intro v hv
    simp at hv
    first | (subst hv; rfl) | (rcases hv with rfl | rfl <;> rfl) | (rcases hv with rfl | rfl | rfl <;> rfl) | (rcases hv with rfl | rfl | rfl | rfl <;> rfl)
theorem cpy4 (W : World) (g b off cap : Nat) (v0 v1 v2 v3 : Int) (h0 : W.cell? ⟨b, off, none⟩ = some (.int .u64 v0)) (h1 : W.cell? ⟨b, off + 1, none⟩ = some (.int .u64 v1)) (h2 : W.cell? ⟨b, off + 2, none⟩ = some (.int .u64 v2)) (h3 : W.cell? ⟨b, off + 3, none⟩ = some (.int .u64 v3)) (c0 : (W.cell? ⟨g, 0, none⟩).isSome = true) (f0 : W.frozen? ⟨g, 0, none⟩ = false) (c1 : (W.cell? ⟨g, 1, none⟩).isSome = true) (f1 : W.frozen? ⟨g, 1, none⟩ = false) (c2 : (W.cell? ⟨g, 2, none⟩).isSome = true) (f2 : W.frozen? ⟨g, 2, none⟩ = false) (c3 : (W.cell? ⟨g, 3, none⟩).isSome = true) (f3 : W.frozen? ⟨g, 3, none⟩ = false) :
    Sem.run Tryz.prog (Builtin.copy_ #[49, 49] 3 #[.slice (some ⟨g, 0, none⟩) 4 4, .slice (some ⟨b, off, none⟩) 4 cap]) W = .ok (.int .i64 4) ((((W.setCell ⟨g, 0, none⟩ (.int .u64 v0)).setCell ⟨g, 1, none⟩ (.int .u64 v1)).setCell ⟨g, 2, none⟩ (.int .u64 v2)).setCell ⟨g, 3, none⟩ (.int .u64 v3)) := by
  have := run_copy_cells (P := Tryz.prog) W 49 49 3 22 g 0 4 4 ⟨b, off, none⟩ 4 cap [.int .u64 v0, .int .u64 v1, .int .u64 v2, .int .u64 v3] Tryz.underlying49 (by kernel_rfl) rfl ?_ ?_ ?_ ?_
  · exact this
  · intro j v
    match j, v with
    | 0, _ => intro h; cases h; simpa [Addr.add] using h0
    | 1, _ => intro h; cases h; simpa [Addr.add] using h1
    | 2, _ => intro h; cases h; simpa [Addr.add] using h2
    | 3, _ => intro h; cases h; simpa [Addr.add] using h3
    | (j + 4), _ => intro h; simp at h
  · intro j hj
    match j, hj with
    | 0, _ => simpa using c0
    | 1, _ => simpa using c1
    | 2, _ => simpa using c2
    | 3, _ => simpa using c3
    | (j + 4), h => exact absurd h (by simp only [List.length_cons, List.length_nil]; omega)
  · intro j hj
    match j, hj with
    | 0, _ => simpa using f0
    | 1, _ => simpa using f1
    | 2, _ => simpa using f2
    | 3, _ => simpa using f3
    | (j + 4), h => exact absurd h (by simp only [List.length_cons, List.length_nil]; omega)
  · intro v hv
    simp at hv
    first | (subst hv; rfl) | (rcases hv with rfl | rfl <;> rfl) | (rcases hv with rfl | rfl | rfl <;> rfl) | (rcases hv with rfl | rfl | rfl | rfl <;> rfl)
attribute [local irreducible] W4 Nz Nt
section
variable (n d : Int) (nm : ByteArray) (wd : Int) (f e : Nat) (l m : Int) (w : World) (hT : Tab w)
include hT
variable (c54 : ∀ W, Tab W → Calls Tryz.prog 32 #[.int .i64 n] W fun r w' => r = .returned (.tuple #[DI n nm wd f e l m, .int .i64 0]) ∧ Below W.heap.size W w')
include c54
set_option maxHeartbeats 1000000 in
theorem rck_k (hd : decide (knB d) = true) : Calls Tryz.prog 47 #[.int .i64 n, .int .i64 d] w fun r w' => r = .returned (.tuple #[DI n nm wd f e l m, .int .i64 0]) ∧ Below w.heap.size w w' := by
  have hsm := cell_set_map
  have c55 := known_any d
  rw [hd] at c55
  go_enter Tryz.func47, Tryz.ntmps47
  go_wp2_with (first
    | (go_at_call 32; refine (c54 _ (hT.go bgo)).mono ?_; rintro r w1 ⟨rfl, hb1⟩; obtain ⟨hc1, hf1⟩ := bcell hb1; have hz1_0 : w.heap.size < w1.heap.size := lt_below hb1 ltg; have hl1_0 := Nat.le_of_lt hz1_0; have hA1 := bnext (w0 := w) bgo hb1; have hs1 := hA1.size; clear hb1)
    | (go_at_call 33; refine (c55 _).mono ?_; rintro r w2 ⟨rfl, rfl⟩))
  exact bodyPost_ret (v := .tuple #[DI n nm wd f e l m, .int .i64 0]) (by simp only [results, Tryz.results47]; go_simp) rfl ⟨rfl, bgo⟩
end
theorem rck_good (n d : Int) (w : World) (hT : Tab w) (h : binN n ∧ knB d) : Calls Tryz.prog 47 #[.int .i64 n, .int .i64 d] w fun r w' => r = .returned (.tuple #[DI n (nameN n) (widthN n) (fN n) (eN n) (leastN n) (mostN n), .int .i64 0]) ∧ Below w.heap.size w w' :=
  rck_k n d _ _ _ _ _ _ w hT (fun W hT' => dof_bin h.1 W hT') (decide_eq_true h.2)
set_option maxHeartbeats 1000000 in
theorem within8 (c : Int) (s g : Bool) (d : List UInt8) (e : Int) (w : World) (hd : d.length ≤ 4000) : Calls Tryz.prog 145 #[PV c s g d e] w fun r w' => r = .returned (.int .i64 (pwE d.length e)) ∧ Below w.heap.size w w' := by
  have hsl : ((B d).size : Int) ≤ 4000 := by rw [B_size]; omega
  have HE : Hid (pwE d.length e = min (max e (-6000 - ((B d).size : Int))) (6000 - ((B d).size : Int))) := rfl
  have hsm := cell_set_map
  unfold PV
  go_enter Tryz.func145, Tryz.ntmps145
  go_wp2
  go_ret
  exact ⟨by rw [HE.out]; rfl, bgo⟩
/-- the number of digits -/
def dV (l : List UInt8) : Nat := (numV (B l) (B l).size).toNat
theorem sb_by (l : List UInt8) (i : Nat) : sb (B l) i = by_ l i := by
  unfold sb by_
  by_cases h : i < l.length
  · rw [dif_pos (show i < (B l).size from h), dif_pos h, B_get]
  · rw [dif_neg (show ¬ i < (B l).size from h), dif_neg h]
theorem dig_B {l : List UInt8} (h : l.all dg = true) : digB (B l) (B l).size = true := by
  refine digB_of _ fun k hk => ?_
  rw [sb_by]
  have hk' : k < l.length := hk
  have h1 := List.all_eq_true.1 h (l[k]'hk') (List.getElem_mem hk')
  unfold dg at h1
  unfold by_
  rw [dif_pos hk']
  have := of_decide_eq_true h1
  omega
theorem dV_lt {l : List UInt8} (h : l.all dg = true) : dV l < 10 ^ l.length ∧ (dV l : Int) = numV (B l) (B l).size := by
  obtain ⟨a, b⟩ := numV_bd _ (dig_B h)
  unfold dV
  generalize numV (B l) (B l).size = V at *
  rw [B_size] at b
  have : ((10 : Int) ^ l.length) = ((10 ^ l.length : Nat) : Int) := by simp
  rw [this] at b
  exact ⟨by omega, by omega⟩
theorem num_zero (l : List UInt8) : numV (B (48 :: l)) (B (48 :: l)).size = numV (B l) (B l).size := by
  have h := numV_app (s := B (48 :: l)) (u := B l) 1 (B l).size (fun i hi => by rw [sb_by, sb_by, Nat.add_comm, by_succ])
  have hs : (B (48 :: l)).size = 1 + (B l).size := by rw [B_size, B_size, List.length_cons]; omega
  rw [hs, h]
  have h1 : numV (B (48 :: l)) 1 = 0 := by
    have : numV (B (48 :: l)) 1 = numV (B (48 :: l)) 0 * 10 + (sb (B (48 :: l)) 0 - 48) := rfl
    rw [this, sb_by, by_zero]; rfl
  rw [h1]; omega
theorem bl_10 {A L k : Nat} (h : A < 10 ^ L) (hk : 4 * L ≤ k) : bl A ≤ k := by
  refine bl_le.2 (Nat.lt_of_lt_of_le h ?_)
  have h1 : 10 ^ L ≤ 16 ^ L := Nat.pow_le_pow_left (by decide) L
  have h2 : (16 : Nat) ^ L = 2 ^ (4 * L) := by rw [Nat.pow_mul]
  exact Nat.le_trans h1 (h2 ▸ Nat.pow_le_pow_right (by decide) hk)
theorem nz_of {a : Option Addr} {k cap K V : Nat} {z : Nat → Int} {w : World} (h : Num w a k cap z) (hv : val z k = (V : Int)) (hs : sizeL z k = k) (hb : bl V ≤ 64 * K) : Nz K V (.slice a k cap) w := by
  unfold Nz
  exact ⟨a, k, cap, z, rfl, by have := (size_bl (m := K) h.2.2.1 hv).2 hb; omega, h, hv, hs⟩
set_option maxHeartbeats 1000000 in
theorem natural8 (l : List UInt8) (w : World) (hd : l.all dg = true) (hl : l.length ≤ 4000) : Calls Tryz.prog 146 #[.string (B l)] w fun r w' => ∃ v, r = .returned v ∧ Nz 251 (dV l) v w' ∧ Below w.heap.size w w' := by
  have h48 : (48 :: l).all dg = true := by rw [List.all_cons, hd]; rfl
  have c100 := nread_ok (B (48 :: l)) w (by unfold isDigB; rw [dig_B h48]; simp [B_size]) (by rw [B_size, List.length_cons]; omega)
  rw [num_zero] at c100
  obtain ⟨hlt, he⟩ := dV_lt hd
  rw [← he] at c100
  have hbl : bl (dV l) ≤ 64 * 251 := bl_10 hlt (by omega)
  have eB : (⟨#[48]⟩ : ByteArray) ++ B l = B (48 :: l) := B_app [48] l
  have hsz : (B l).size ≤ 4000 := by rw [B_size]; exact hl
  have hs2 : ((B (48 :: l)).size : Int) ≤ 9223372036854775807 := by rw [B_size, List.length_cons]; omega
  generalize dV l = A at *
  rw [← eB] at c100 hs2
  clear hd h48 hlt he eB
  go_enter Tryz.func146, Tryz.ntmps146
  go_wp2_with (go_at_call 191; refine c100.mono ?_; rintro e w1 ⟨o, k, cap, z, rfl, hk, hN, hv, hs, hB⟩)
  go_ret
  exact ⟨_, rfl, nz_of hN hv hs hbl, hB⟩
end Go.Proofs.YtplocajjfoiklaaGreatDoor

namespace Go.Proofs.YtplocajjfoiklaaGreatDoor
open Go.RowKit

attribute [local irreducible] W4 Nz Nt
section
set_option maxHeartbeats 4000000
variable (n d : Int) (nm : ByteArray) (wd : Int) (f e : Nat) (l m : Int) (s : List UInt8) (w : World) (hT : Tab w)
include hT
variable (c54 : ∀ W, Tab W → Calls Tryz.prog 32 #[.int .i64 n] W fun r w' => r = .returned (.tuple #[DI n nm wd f e l m, .int .i64 0]) ∧ Below W.heap.size W w')
include c54
variable (hd : decide (knB d) = true)
include hd
variable (hl : s.length ≤ 4000)
include hl
theorem xr_h (sg : Bool) (X : Int) (N : Nat) (V : Nat) (F E : Int) (c34 : ∀ W, Calls Tryz.prog 34 #[.string (B s)] W fun e w' => ∃ a0 k0 p0, e = .returned (.tuple #[HV sg (.slice a0 k0 p0) X, .bool true]) ∧ Nt 300 N (.slice a0 k0 p0) w' ∧ Below W.heap.size W w') (c35 : ∀ W v v', Tab W → Nt 300 N v W → Nt 1 1 v' W → Calls Tryz.prog 35 #[.int .i64 n, .int .i64 d, .bool sg, v, v', .int .i64 X] W fun r w' => r = .returned (.tuple #[A4 V, .int .i64 F, .int .i64 E]) ∧ Below W.heap.size W w') :
    Calls Tryz.prog 11 #[.int .i64 n, .int .i64 d, .string (B s)] w fun r w' => r = .returned (.tuple #[A4 V, .int .i64 F, .int .i64 E]) ∧ Below w.heap.size w w' := by
  have hsm := cell_set_map
  have c55 := known_any d
  rw [hd] at c55
  have hsz : (B s).size = s.length := B_size s
  have hli : (s.length : Int) ≤ 4000 := by omega
  go_enter Tryz.func11, Tryz.ntmps11
  go_wp2_with (first
    | (go_at_call 32; refine (c54 _ (hT.go bgo)).mono ?_; rintro r w1 ⟨rfl, hb1⟩; obtain ⟨hc1, hf1⟩ := bcell hb1; have hz1_0 : w.heap.size < w1.heap.size := lt_below hb1 ltg; have hl1_0 := Nat.le_of_lt hz1_0; have hA1 := bnext (w0 := w) bgo hb1; have hs1 := hA1.size; clear hb1)
    | (go_at_call 33; refine (c55 _).mono ?_; rintro r w2 ⟨rfl, rfl⟩)
    | (go_at_call 34; refine (c34 _).mono ?_; rintro r w3 ⟨a3, k3, p3, rfl, hN3, hb3⟩; obtain ⟨hc3, hf3⟩ := bcell hb3; have hz3_0 : w.heap.size < w3.heap.size := lt_below hb3 ltg; have hl3_0 := Nat.le_of_lt hz3_0; have hA3 := bnext (w0 := w) bgo hb3; have hs3 := hA3.size; clear hb3; have hq4 : w.heap.size < w3.heap.size + 1 + 1 := Nat.lt_succ_of_lt (Nat.lt_succ_of_lt hz3_0); have hq5 : w.heap.size < w3.heap.size + 2 := hq4)
    | (go_at_call 35; refine (c35 _ _ _ (hT.go bgo) (hN3.next bgo) (nt_one (by simp) rfl (by decide))).mono ?_; rintro r w4 ⟨rfl, hb4⟩; obtain ⟨hc4, hf4⟩ := bcell hb4; have hz4_0 : w.heap.size < w4.heap.size := lt_below hb4 ltg; have hl4_0 := Nat.le_of_lt hz4_0; have hA4 := bnext (w0 := w) bgo hb4; have hs4 := hA4.size; clear hb4))
  exact bodyPost_ret (v := .tuple #[A4 V, .int .i64 F, .int .i64 E]) (by simp only [results, Tryz.results11]; go_simp) rfl ⟨rfl, bgo⟩
variable (c34 : ∀ W, Calls Tryz.prog 34 #[.string (B s)] W fun e w' => e = .returned (.tuple #[HZ, .bool false]) ∧ Below W.heap.size W w')
include c34
theorem xr_n (pc : Int) (ps pg : Bool) (pd : List UInt8) (pe E : Int) (c36 : ∀ W, Calls Tryz.prog 36 #[.string (B s)] W fun r w' => r = .returned (.tuple #[PV pc ps pg pd pe, .int .i64 E]) ∧ Below W.heap.size W w') (hE : (E != 0) = true) :
    Calls Tryz.prog 11 #[.int .i64 n, .int .i64 d, .string (B s)] w fun r w' => r = .returned (.tuple #[Z4, .int .i64 0, .int .i64 2]) ∧ Below w.heap.size w w' := by
  have hsm := cell_set_map
  have c55 := known_any d
  rw [hd] at c55
  have hsz : (B s).size = s.length := B_size s
  have hli : (s.length : Int) ≤ 4000 := by omega
  unfold PV at *
  go_enter Tryz.func11, Tryz.ntmps11
  go_wp2_with (first
    | (go_at_call 32; refine (c54 _ (hT.go bgo)).mono ?_; rintro r w1 ⟨rfl, hb1⟩; obtain ⟨hc1, hf1⟩ := bcell hb1; have hz1_0 : w.heap.size < w1.heap.size := lt_below hb1 ltg; have hl1_0 := Nat.le_of_lt hz1_0; have hA1 := bnext (w0 := w) bgo hb1; have hs1 := hA1.size; clear hb1)
    | (go_at_call 33; refine (c55 _).mono ?_; rintro r w2 ⟨rfl, rfl⟩)
    | (go_at_call 34; refine (c34 _).mono ?_; rintro r w3 ⟨rfl, hb3⟩; obtain ⟨hc3, hf3⟩ := bcell hb3; have hz3_0 : w.heap.size < w3.heap.size := lt_below hb3 ltg; have hl3_0 := Nat.le_of_lt hz3_0; have hA3 := bnext (w0 := w) bgo hb3; have hs3 := hA3.size; clear hb3)
    | (go_at_call 36; refine (c36 _).mono ?_; rintro r w5 ⟨rfl, hb5⟩; obtain ⟨hc5, hf5⟩ := bcell hb5; have hz5_0 : w.heap.size < w5.heap.size := lt_below hb5 ltg; have hl5_0 := Nat.le_of_lt hz5_0; have hA5 := bnext (w0 := w) bgo hb5; have hs5 := hA5.size; clear hb5))
  exact bodyPost_ret (v := .tuple #[Z4, .int .i64 0, .int .i64 2]) (by simp only [results, Tryz.results11]; go_simp) rfl ⟨rfl, bgo⟩
theorem xr_1 (pc : Int) (ps pg : Bool) (pd : List UInt8) (pe E : Int) (c36 : ∀ W, Calls Tryz.prog 36 #[.string (B s)] W fun r w' => r = .returned (.tuple #[PV pc ps pg pd pe, .int .i64 0]) ∧ Below W.heap.size W w') (h1 : pc = 1) :
    Calls Tryz.prog 11 #[.int .i64 n, .int .i64 d, .string (B s)] w fun r w' => r = .returned (.tuple #[Z4, .int .i64 0, .int .i64 2]) ∧ Below w.heap.size w w' := by
  have hsm := cell_set_map
  subst h1
  have c55 := known_any d
  rw [hd] at c55
  have hsz : (B s).size = s.length := B_size s
  have hli : (s.length : Int) ≤ 4000 := by omega
  unfold PV at *
  go_enter Tryz.func11, Tryz.ntmps11
  go_wp2_with (first
    | (go_at_call 32; refine (c54 _ (hT.go bgo)).mono ?_; rintro r w1 ⟨rfl, hb1⟩; obtain ⟨hc1, hf1⟩ := bcell hb1; have hz1_0 : w.heap.size < w1.heap.size := lt_below hb1 ltg; have hl1_0 := Nat.le_of_lt hz1_0; have hA1 := bnext (w0 := w) bgo hb1; have hs1 := hA1.size; clear hb1)
    | (go_at_call 33; refine (c55 _).mono ?_; rintro r w2 ⟨rfl, rfl⟩)
    | (go_at_call 34; refine (c34 _).mono ?_; rintro r w3 ⟨rfl, hb3⟩; obtain ⟨hc3, hf3⟩ := bcell hb3; have hz3_0 : w.heap.size < w3.heap.size := lt_below hb3 ltg; have hl3_0 := Nat.le_of_lt hz3_0; have hA3 := bnext (w0 := w) bgo hb3; have hs3 := hA3.size; clear hb3)
    | (go_at_call 36; refine (c36 _).mono ?_; rintro r w5 ⟨rfl, hb5⟩; obtain ⟨hc5, hf5⟩ := bcell hb5; have hz5_0 : w.heap.size < w5.heap.size := lt_below hb5 ltg; have hl5_0 := Nat.le_of_lt hz5_0; have hA5 := bnext (w0 := w) bgo hb5; have hs5 := hA5.size; clear hb5))
  exact bodyPost_ret (v := .tuple #[Z4, .int .i64 0, .int .i64 2]) (by simp only [results, Tryz.results11]; go_simp) rfl ⟨rfl, bgo⟩
end
end Go.Proofs.YtplocajjfoiklaaGreatDoor

namespace Go.Proofs.YtplocajjfoiklaaGreatDoor
open Go.RowKit

/-- how many hexadecimal digits stand behind the point, with noughts at the end; their number; without these noughts -/
def hbC (k : Nat) : Nat := (bl k - 1 + 3) / 4
def hbR (k : Nat) : Nat := k % 2 ^ (bl k - 1) * 2 ^ (4 * hbC k - (bl k - 1))
def hbD (k : Nat) : List UInt8 := hxS (hxL (hbR k) (hbC k))
theorem p16 (c : Nat) : (16 : Nat) ^ c = 2 ^ (4 * c) := by rw [Nat.pow_mul]
theorem hbC_le (k : Nat) : bl k - 1 ≤ 4 * hbC k := by unfold hbC; omega
theorem hbR_lt (k : Nat) : hbR k < 16 ^ hbC k := by
  unfold hbR
  have h1 := hbC_le k
  have h2 : k % 2 ^ (bl k - 1) < 2 ^ (bl k - 1) := Nat.mod_lt _ (Nat.two_pow_pos _)
  rw [p16, show (2 : Nat) ^ (4 * hbC k) = 2 ^ (bl k - 1) * 2 ^ (4 * hbC k - (bl k - 1)) by rw [← Nat.pow_add]; congr 1; omega]
  exact Nat.mul_lt_mul_of_pos_right h2 (Nat.two_pow_pos _)
theorem hb_top {k : Nat} (h : k ≠ 0) : k = 2 ^ (bl k - 1) + k % 2 ^ (bl k - 1) := by
  have hb : bl k ≠ 0 := fun e => h (bl_zero.1 e)
  have h1 : 2 ^ (bl k - 1) ≤ k := bl_ge.1 (by omega)
  have h2 : k < 2 ^ bl k := bl_le.1 (Nat.le_refl _)
  have h3 : 2 ^ bl k = 2 ^ (bl k - 1) * 2 := by rw [← Nat.pow_succ]; congr 1; omega
  have h4 : k / 2 ^ (bl k - 1) = 1 := by
    refine Nat.div_eq_of_lt_le (by omega) (by omega)
  have := Nat.div_add_mod k (2 ^ (bl k - 1))
  rw [h4, Nat.mul_one] at this
  exact this.symm
theorem hbD_facts (k : Nat) : (hbD k).all hxB = true ∧ (hbD k).length ≤ hbC k ∧ hbR k = hxV (hbD k) * 16 ^ (hbC k - (hbD k).length) := by
  obtain ⟨h1, h2, h3⟩ := hxS_val (hxL_all (hbR k) (hbC k))
  rw [hxL_val (hbR_lt k), hxL_len] at h3
  rw [hxL_len] at h2
  exact ⟨h1, h2, h3⟩
/-- the text of a number, but for its sign; of 0 -/
def hbT (k : Nat) (x : Int) : List UInt8 := [48, 120, 49] ++ (if hbD k = [] then [] else 46 :: hbD k) ++ [112] ++ (if 0 ≤ x + bl k - 1 then [43] else []) ++ Lib.itoa (x + bl k - 1)
def hbZ : List UInt8 := [48, 120, 48, 112, 43, 48]
end Go.Proofs.YtplocajjfoiklaaGreatDoor

namespace Go.Proofs.YtplocajjfoiklaaGreatDoor
open Go.RowKit

set_option maxHeartbeats 400000 in
theorem rbinary_any (n : Int) (w : World) : Calls Tryz.prog 14 #[.int .i64 n] w fun e w' => e = .returned (.bool (decide (binN n))) ∧ w' = w := by
  by_cases h1 : 1 ≤ n
  · by_cases h2 : n ≤ 6
    · rw [decide_eq_true (show binN n from ⟨h1, h2⟩)]
      go_enter Tryz.func14, Tryz.ntmps14
      go_wp2
      go_ret
      exact ⟨rfl, rfl⟩
    · rw [decide_eq_false (show ¬ binN n from fun h => h2 h.2)]
      go_enter Tryz.func14, Tryz.ntmps14
      go_wp2
      go_ret
      exact ⟨rfl, rfl⟩
  · rw [decide_eq_false (show ¬ binN n from fun h => h1 h.1)]
    go_enter Tryz.func14, Tryz.ntmps14
    go_wp2
    go_ret
    exact ⟨rfl, rfl⟩
end Go.Proofs.YtplocajjfoiklaaGreatDoor

namespace Go.Proofs.YtplocajjfoiklaaGreatDoor
open Go.RowKit

/-- a number in a list of words, or nothing, which is 0 -/
def NO (K X : Nat) (v : Value) (w : World) : Prop := (v = .slice none 0 0 ∧ X = 0) ∨ NT K X v w
theorem NO.next {K X : Nat} {v : Value} {w w' : World} (h : NO K X v w) (hb : Below w.heap.size w w') : NO K X v w' := by
  rcases h with h | h
  · exact Or.inl h
  · exact Or.inr (h.next hb)
theorem NO.more {K K' X : Nat} {v : Value} {w : World} (h : NO K X v w) (hk : K ≤ K') : NO K' X v w := by
  rcases h with h | h
  · exact Or.inl h
  · exact Or.inr (h.more hk)
theorem NO.nt {K X : Nat} {v : Value} {w : World} (h : NO K X v w) : Nt K X v w := by
  rcases h with ⟨rfl, rfl⟩ | h
  · exact ⟨none, 0, 0, fun _ => 0, rfl, Nat.zero_le _, ⟨Nat.le_refl _, by unfold maxLen; omega, fun _ => ⟨Int.le_refl _, show (0 : Int) ≤ _ by decide⟩, fun _ _ => rfl, Or.inl ⟨rfl, rfl⟩⟩, rfl⟩
  · obtain ⟨g, k, cap, z, h1, h2, h3, h4, _⟩ := h
    exact ⟨_, k, cap, z, h1, h2, h3, h4⟩
end Go.Proofs.YtplocajjfoiklaaGreatDoor
