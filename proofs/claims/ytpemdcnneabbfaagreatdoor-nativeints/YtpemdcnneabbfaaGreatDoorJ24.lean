/-
  Texts that the proof leans on.
-/
import Derived.Test.YtpemdcnneabbfaaGreatDoorJ21
import Derived.Lib.ItoaLen
import Derived.Test.YtpemdcnneabbfaaGreatDoorJ3
set_option linter.unusedVariables false
set_option linter.unusedSimpArgs false
set_option linter.unusedSectionVars false
set_option maxRecDepth 20000
namespace Go.Proofs.YtpemdcnneabbfaaGreatDoor
open Go.RowKit
section
theorem texT_len {c : Int} {s g : Bool} {d : List UInt8} {e : Int} (hd : d.length ≤ 4000) (he : -9223372036854775808 ≤ e ∧ e ≤ 9223372036854775807) : (texT c s g d e).length ≤ 4100 := by
  have hi := Lib.itoa_length_le e he.1 he.2
  have h1 : (bodT c g d e).length ≤ 4050 := by
    unfold bodT
    split
    · simp
    · split
      · unfold nanT
        simp only [List.length_append, List.length_cons]
        split <;> split <;> simp <;> omega
      · unfold finT dgT exT
        simp only [List.length_append]
        split <;> split <;> simp <;> omega
  unfold texT
  rw [List.length_append]
  split <;> simp <;> omega
set_option maxHeartbeats 2000000 in
theorem join_ok (c : Int) (s g : Bool) (d : List UInt8) (e : Int) (w : World) (hd : d.length ≤ 4000)  (T : List UInt8)
    (c24 : ∀ W, Below w.heap.size w W → Calls Tryz.prog 84 #[PV c s g d e] W fun x w' => x = .returned (.string (B T)) ∧ Below W.heap.size W w')
    (c9 : ∀ W, Calls Tryz.prog 22 #[.string (B T)] W fun x w' => x = .returned (.tuple #[PV c s g d e, .int .i64 0]) ∧ Below W.heap.size W w') :
    Calls Tryz.prog 45 #[PV c s g d e] w fun x w' => x = .returned (.tuple #[.string (B T), .int .i64 0]) ∧ Below w.heap.size w w' := by
  have htl := B_toList
  have hsz := B_size d
  have hdi : (d.length : Int) ≤ 4000 := by omega
  unfold PV at c24 c9 ⊢
  have hsm := gcell_set_map
  go_enter Tryz.func45, Tryz.ntmps45
  go_wp2_with (first | (go_at_call 84; refine (c24 _ bgo).mono ?_; rintro x w1 ⟨rfl, hb1⟩; obtain ⟨hc1, hf1⟩ := gbcell hb1; have hz1_0 : w.heap.size < w1.heap.size := glt_below hb1 ltg; have hl1_0 := Nat.le_of_lt hz1_0; have hA1 := gbnext (w0 := w) bgo hb1; have hs1 := hA1.size; clear hb1) | (go_at_call 22; refine (c9 _).mono ?_; rintro x w2 ⟨rfl, hb2⟩; obtain ⟨hc2, hf2⟩ := gbcell hb2; have hz2_0 : w.heap.size < w2.heap.size := glt_below hb2 ltg; have hl2_0 := Nat.le_of_lt hz2_0; have hA2 := gbnext (w0 := w) bgo hb2; have hs2 := hA2.size; clear hb2))
  go_ret2
  exact ⟨rfl, bgo⟩
/-- does Join take the parts? -/
def jnP (p : Prt) : Prop := p.dig.length ≤ 4000 ∧ cutP (texT p.cls p.sg p.sn p.dig p.ex) = some p
theorem cutE_some {l : List UInt8} {p : Prt} (h : cutP l = some p) : cutE l = 0 ∧ cutV l = p := by
  unfold cutE cutV
  have hl : ¬ 4000 < l.length := by
    intro h2; unfold cutP at h; rw [if_pos h2] at h; cases h
  rw [if_neg hl, h]; exact ⟨rfl, rfl⟩
def Tb10 (w : World) : Prop := Lib.TabIs Tryz.prog w "internal/strconv.uint64pow10" .u64 Lib.pow10Tab
theorem Tb10.next {w w' : World} (h : Tb10 w) (hb : Below w.heap.size w w') : Tb10 w' := Lib.tabBelow_of_tabIs h w' hb
theorem join_y (p : Prt) (w : World) (hT : Tb10 w) (he : -9223372036854775808 ≤ p.ex ∧ p.ex ≤ 9223372036854775807) (h : jnP p) :
    Calls Tryz.prog 45 #[p.v] w fun x w' => x = .returned (.tuple #[.string (B (texT p.cls p.sg p.sn p.dig p.ex)), .int .i64 0]) ∧ Below w.heap.size w w' := by
  obtain ⟨e1, e2⟩ := cutE_some h.2
  have c9 := fun W => cut_any (texT p.cls p.sg p.sn p.dig p.ex) W (by have := texT_len (c := p.cls) (s := p.sg) (g := p.sn) h.1 he; omega)
  rw [e1, e2] at c9
  exact join_ok _ _ _ _ _ w h.1 _ (fun W hW => text_any _ _ _ _ _ W (by have := h.1; omega) he (hT.next hW)) c9
end
theorem dig_of (k : Nat) (h : k < 10) : dg (UInt8.ofNat (48 + k)) = true ∧ ((UInt8.ofNat (48 + k)).toNat : Int) = 48 + k := by
  have : (UInt8.ofNat (48 + k)).toNat = 48 + k := by
    rw [UInt8.toNat_ofNat']; omega
  refine ⟨?_, by omega⟩
  unfold dg; rw [this]; simp; omega
theorem dec_dg (u : Nat) : (Lib.decDigits u).all dg = true := by
  induction u using Nat.strongRecOn with
  | ind u ih =>
    rw [Lib.decDigits]
    split
    · rename_i h
      simp only [List.all_cons, List.all_nil, Bool.and_true]
      exact (dig_of u h).1
    · rename_i h
      rw [List.all_append, ih (u / 10) (by omega)]
      simp only [List.all_cons, List.all_nil, Bool.and_true, Bool.true_and]
      exact (dig_of (u % 10) (by omega)).1
theorem dec_nv (u : Nat) : nv (Lib.decDigits u) = u := by
  induction u using Nat.strongRecOn with
  | ind u ih =>
    rw [Lib.decDigits]
    split
    · rename_i h
      rw [gnv_one, (dig_of u h).2]; omega
    · rename_i h
      rw [nv_app, ih (u / 10) (by omega), gnv_one, (dig_of (u % 10) (by omega)).2]
      simp
      omega
theorem dec_ne (u : Nat) : Lib.decDigits u ≠ [] := by
  rw [Lib.decDigits]
  split
  · simp
  · simp
theorem dec_isd (u : Nat) : isd (Lib.decDigits u) = true := by
  unfold isd
  rw [dec_dg]
  simp [dec_ne u]
/-- no sign ahead of a digit -/
theorem sg_cons {c : UInt8} {r : List UInt8} (h : (c.toNat : Int) ≠ 45 ∧ (c.toNat : Int) ≠ 43) : gsgB (c :: r) = false ∧ sgR (c :: r) = c :: r := by
  refine ⟨by simp only [gsgB]; exact decide_eq_false h.1, ?_⟩
  simp only [sgR]
  rw [if_neg (by omega)]
theorem dg_nat {c : UInt8} (h : dg c = true) : 48 ≤ (c.toNat : Int) ∧ (c.toNat : Int) ≤ 57 := by
  unfold dg at h
  have := of_decide_eq_true h
  omega
theorem sg_all {l : List UInt8} (h : l.all dg = true) : gsgB l = false ∧ sgR l = l := by
  cases l with
  | nil => exact ⟨rfl, rfl⟩
  | cons c r =>
    rw [List.all_cons, Bool.and_eq_true] at h
    have := dg_nat h.1
    exact sg_cons ⟨by omega, by omega⟩
theorem exT_cut (e : Int) (h : -1000000000 ≤ e ∧ e ≤ 1000000000) : exB (exT e) = true ∧ exI (exT e) = e ∧ Lib.hasPrefix (exT e) [46] = false ∧ dgs (exT e) = [] ∧ rst (exT e) = exT e := by
  unfold exT
  split
  · rename_i h0; subst h0; exact ⟨rfl, rfl, rfl, rfl, rfl⟩
  · rename_i h0
    have hi : isd (sgR (Lib.itoa e)) = true ∧ exS (Lib.itoa e) = e := by
      unfold Lib.itoa
      split
      · rename_i h1
        have e1 : gsgB (45 :: Lib.decDigits e.natAbs) = true := rfl
        have e2 : sgR (45 :: Lib.decDigits e.natAbs) = Lib.decDigits e.natAbs := rfl
        unfold exS
        rw [e1, e2, if_pos rfl]
        refine ⟨dec_isd _, ?_⟩
        unfold vc; rw [dec_nv]; omega
      · rename_i h1
        obtain ⟨e1, e2⟩ := sg_all (dec_dg e.toNat)
        unfold exS
        rw [e1, e2]
        refine ⟨dec_isd _, ?_⟩
        rw [if_neg (by decide)]
        unfold vc; rw [dec_nv]; omega
    have hx : exB (101 :: Lib.itoa e) = true := by
      simp only [exB]
      rw [hi.1]; rfl
    refine ⟨hx, ?_, rfl, rfl, rfl⟩
    simp only [exI]
    rw [if_pos hx]
    exact hi.2
theorem dgs_app2 {l m : List UInt8} (h : l.all dg = true) (hm : dgs m = []) : dgs (l ++ m) = l ∧ rst (l ++ m) = m := by
  have h1 : dgs (l ++ m) = l := by
    induction l with
    | nil => exact hm
    | cons c r ih =>
      rw [List.all_cons, Bool.and_eq_true] at h
      unfold dgs at ih ⊢
      rw [List.cons_append, List.takeWhile_cons, if_pos h.1, ih h.2]
  refine ⟨h1, ?_⟩
  have e := dgs_rst (l ++ m)
  rw [h1] at e
  exact List.append_cancel_left e
theorem fin_cut (T : List UInt8) (e : Int) (hT : T.all dg = true) (hn : T ≠ []) (h : -1000000000 ≤ e ∧ e ≤ 1000000000) : finB (T ++ exT e) = true ∧ finD (T ++ exT e) = bar T ∧ finE (T ++ exT e) = e := by
  obtain ⟨h1, h2, h3, h4, h5⟩ := exT_cut e h
  obtain ⟨d1, d2⟩ := dgs_app2 hT h4
  have f1 : frac (T ++ exT e) = [] := by unfold frac; rw [d2, h3]; rfl
  have f2 : behind (T ++ exT e) = exT e := by unfold behind; rw [d2, h3]; rfl
  refine ⟨?_, ?_, ?_⟩
  · unfold finB; rw [f1, f2, h1, d1]
    cases T with
    | nil => exact absurd rfl hn
    | cons c r => rfl
  · unfold finD; rw [f1, d1, List.append_nil]
  · unfold finE; rw [f1, f2, h2]; unfold clampE; simp; omega
/-- good digits: none, or digits with no nought ahead -/
def gdD (d : List UInt8) : Prop := d = [] ∨ (isd d = true ∧ by_ d 0 ≠ 48)
theorem gdD_all {d : List UInt8} (h : gdD d) : d.all dg = true := by
  rcases h with rfl | ⟨h, _⟩
  · rfl
  · exact isd_all h
theorem gdD_bar {d : List UInt8} (h : gdD d) : bar d = d := by
  cases d with
  | nil => rfl
  | cons c r =>
    rcases h with h | ⟨_, h⟩
    · cases h
    · rw [by_zero] at h
      rw [bar_cons, if_neg h]
theorem bar_gdD {l : List UInt8} (h : l.all dg = true) : gdD (bar l) := by
  have ha := bar_all h
  cases hb : bar l with
  | nil => exact Or.inl rfl
  | cons c r =>
    rw [hb] at ha
    refine Or.inr ⟨?_, ?_⟩
    · unfold isd; rw [ha]; rfl
    · rw [by_zero]; exact bar_head hb
theorem gdD_dgT {d : List UInt8} (h : gdD d) : (dgT d).all dg = true ∧ dgT d ≠ [] ∧ bar (dgT d) = d := by
  unfold dgT
  split
  · rename_i h0; subst h0; exact ⟨rfl, by simp, rfl⟩
  · rename_i h0; exact ⟨gdD_all h, h0, gdD_bar h⟩
/-- what the document takes -/
def gdP (p : Prt) : Prop := gdD p.dig ∧ ((p.cls = 1 ∧ p.sn = false ∧ (-1000000000 ≤ p.ex ∧ p.ex ≤ 1000000000) ∧ (texT p.cls p.sg p.sn p.dig p.ex).length ≤ 4000) ∨ (p.cls = 2 ∧ p.sn = false ∧ p.dig = [] ∧ p.ex = 0) ∨ (p.cls = 3 ∧ p.ex = 0 ∧ (texT p.cls p.sg p.sn p.dig p.ex).length ≤ 4000))
theorem sig_app (s : Bool) (c : UInt8) (r : List UInt8) (h : (c.toNat : Int) ≠ 45 ∧ (c.toNat : Int) ≠ 43) : gsgB ((if s then [45] else []) ++ (c :: r)) = s ∧ sgR ((if s then [45] else []) ++ (c :: r)) = c :: r := by
  cases s
  · exact sg_cons h
  · exact ⟨rfl, rfl⟩
theorem sml_dg {d : List UInt8} (h : d.all dg = true) : sml d = d := by
  induction d with
  | nil => rfl
  | cons c r ih =>
    rw [List.all_cons, Bool.and_eq_true] at h
    have := dg_nat h.1
    show sm c :: sml r = c :: r
    rw [ih h.2]
    unfold sm
    rw [if_neg (by omega)]
theorem nan_pa {d : List UInt8} (h : gdD d) : sml (if d = [] then [] else 40 :: (d ++ [41])) = (if d = [] then [] else 40 :: (d ++ [41])) ∧ paB (if d = [] then [] else 40 :: (d ++ [41])) = true ∧ paD (if d = [] then [] else 40 :: (d ++ [41])) = d := by
  by_cases h0 : d = []
  · rw [if_pos h0]; subst h0; exact ⟨rfl, rfl, rfl⟩
  · rw [if_neg h0]
    have e1 : Lib.trimPrefix (40 :: (d ++ [41])) [40] = d ++ [41] := rfl
    have e2 : Lib.hasPrefix (40 :: (d ++ [41])) [40] = true := rfl
    obtain ⟨d1, d2⟩ := dgs_app2 (m := [41]) (gdD_all h) rfl
    refine ⟨?_, ?_, ?_⟩
    · have := sml_dg (gdD_all h)
      unfold sml at this ⊢
      rw [List.map_cons, List.map_append, this]; rfl
    · unfold paB; rw [e1, e2, d1, d2]
      cases d with
      | nil => exact absurd rfl h0
      | cons c r => rfl
    · unfold paD; rw [e1, e2, d1]; rfl
theorem nan_cut (g : Bool) {d : List UInt8} (h : gdD d) : finB (nanT g d) = false ∧ infB (sml (nanT g d)) = false ∧ nanB (sml (nanT g d)) = true ∧ Lib.hasPrefix (sml (nanT g d)) [115] = g ∧ paD (nanR (sml (nanT g d))) = d := by
  obtain ⟨p1, p2, p3⟩ := nan_pa h
  unfold nanT
  generalize (if d = [] then [] else 40 :: (d ++ [41]) : List UInt8) = X at p1 p2 p3 ⊢
  cases g
  · have e : sml ((if false = true then [115] else []) ++ ([110, 97, 110] ++ X)) = [110, 97, 110] ++ X := by
      show 110 :: 97 :: 110 :: sml X = _
      rw [p1]; rfl
    rw [e]
    refine ⟨rfl, rfl, ?_, rfl, ?_⟩
    · show (true && paB X) = true
      rw [p2]; rfl
    · exact p3
  · have e : sml ((if true = true then [115] else []) ++ ([110, 97, 110] ++ X)) = 115 :: ([110, 97, 110] ++ X) := by
      show 115 :: 110 :: 97 :: 110 :: sml X = _
      rw [p1]; rfl
    rw [e]
    refine ⟨rfl, rfl, ?_, rfl, ?_⟩
    · show (true && paB X) = true
      rw [p2]; rfl
    · exact p3
theorem jn_of_gd {p : Prt} (h : gdP p) : jnP p := by
  obtain ⟨c, s, g, d, e⟩ := p
  obtain ⟨hd, h⟩ := h
  dsimp only at hd h
  rcases h with ⟨rfl, rfl, he, hl⟩ | ⟨rfl, rfl, rfl, rfl⟩ | ⟨rfl, rfl, hl⟩
  · obtain ⟨t1, t2, t3⟩ := gdD_dgT hd
    have hb : bodT 1 false d e = dgT d ++ exT e := rfl
    have hdl : d.length ≤ (dgT d).length := by
      unfold dgT; split
      · rename_i h0; subst h0; simp
      · exact Nat.le_refl _
    have ht : texT 1 s false d e = (if s then [45] else []) ++ (dgT d ++ exT e) := rfl
    refine ⟨?_, ?_⟩
    · rw [ht] at hl
      simp only [List.length_append] at hl
      show d.length ≤ 4000
      omega
    · unfold cutP
      rw [if_neg (show ¬ 4000 < (texT 1 s false d e).length by omega)]
      show bodP (gsgB (texT 1 s false d e)) (sgR (texT 1 s false d e)) = _
      obtain ⟨f1, f2, f3⟩ := fin_cut (dgT d) e t1 t2 he
      have hs : gsgB (texT 1 s false d e) = s ∧ sgR (texT 1 s false d e) = dgT d ++ exT e := by
        rw [ht]
        revert t1 t2
        generalize dgT d = T
        intro t1 t2
        cases T with
        | nil => exact absurd rfl t2
        | cons c r =>
          rw [List.all_cons, Bool.and_eq_true] at t1
          have := dg_nat t1.1
          exact sig_app s c _ ⟨by omega, by omega⟩
      rw [hs.1, hs.2]
      unfold bodP
      rw [if_pos f1, f2, f3, t3]
  · refine ⟨by simp, ?_⟩
    cases s <;> rfl
  · have hn := nan_cut g hd
    have ht : texT 3 s g d 0 = (if s then [45] else []) ++ nanT g d := rfl
    refine ⟨?_, ?_⟩
    · rw [ht] at hl
      unfold nanT at hl
      simp only [List.length_append] at hl
      show d.length ≤ 4000
      by_cases h0 : d = []
      · subst h0; simp
      · rw [if_neg h0] at hl
        simp only [List.length_cons, List.length_append] at hl
        omega
    · unfold cutP
      rw [if_neg (show ¬ 4000 < (texT 3 s g d 0).length by omega)]
      show bodP (gsgB (texT 3 s g d 0)) (sgR (texT 3 s g d 0)) = _
      have hs : gsgB (texT 3 s g d 0) = s ∧ sgR (texT 3 s g d 0) = nanT g d := by
        rw [ht]
        cases g
        · exact sig_app s 110 _ ⟨by decide, by decide⟩
        · exact sig_app s 115 _ ⟨by decide, by decide⟩
      obtain ⟨n1, n2, n3, n4, n5⟩ := hn
      rw [hs.1, hs.2]
      unfold bodP
      rw [if_neg (by rw [n1]; decide), if_neg (by rw [n2]; decide), if_pos n3, n4, n5, gdD_bar hd]
theorem cut_good {l : List UInt8} {p : Prt} (h : cutP l = some p) : gdD p.dig ∧ ((p.cls = 1 ∧ p.sn = false ∧ (-1000000000 ≤ p.ex ∧ p.ex ≤ 1000000000)) ∨ (p.cls = 2 ∧ p.sn = false ∧ p.dig = [] ∧ p.ex = 0) ∨ (p.cls = 3 ∧ p.ex = 0)) := by
  unfold cutP at h
  split at h
  · cases h
  · unfold bodP at h
    generalize sgR l = r at h
    split at h
    · injection h with h; subst h
      refine ⟨bar_gdD ?_, Or.inl ⟨rfl, rfl, ?_⟩⟩
      · rw [List.all_append, all_dgs]
        unfold frac
        split
        · rw [all_dgs]; rfl
        · rfl
      · show -1000000000 ≤ finE r ∧ finE r ≤ 1000000000
        unfold finE clampE
        omega
    · split at h
      · injection h with h; subst h
        exact ⟨Or.inl rfl, Or.inr (Or.inl ⟨rfl, rfl, rfl, rfl⟩)⟩
      · split at h
        · injection h with h; subst h
          refine ⟨bar_gdD ?_, Or.inr (Or.inr ⟨rfl, rfl⟩)⟩
          unfold paD
          split
          · rw [all_dgs]
          · rfl
        · cases h
theorem gd_of_jn {p : Prt} (h : jnP p) : gdP p := by
  obtain ⟨hd, h⟩ := h
  have hl : (texT p.cls p.sg p.sn p.dig p.ex).length ≤ 4000 := by
    unfold cutP at h
    split at h
    · cases h
    · omega
  obtain ⟨g1, g2⟩ := cut_good h
  refine ⟨g1, ?_⟩
  rcases g2 with ⟨a, b, c⟩ | g2 | ⟨a, b⟩
  · exact Or.inl ⟨a, b, c, hl⟩
  · exact Or.inr (Or.inl g2)
  · exact Or.inr (Or.inr ⟨a, b, hl⟩)
end Go.Proofs.YtpemdcnneabbfaaGreatDoor
