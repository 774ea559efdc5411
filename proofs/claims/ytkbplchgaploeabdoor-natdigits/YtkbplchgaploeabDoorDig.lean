/-
  What nat's Digits does: a contract.
-/
import Derived.Test.YtkbplchgaploeabDoorRev
set_option linter.unusedVariables false
set_option linter.unusedSimpArgs false
namespace Go.Proofs.YtkbplchgaploeabDoor
open Go.RowKit

theorem Tryd.info5 : (Tryd.prog.info? 5).map (fun i => (i.zero, i.size, i.bytes)) = some (some (.int .u8 0), 1, 1) := by kernel_rfl
/-- the digits of the lowest L places, as bytes -/
def bl (V : Int) (L : Nat) : List Value := (List.range L).map fun i => Value.int .u8 (48 + dgt V i)
theorem bl_succ (V : Int) (L : Nat) : bl V L ++ [Value.int .u8 (48 + dgt V L)] = bl V (L + 1) := by simp [bl, List.range_succ]
theorem owns_upd {w w' : World} {g base n : Nat} {v : Value} {xs : List Value} (h : w.ownsRow base 5 1 v n xs) (hU : Upd g w w') (hg : g < base) : w'.ownsRow base 5 1 v n xs := by
  obtain ⟨h1, h2⟩ := h
  refine ⟨h1, ?_⟩
  rcases h2 with h2 | ⟨g', cap, cur, e, hb, hh, r⟩
  · exact Or.inl h2
  · exact Or.inr ⟨g', cap, cur, e, hb, (hU.block g' (by omega)).trans hh, r⟩
/-- in the middle of the work: block s words z, the digits so far, all else as it was -/
def DigSt (w0 : World) (V : Int) (s : Nat) (z : Nat → Int) (ao : Option Addr) (L cp : Nat) (wr : World) : Prop :=
  Own w0.heap.size s z wr ∧ wr.ownsRow (w0.heap.size + 1) 5 1 (.slice ao L cp) L (bl V L) ∧ Below w0.heap.size w0 wr ∧ w0.heap.size + 1 ≤ wr.heap.size
def slLen : Value → Nat | .slice _ n _ => n | _ => 0

theorem p22 : ∀ s : Nat, (18446744073709551616 : Int) ^ s ≤ 10 ^ (22 * s)
  | 0 => by simp
  | s + 1 => by
    have ih := p22 s
    have e : (10 : Int) ^ (22 * (s + 1)) = 10 ^ (22 * s) * 10000000000000000000000 := by rw [Nat.mul_add, Int.pow_add]; rfl
    rw [e, Int.pow_succ]
    have h0 := pw_pos s
    have h1 := p10_pos (22 * s)
    generalize (18446744073709551616 : Int) ^ s = A at *
    generalize (10 : Int) ^ (22 * s) = B at *
    omega
theorem p10_lt {L s : Nat} (h : (10 : Int) ^ L < 18446744073709551616 ^ s) : L < 22 * s := by
  rcases Nat.lt_or_ge L (22 * s) with h' | h'
  · exact h'
  · have h2 := p22 s
    obtain ⟨k, rfl⟩ : ∃ k, L = 22 * s + k := ⟨L - 22 * s, by omega⟩
    rw [Int.pow_add] at h
    have h3 := p10_pos k
    have h4 := p10_pos (22 * s)
    have : (10 : Int) ^ (22 * s) * 1 ≤ 10 ^ (22 * s) * 10 ^ k := Int.mul_le_mul_of_nonneg_left (by omega) (by omega)
    omega
theorem val_pos {z : Nat → Int} (hz : Words z) : ∀ m, 0 < m → sizeL z m = m → 0 < val z m
  | 0, h, _ => by omega
  | m + 1, _, h => by
    have hne : z m ≠ 0 := by
      intro e
      have : sizeL z (m + 1) = sizeL z m := by simp [sizeL, e]
      have := sizeL_le z m
      omega
    have h1 := (val_bd hz m).1
    have h2 := hz m
    have h3 := pw_pos m
    show 0 < val z m + z m * 18446744073709551616 ^ m
    have : 0 < z m * 18446744073709551616 ^ m := Int.mul_pos (by omega) h3
    omega
theorem divZ_words {x : Nat → Int} {d : Int} (hx : Words x) (hd : 0 < d) (m k : Nat) : Words (divZ x d m k) := fun i => by unfold divZ; split; exact quoW_words hx hd m i; exact hx i
theorem sizeL_congr {x y : Nat → Int} : ∀ n, (∀ i, i < n → x i = y i) → sizeL x n = sizeL y n
  | 0, _ => rfl
  | n + 1, h => by simp only [sizeL]; rw [h n (by omega), sizeL_congr n fun i hi => h i (by omega)]
theorem val_bare {x : Nat → Int} (m : Nat) : val x (sizeL x m) = val x m := by
  have h1 := val_more (sizeL_zero m fun i hi => segW_zero x 0 m i hi) m (sizeL_le _ m)
  have h2 : sizeL (segW x 0 m) m = sizeL x m := sizeL_congr m fun i hi => by rw [segW_lt x 0 m i hi, Nat.zero_add]
  rw [h2] at h1
  have hle := sizeL_le x m
  rw [val_congr (x := segW x 0 m) (y := x) m fun i hi => by rw [segW_lt x 0 m i hi, Nat.zero_add], val_congr (x := segW x 0 m) (y := x) (sizeL x m) fun i hi => by rw [segW_lt x 0 m i (by omega), Nat.zero_add]] at h1
  exact h1.symm
theorem owns_cells {w : World} {base g L cap : Nat} {V : Int} (h : w.ownsRow base 5 1 (.slice (some ⟨g, 0, none⟩) L cap) L (bl V L)) : base ≤ g ∧ L ≤ cap ∧ cap ≤ maxLen ∧ HasB g L (fun i => 48 + dgt V i) w := by
  obtain ⟨hl, h⟩ := h
  rcases h with ⟨h, _⟩ | ⟨g', cap', cur, he, hb, hh, h1, h2, h3, h4⟩
  · cases h
  · cases he
    have hg : g < w.heap.size := by
      rcases Nat.lt_or_ge g w.heap.size with h' | h'
      · exact h'
      · rw [Array.getElem?_eq_none h'] at hh; cases hh
    refine ⟨hb, h1, h2, hg, fun i hi => ⟨?_, ?_⟩⟩
    · have hcur : cur[i]? = some (.int .u8 (48 + dgt V i)) := by
        have : (cur.toList.take (L * 1))[i]? = some (.int .u8 (48 + dgt V i)) := by rw [h4]; simp [bl, hi]
        rw [List.getElem?_take] at this
        simpa [hi] using this
      unfold World.cell?
      simp [hh, hcur]
    · unfold World.frozen?
      simp [hh]

set_option maxRecDepth 20000 in
set_option maxHeartbeats 2000000 in
theorem digits_any (a : Option Addr) (n c : Nat) (x : Nat → Int) (w : World) (hn : n < 4294967296) (h : Num w a n c x) (hsz : sizeL x n ≤ 2000) :
    Calls Tryd.prog 6 #[.slice a n c] w fun e w' => ∃ L, val x n < 10 ^ L ∧ e = .returned (.tuple #[.string (strOfNums (decL (val x n) L)), .int .i64 0]) ∧ Below w.heap.size w w' := by
  have hb := bare_any a n c x w hn h
  have ht := ntrim_any a n c x w hn h
  obtain ⟨s, hs⟩ : ∃ s, sizeL x n = s := ⟨_, rfl⟩
  have hss := sizeL_sizeL x n
  have hx := h.2.2.1
  have hval : val x n = val x s := by rw [← hs]; exact val_more (sizeL_zero n h.2.2.2.1) n (sizeL_le x n)
  rw [hval]
  obtain ⟨V, hV⟩ : ∃ V, val x s = V := ⟨_, rfl⟩
  rw [hs] at hb ht hsz hss
  have hV0 : 0 ≤ V := by rw [← hV]; exact (val_bd hx s).1
  have hst0 : DigSt w V s x none 0 0 (w.alloc (.cells (arrOf x s) 34)) := ⟨Own.new w x s, World.ownsRow_nil _ _ _ _, below1 w _, by simp⟩
  rw [hV]
  have HVB : Hid (V < 18446744073709551616 ^ s) := by show _ < _; rw [← hV]; exact (val_bd hx s).2
  have HV : Hid (val x s = V) := hV
  have HSS : Hid (sizeL x s = s) := hss
  have HX : Hid (Words x) := hx
  clear h hval hs hV hss hx
  go_enter Tryd.func6, Tryd.ntmps6
  go_wp2_with (first | (go_at_call 13; refine hb.mono ?_; rintro e w' ⟨rfl, rfl⟩) | (go_at_call 14; refine ht.mono ?_; rintro e w' ⟨rfl, rfl⟩))
  generalize w.alloc (.cells (arrOf x s) 34) = wA at *
  go_loopw [4, 5, 6, 20] (fun dv lv u6 u20 wr => ∃ (L m cp : Nat) (ao : Option Addr) (z : Nat → Int), dv = .slice ao L cp ∧ lv = .slice (some ⟨w.heap.size, 0, none⟩) m s ∧ m ≤ s ∧ L ≤ 22 * s + 18 ∧ Words z ∧ sizeL z m = m ∧ val z m = V / 10 ^ L ∧ DigSt w V s z ao L cp wr) (fun dv _ _ _ _ => 22 * s + 19 - slLen dv)
  case atStart => exact ⟨0, s, 0, none, x, rfl, rfl, Nat.le_refl _, by omega, HX.out, HSS.out, by rw [HV.out]; simp, hst0⟩
  case round =>
    obtain ⟨L, m, cp, ao, z, rfl, rfl, hm, hLs, hz, hzm, hv, hst⟩ := hrel
    by_cases h0 : m = 0
    · subst h0
      have hVL : V < 10 ^ L := by
        have e : V / 10 ^ L = 0 := hv.symm
        have := Int.lt_mul_ediv_self_add (x := V) (k := 10 ^ L) (p10_pos L)
        rw [e] at this; simpa using this
      obtain ⟨hO, hown, hB, hsz2⟩ := hst
      have hown' := hown
      obtain ⟨hl, hcase⟩ := hown'
      rcases hcase with ⟨he, hL0⟩ | ⟨g, cap, cur, he, _⟩
      · cases he
        have hTn := trimRight_nil wr
        have HV2 : Hid (V < 10 ^ 0) := hVL
        have HB : Hid (Below w.heap.size w wr) := hB
        clear hVL hB hown hl hO hv hst0
        go_wp2_with (go_at_call 16; refine hTn.mono ?_; rintro e w' ⟨rfl, rfl⟩)
        go_ret2
        exact ⟨0, HV2.out, rfl, HB.out⟩
      · cases he
        obtain ⟨hbg, hLc, hcm, hHB⟩ := owns_cells hown
        have hTr := trimRight_any g L cp (dgt V) wr (by omega) hLc hcm (dgt_bd V) (fun i hi => (hHB.2 i hi).1)
        have hKL := sizeL_le (dgt V) L
        have hRv := reverse_any g (sizeL (dgt V) L) cp (fun i => 48 + dgt V i) wr (by omega) ⟨hHB.1, fun i hi => hHB.2 i (by omega)⟩
        have HD : Hid (decL V L = if sizeL (dgt V) L = 0 then [48] else (List.range (sizeL (dgt V) L)).map fun i => 48 + dgt V (sizeL (dgt V) L - 1 - i)) := rfl
        have HV2 : Hid (V < 10 ^ L) := hVL
        have HB : Hid (Below w.heap.size w wr) := hB
        have HG : Hid (w.heap.size ≤ g) := by show _ ≤ _; omega
        generalize sizeL (dgt V) L = K at *
        clear hVL hB hown hl hO hv hst0 hHB
        by_cases hK : K = 0
        · subst hK
          have HD0 : Hid (strOfNums (decL V L) = ⟨#[48]⟩) := by show _ = _; rw [HD.out]; rfl
          clear HD hRv
          go_wp2_with (go_at_call 16; refine hTr.mono ?_; rintro e w' ⟨rfl, rfl⟩)
          go_ret2
          exact ⟨L, HV2.out, by rw [HD0.out]; rfl, HB.out⟩
        · have hK0 : ((K : Int) == 0) = false := by simp; omega
          rw [if_neg hK] at HD
          go_wp2_with (first | (go_at_call 16; refine hTr.mono ?_; rintro e w' ⟨rfl, rfl⟩) | (go_at_call 17; refine hRv.mono ?_; rintro e w2 ⟨rfl, hB2, hU2⟩; have hcv := run_convert_bytes_arg (P := Tryd.prog) w2 36 5 Tryd.underlying36 Tryd.underlying5 g 0 K cp (decL V L) (by rw [HD.out]; simp) (fun i hi => by rw [HD.out, Nat.zero_add, (hB2.2 i hi).1]; simp [hi]) 9 Tryd.underlying9))
          go_ret2
          exact ⟨L, HV2.out, rfl, HB.out.trans (hU2.below HG.out)⟩
    · have hm0 : (0 : Int) < m := by omega
      have hd := divideBy_any w.heap.size s m s z 10000000000000000000 wr hm (by omega) hz (by omega) hst.1
      have hL : L < 22 * s := by
        have h1 := val_pos hz m (by omega) hzm
        rw [hv] at h1
        refine p10_lt (Int.lt_of_le_of_lt ?_ HVB.out)
        have h2 := p10_pos L
        rcases Int.lt_or_le V (10 ^ L) with h3 | h3
        · rw [Int.ediv_eq_zero_of_lt hV0 h3] at h1; omega
        · exact h3
      have HZM : Hid (sizeL z m = m) := hzm
      have hq := quo_val hz (show (0 : Int) < 10000000000000000000 by decide) m
      have hr : V / 10 ^ L % 10 ^ 19 = remJ z 10000000000000000000 m m := by rw [hq.2, hv]; rfl
      have hrb := remJ_bd z 10000000000000000000 m m (by decide)
      have HW : Hid (Words (divZ z 10000000000000000000 m 0)) := divZ_words hz (by decide) m 0
      have HQ : Hid (val (divZ z 10000000000000000000 m 0) m = V / 10 ^ (L + 19)) := by
        show _ = _
        rw [val_congr (y := quoW z 10000000000000000000 m) m fun i hi => by unfold divZ; rw [if_pos (by omega)], hq.1, hv, ← div_div10]; rfl
      have HR : Hid (∀ j, j < 19 → remJ z 10000000000000000000 m m / 10 ^ j % 10 = dgt V (L + j)) := fun j hj => dgt_step hr hj
      generalize remJ z 10000000000000000000 m m = r at *
      generalize hz' : divZ z 10000000000000000000 m 0 = z' at *
      have HST : Hid (DigSt w V s z ao L cp wr) := hst
      clear hst hzm hq hr hv hz' hst0 hz
      go_wp2_with (go_at_call 15; refine hd.mono ?_; rintro e w1 ⟨rfl, hO1, hU1⟩)
      have hst1 : DigSt w V s z' ao L cp w1 := ⟨hO1, owns_upd HST.out.2.1 hU1 (by omega), HST.out.2.2.1.trans (hU1.below (Nat.le_refl _)), by rw [hU1.size]; exact HST.out.2.2.2⟩
      clear hO1 hU1 hd
      go_loopw [4, 6, 20] (fun dv pv cv wr => ∃ (j cp : Nat) (ao : Option Addr), j ≤ 19 ∧ dv = .slice ao (L + j) cp ∧ pv = .int .u64 (r / 10 ^ j) ∧ cv = .int .i64 j ∧ DigSt w V s z' ao (L + j) cp wr) (fun _ _ cv _ => 19 - (intOf cv).toNat)
      case atStart => exact ⟨0, cp, ao, by omega, rfl, by simp, rfl, hst1⟩
      case round =>
        clear hst1 HST
        obtain ⟨j, cp2, ao2, hj, rfl, rfl, rfl, hst2⟩ := hrel
        by_cases hj19 : j < 19
        · have hji : (j : Int) < 19 := by omega
          have hp : 0 ≤ r / 10 ^ j ∧ r / 10 ^ j ≤ 18446744073709551615 := by
            have h1 := p10_pos j
            have h2 := Int.ediv_nonneg hrb.1 (Int.le_of_lt h1)
            have h3 : r / 10 ^ j ≤ r := Int.ediv_le_self _ hrb.1
            omega
          have HP : Hid (r / 10 ^ (j + 1) = r / 10 ^ j / 10) := by
            show _ = _
            rw [Int.pow_succ, ← Int.ediv_ediv_of_nonneg (Int.le_of_lt (p10_pos j))]
          have HVAL : Hid (r / 10 ^ j % 10 = dgt V (L + j)) := HR.out j hj19
          generalize r / 10 ^ j = p at *
          obtain ⟨i0, hi, hz0, hz1, hz2⟩ := info_parts Tryd.info5
          obtain ⟨hO, hown, hB, hsz2⟩ := hst2
          have HOwn : Hid (Own w.heap.size s z' wr) := hO
          have HO : Hid (wr.ownsRow (w.heap.size + 1) 5 1 (.slice ao2 (L + j) cp2) (L + j) (bl V (L + j))) := hown
          have HOWN : (wr.alloc (.cells #[.int .u8 (48 + p % 10)] 5)).ownsRow (w.heap.size + 1) 5 1 (.slice ao2 (L + j) cp2) (L + j) (bl V (L + j)) := hown.alloc _
          have HNEWS : ∀ (q : Nat) (u : Value), [Value.int .u8 (48 + p % 10)][q]? = some u → (wr.alloc (.cells #[.int .u8 (48 + p % 10)] 5)).cell? ((⟨wr.heap.size, 0, none⟩ : Addr).add q) = some u := by
            intro q u hq
            match q, hq with
            | 0, hq => simp at hq; subst hq; simp [Addr.add]
          have HONE : ∀ u ∈ [Value.int .u8 (48 + p % 10)], u.oneCell' = true := by
            intro u hu; simp at hu; subst hu; rfl
          clear hO hown
          go_wp2_with (first | (at_builtin; refine wpList_append_lies _ rfl (.tmp 22) (.tmp 27) 36 rfl (w.heap.size + 1) 5 i0 (.int .u8 0) 1 1 Tryd.underlying36 hi hz0 hz1 hz2 rfl (by decide) (.slice ao2 (L + j) cp2) (L + j) (bl V (L + j)) rfl HOWN ⟨wr.heap.size, 0, none⟩ 1 1 [Value.int .u8 (48 + p % 10)] rfl rfl HNEWS HONE (by omega) (by unfold maxLen; omega) (by omega) (by simp; omega) (wr.heap.size + 1) (by simp) ?_; intro g cap w1 hown1 hgrow hat hlt1; clear HOWN HNEWS HONE))
          have hrow : ∀ q, (Value.slice ao2 (L + j) cp2).ownBlock = some q → w.heap.size + 1 ≤ q := by
            intro q hq
            rcases ao2 with _ | ⟨bb, oo, sp⟩
            · cases hq
            · cases hq
              obtain ⟨_, h1⟩ := HO.out
              rcases h1 with ⟨h1, _⟩ | ⟨g', _, _, h1, h2, _⟩
              · cases h1
              · cases h1; exact h2
          have hown2 : w1.ownsRow (w.heap.size + 1) 5 1 (.slice (some ⟨g, 0, none⟩) (L + (j + 1)) cap) (L + (j + 1)) (bl V (L + (j + 1))) := by
            rw [HVAL.out, bl_succ] at hown1; exact hown1
          have HB1 : Below (w.heap.size + 1) wr w1 := ((Below.refl _ wr).alloc hsz2 _).grown hgrow (by simp; omega) hrow
          have HST2 : DigSt w V s z' (some ⟨g, 0, none⟩) (L + (j + 1)) cap w1 := ⟨Below.own HB1 (by omega) HOwn.out, hown2, hB.trans (HB1.mono (by omega)), Nat.le_trans hsz2 HB1.size⟩
          clear hown1 hgrow hown2 HB1 hB hrow
          go_wp2
          go_roundw
          case rel => exact ⟨j + 1, cap, some ⟨g, 0, none⟩, by omega, rfl, by rw [HP.out], by go_num, HST2⟩
          case measure => simp [intOf]; omega
        · obtain rfl : j = 19 := by omega
          obtain ⟨m', hm'⟩ : ∃ m', sizeL z' m = m' := ⟨_, rfl⟩
          have hmle := sizeL_le z' m
          have hbr := bare_any (some ⟨w.heap.size, 0, none⟩) m s (segW z' 0 m) wr (by omega) (hst2.1.num HW.out 0 m s (by omega) hm (by unfold maxLen; omega))
          have e1 : sizeL (segW z' 0 m) m = m' := by rw [← hm']; exact sizeL_congr m fun i hi => by rw [segW_lt z' 0 m i hi, Nat.zero_add]
          rw [e1] at hbr
          rw [hm'] at hmle
          have HM1 : Hid (sizeL z' m' = m') := by show _ = _; rw [← hm']; exact sizeL_sizeL z' m
          have HM2 : Hid (val z' m' = V / 10 ^ (L + 19)) := by show _ = _; rw [← hm', val_bare, HQ.out]
          have HST : Hid (DigSt w V s z' ao2 (L + 19) cp2 wr) := hst2
          clear hst2 e1 hm'
          go_wp2_with (go_at_call 13; refine hbr.mono ?_; rintro e w2 ⟨rfl, rfl⟩)
          go_roundw
          case rel => exact ⟨L + 19, m', cp2, ao2, z', rfl, rfl, by omega, by omega, HW.out, HM1.out, HM2.out, HST.out⟩
          case measure => simp [slLen]; omega
end Go.Proofs.YtkbplchgaploeabDoor
