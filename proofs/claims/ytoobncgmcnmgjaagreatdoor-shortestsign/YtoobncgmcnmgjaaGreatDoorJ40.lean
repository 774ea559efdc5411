/-
  Texts that the proof leans on, joined: Dgn, Sw9, Sx9.
-/
import Derived.Test.YtoobncgmcnmgjaaGreatDoorJ39
import Derived.Test.YtoobncgmcnmgjaaGreatDoorJ24
import Derived.Test.YtoobncgmcnmgjaaGreatDoorJ30
import Derived.Test.YtoobncgmcnmgjaaGreatDoorJ1
set_option linter.unusedVariables false
set_option linter.unusedSimpArgs false
set_option maxRecDepth 20000
set_option linter.unusedSectionVars false
namespace Go.Proofs.YtoobncgmcnmgjaaGreatDoor
open Go.RowKit

set_option maxHeartbeats 2000000 in
theorem ndigits_any (a : Option Addr) (n c : Nat) (x : Nat → Int) (w : World) (hn : n < 4294967296) (h : Num w a n c x) (hsz : sizeL x n ≤ 2000) :
    Calls Tryz.prog 104 #[.slice a n c] w fun e w' => ∃ L, val x n < 10 ^ L ∧ e = .returned (.tuple #[.string (strOfNums (decL (val x n) L)), .int .i64 0]) ∧ Below w.heap.size w w' := by
  have hb := bare_any a n c x w hn h
  have ht := ntrim_any a n c x w hn h
  obtain ⟨s, hs⟩ : ∃ s, sizeL x n = s := ⟨_, rfl⟩
  have hss := sizeL_sizeL x n
  have hx := h.2.2.1
  have hval : val x n = val x s := by rw [← hs]; exact val_more (sizeL_zero n h.2.2.2.1) n (sizeL_le x n)
  rw [hval]
  obtain ⟨V, hV⟩ : ∃ V, val x s = V := ⟨_, rfl⟩
  rw [hs] at hb ht hsz hss
  have hV0 : 0 ≤ V := by rw [← hV]; exact (val_bd hx s).1
  have hst0 : DigSt w V s x none 0 0 (w.alloc (.cells (arrOf x s) 22)) := ⟨Own.new w x s, World.ownsRow_nil _ _ _ _, below1 w _, by simp⟩
  rw [hV]
  have HVB : Hid (V < 18446744073709551616 ^ s) := by show _ < _; rw [← hV]; exact (val_bd hx s).2
  have HV : Hid (val x s = V) := hV
  have HSS : Hid (sizeL x s = s) := hss
  have HX : Hid (Words x) := hx
  clear h hval hs hV hss hx
  go_enter Tryz.func104, Tryz.ntmps104
  go_wp2_with (first | (go_at_call 125; refine hb.mono ?_; rintro e w' ⟨rfl, rfl⟩) | (go_at_call 132; refine ht.mono ?_; rintro e w' ⟨rfl, rfl⟩))
  generalize w.alloc (.cells (arrOf x s) 22) = wA at *
  go_loopw [4, 5, 6, 20] (fun dv lv u6 u20 wr => ∃ (L m cp : Nat) (ao : Option Addr) (z : Nat → Int), dv = .slice ao L cp ∧ lv = .slice (some ⟨w.heap.size, 0, none⟩) m s ∧ m ≤ s ∧ L ≤ 22 * s + 18 ∧ Words z ∧ sizeL z m = m ∧ val z m = V / 10 ^ L ∧ DigSt w V s z ao L cp wr) (fun dv _ _ _ _ => 22 * s + 19 - slLen dv)
  case atStart => exact ⟨0, s, 0, none, x, rfl, rfl, Nat.le_refl _, by omega, HX.out, HSS.out, by rw [HV.out]; simp, hst0⟩
  case round =>
    obtain ⟨L, m, cp, ao, z, rfl, rfl, hm, hLs, hz, hzm, hv, hst⟩ := hrel
    by_cases h0 : m = 0
    · subst h0
      have hVL : V < 10 ^ L := by
        have e : V / 10 ^ L = 0 := hv.symm
        have := Int.lt_mul_ediv_self_add (x := V) (k := 10 ^ L) (p10_pos L)
        rw [e] at this; simpa using this
      obtain ⟨hO, hown, hB, hsz2⟩ := hst
      have hown' := hown
      obtain ⟨hl, hcase⟩ := hown'
      rcases hcase with ⟨he, hL0⟩ | ⟨g, cap, cur, he, _⟩
      · cases he
        have hTn := trimRight_nil wr
        have HV2 : Hid (V < 10 ^ 0) := hVL
        have HB : Hid (Below w.heap.size w wr) := hB
        clear hVL hB hown hl hO hv hst0
        go_wp2_with (go_at_call 134; refine hTn.mono ?_; rintro e w' ⟨rfl, rfl⟩)
        go_ret2
        exact ⟨0, HV2.out, rfl, HB.out⟩
      · cases he
        obtain ⟨hbg, hLc, hcm, hHB⟩ := owns_cells hown
        have hTr := trimRight_any g L cp (dgt V) wr (by omega) hLc hcm (dgt_bd V) (fun i hi => (hHB.2 i hi).1)
        have hKL := sizeL_le (dgt V) L
        have hRv := reverse_any g (sizeL (dgt V) L) cp (fun i => 48 + dgt V i) wr (by omega) ⟨hHB.1, fun i hi => hHB.2 i (by omega)⟩
        have HD : Hid (decL V L = if sizeL (dgt V) L = 0 then [48] else (List.range (sizeL (dgt V) L)).map fun i => 48 + dgt V (sizeL (dgt V) L - 1 - i)) := rfl
        have HV2 : Hid (V < 10 ^ L) := hVL
        have HB : Hid (Below w.heap.size w wr) := hB
        have HG : Hid (w.heap.size ≤ g) := by show _ ≤ _; omega
        generalize sizeL (dgt V) L = K at *
        clear hVL hB hown hl hO hv hst0 hHB
        by_cases hK : K = 0
        · subst hK
          have HD0 : Hid (strOfNums (decL V L) = ⟨#[48]⟩) := by show _ = _; rw [HD.out]; rfl
          clear HD hRv
          go_wp2_with (go_at_call 134; refine hTr.mono ?_; rintro e w' ⟨rfl, rfl⟩)
          go_ret2
          exact ⟨L, HV2.out, by rw [HD0.out]; rfl, HB.out⟩
        · have hK0 : ((K : Int) == 0) = false := by simp; omega
          rw [if_neg hK] at HD
          go_wp2_with (first | (go_at_call 134; refine hTr.mono ?_; rintro e w' ⟨rfl, rfl⟩) | (go_at_call 135; refine hRv.mono ?_; rintro e w2 ⟨rfl, hB2, hU2⟩; have hcv := run_convert_bytes_arg (P := Tryz.prog) w2 80 5 Tryz.underlying80 Tryz.underlying5 g 0 K cp (decL V L) (by rw [HD.out]; simp) (fun i hi => by rw [HD.out, Nat.zero_add, (hB2.2 i hi).1]; simp [hi]) 9 Tryz.underlying9))
          go_ret2
          exact ⟨L, HV2.out, rfl, HB.out.trans (hU2.below HG.out)⟩
    · have hm0 : (0 : Int) < m := by omega
      have hd := divideBy_any w.heap.size s m s z 10000000000000000000 wr hm (by omega) hz (by omega) hst.1
      have hL : L < 22 * s := by
        have h1 := val_pos hz m (by omega) hzm
        rw [hv] at h1
        refine p10_lt (Int.lt_of_le_of_lt ?_ HVB.out)
        have h2 := p10_pos L
        rcases Int.lt_or_le V (10 ^ L) with h3 | h3
        · rw [Int.ediv_eq_zero_of_lt hV0 h3] at h1; omega
        · exact h3
      have HZM : Hid (sizeL z m = m) := hzm
      have hq := quo_val hz (show (0 : Int) < 10000000000000000000 by decide) m
      have hr : V / 10 ^ L % 10 ^ 19 = remJ z 10000000000000000000 m m := by rw [hq.2, hv]; rfl
      have hrb := remJ_bd z 10000000000000000000 m m (by decide)
      have HW : Hid (Words (divZ z 10000000000000000000 m 0)) := divZ_words hz (by decide) m 0
      have HQ : Hid (val (divZ z 10000000000000000000 m 0) m = V / 10 ^ (L + 19)) := by
        show _ = _
        rw [val_congr (y := quoW z 10000000000000000000 m) m fun i hi => by unfold divZ; rw [if_pos (by omega)], hq.1, hv, ← div_div10]; rfl
      have HR : Hid (∀ j, j < 19 → remJ z 10000000000000000000 m m / 10 ^ j % 10 = dgt V (L + j)) := fun j hj => dgt_step hr hj
      generalize remJ z 10000000000000000000 m m = r at *
      generalize hz' : divZ z 10000000000000000000 m 0 = z' at *
      have HST : Hid (DigSt w V s z ao L cp wr) := hst
      clear hst hzm hq hr hv hz' hst0 hz
      go_wp2_with (go_at_call 133; refine hd.mono ?_; rintro e w1 ⟨rfl, hO1, hU1⟩)
      have hst1 : DigSt w V s z' ao L cp w1 := ⟨hO1, owns_upd HST.out.2.1 hU1 (by omega), HST.out.2.2.1.trans (hU1.below (Nat.le_refl _)), by rw [hU1.size]; exact HST.out.2.2.2⟩
      clear hO1 hU1 hd
      go_loopw [4, 6, 20] (fun dv pv cv wr => ∃ (j cp : Nat) (ao : Option Addr), j ≤ 19 ∧ dv = .slice ao (L + j) cp ∧ pv = .int .u64 (r / 10 ^ j) ∧ cv = .int .i64 j ∧ DigSt w V s z' ao (L + j) cp wr) (fun _ _ cv _ => 19 - (intOf cv).toNat)
      case atStart => exact ⟨0, cp, ao, by omega, rfl, by simp, rfl, hst1⟩
      case round =>
        clear hst1 HST
        obtain ⟨j, cp2, ao2, hj, rfl, rfl, rfl, hst2⟩ := hrel
        by_cases hj19 : j < 19
        · have hji : (j : Int) < 19 := by omega
          have hp : 0 ≤ r / 10 ^ j ∧ r / 10 ^ j ≤ 18446744073709551615 := by
            have h1 := p10_pos j
            have h2 := Int.ediv_nonneg hrb.1 (Int.le_of_lt h1)
            have h3 : r / 10 ^ j ≤ r := Int.ediv_le_self _ hrb.1
            omega
          have HP : Hid (r / 10 ^ (j + 1) = r / 10 ^ j / 10) := by
            show _ = _
            rw [Int.pow_succ, ← Int.ediv_ediv_of_nonneg (Int.le_of_lt (p10_pos j))]
          have HVAL : Hid (r / 10 ^ j % 10 = dgt V (L + j)) := HR.out j hj19
          generalize r / 10 ^ j = p at *
          obtain ⟨i0, hi, hz0, hz1, hz2⟩ := info_parts Tryz.info5
          obtain ⟨hO, hown, hB, hsz2⟩ := hst2
          have HOwn : Hid (Own w.heap.size s z' wr) := hO
          have HO : Hid (wr.ownsRow (w.heap.size + 1) 5 1 (.slice ao2 (L + j) cp2) (L + j) (blB V (L + j))) := hown
          have HOWN : (wr.alloc (.cells #[.int .u8 (48 + p % 10)] 5)).ownsRow (w.heap.size + 1) 5 1 (.slice ao2 (L + j) cp2) (L + j) (blB V (L + j)) := hown.alloc _
          have HNEWS : ∀ (q : Nat) (u : Value), [Value.int .u8 (48 + p % 10)][q]? = some u → (wr.alloc (.cells #[.int .u8 (48 + p % 10)] 5)).cell? ((⟨wr.heap.size, 0, none⟩ : Addr).add q) = some u := by
            intro q u hq
            match q, hq with
            | 0, hq => simp at hq; subst hq; simp [Addr.add]
          have HONE : ∀ u ∈ [Value.int .u8 (48 + p % 10)], u.oneCell' = true := by
            intro u hu; simp at hu; subst hu; rfl
          clear hO hown
          go_wp2_with (first | (at_builtin; refine wpList_append_lies _ rfl (.tmp 22) (.tmp 27) 80 rfl (w.heap.size + 1) 5 i0 (.int .u8 0) 1 1 Tryz.underlying80 hi hz0 hz1 hz2 rfl (by decide) (.slice ao2 (L + j) cp2) (L + j) (blB V (L + j)) rfl HOWN ⟨wr.heap.size, 0, none⟩ 1 1 [Value.int .u8 (48 + p % 10)] rfl rfl HNEWS HONE (by omega) (by unfold maxLen; omega) (by omega) (by simp; omega) (wr.heap.size + 1) (by simp) ?_; intro g cap w1 hown1 hgrow hat hlt1; clear HOWN HNEWS HONE))
          have hrow : ∀ q, (Value.slice ao2 (L + j) cp2).ownBlock = some q → w.heap.size + 1 ≤ q := by
            intro q hq
            rcases ao2 with _ | ⟨bb, oo, sp⟩
            · cases hq
            · cases hq
              obtain ⟨_, h1⟩ := HO.out
              rcases h1 with ⟨h1, _⟩ | ⟨g', _, _, h1, h2, _⟩
              · cases h1
              · cases h1; exact h2
          have hown2 : w1.ownsRow (w.heap.size + 1) 5 1 (.slice (some ⟨g, 0, none⟩) (L + (j + 1)) cap) (L + (j + 1)) (blB V (L + (j + 1))) := by
            rw [HVAL.out, blB_succ] at hown1; exact hown1
          have HB1 : Below (w.heap.size + 1) wr w1 := ((Below.refl _ wr).alloc hsz2 _).grown hgrow (by simp; omega) hrow
          have HST2 : DigSt w V s z' (some ⟨g, 0, none⟩) (L + (j + 1)) cap w1 := ⟨Below.own HB1 (by omega) HOwn.out, hown2, hB.trans (HB1.mono (by omega)), Nat.le_trans hsz2 HB1.size⟩
          clear hown1 hgrow hown2 HB1 hB hrow
          go_wp2
          go_roundw
          case rel => exact ⟨j + 1, cap, some ⟨g, 0, none⟩, by omega, rfl, by rw [HP.out], by go_num, HST2⟩
          case measure => simp [intOf]; omega
        · obtain rfl : j = 19 := by omega
          obtain ⟨m', hm'⟩ : ∃ m', sizeL z' m = m' := ⟨_, rfl⟩
          have hmle := sizeL_le z' m
          have hbr := bare_any (some ⟨w.heap.size, 0, none⟩) m s (segW z' 0 m) wr (by omega) (hst2.1.num HW.out 0 m s (by omega) hm (by unfold maxLen; omega))
          have e1 : sizeL (segW z' 0 m) m = m' := by rw [← hm']; exact sizeL_congr m fun i hi => by rw [segW_lt z' 0 m i hi, Nat.zero_add]
          rw [e1] at hbr
          rw [hm'] at hmle
          have HM1 : Hid (sizeL z' m' = m') := by show _ = _; rw [← hm']; exact sizeL_sizeL z' m
          have HM2 : Hid (val z' m' = V / 10 ^ (L + 19)) := by show _ = _; rw [← hm', val_bare, HQ.out]
          have HST : Hid (DigSt w V s z' ao2 (L + 19) cp2 wr) := hst2
          clear hst2 e1 hm'
          go_wp2_with (go_at_call 125; refine hbr.mono ?_; rintro e w2 ⟨rfl, rfl⟩)
          go_roundw
          case rel => exact ⟨L + 19, m', cp2, ao2, z', rfl, rfl, by omega, by omega, HW.out, HM1.out, HM2.out, HST.out⟩
          case measure => simp [slLen]; omega
end Go.Proofs.YtoobncgmcnmgjaaGreatDoor

namespace Go.Proofs.YtoobncgmcnmgjaaGreatDoor
open Go.RowKit

def sgL (s : Bool) : List UInt8 := if s then [45] else []
attribute [local irreducible] W4
set_option maxHeartbeats 4000000 in
theorem lay_f1 (D : List UInt8) (e : Int) (w : World) (hT10 : Tb10 w) (he : -90000 ≤ e ∧ e ≤ 90000) (hD : D.length = 1) :
    Calls Tryz.prog 20 #[.bool false, .string (B D), .int .i64 e] w fun r w' => r = .returned (.string (B (sgL false ++ unT D (e + D.length - 1)))) ∧ Below w.heap.size w w' := by
  have c53 := fun W (h : Tb10 W) => itoa_any (e + D.length - 1) W (by omega) h
  have hi := itoa_short (e := e + D.length - 1) (by omega)
  have hz : (B D).size = 1 := by rw [B_size, hD]
  have HU : Hid ((sgL false) ++ unT D (e + D.length - 1) = ((([] : List UInt8) ++ D.take 1) ++ [101]) ++ Lib.itoa (e + D.length - 1)) := by
    show _ = _
    unfold unT
    rw [if_neg (show ¬ 1 < D.length by omega)]
    simp [sgL, List.append_assoc]
  generalize (sgL false) ++ unT D (e + D.length - 1) = TT at HU ⊢
  have htl := B_toList
  have ht : (B D).extract 0 1 = B (D.take 1) := by rw [B_ext, List.drop_zero]
  have y2 : (B (D.take 1)).size = 1 := by rw [B_size, List.length_take]; omega
  have p0 : (⟨#[]⟩ : ByteArray) ++ B (D.take 1) = B (([] : List UInt8) ++ D.take 1) := B_app ([] : List UInt8) _
  have z0 : (B (([] : List UInt8) ++ D.take 1)).size = 1 := by rw [B_size] at y2 ⊢; rw [List.length_append, y2]; rfl
  generalize hL2 : ([] : List UInt8) ++ D.take 1 = L2 at *
  have z2 := z0
  have p3 : B L2 ++ (⟨#[101]⟩ : ByteArray) = B (L2 ++ [101]) := B_app _ [101]
  have z3 : (B (L2 ++ [101])).size = 2 := by rw [B_size] at z2 ⊢; rw [List.length_append, z2]; rfl
  generalize hL3 : L2 ++ [101] = L3 at *
  have p4 : B L3 ++ B (Lib.itoa (e + D.length - 1)) = B (L3 ++ Lib.itoa (e + D.length - 1)) := B_app _ _
  obtain ⟨il, hil⟩ : ∃ il, (Lib.itoa (e + D.length - 1)).length = il := ⟨_, rfl⟩
  have z4 : (B (Lib.itoa (e + D.length - 1))).size = il := by rw [B_size]; exact hil
  have hil2 : il ≤ 100 := by omega
  clear hi hil
  generalize Lib.itoa (e + D.length - 1) = I at *
  generalize hL4 : L3 ++ I = L4 at *
  generalize hA : D.take 1 = A0 at *
  generalize hB : D.drop 1 = B0 at *
  clear hL4 hL3 hL2 hA hB
  rw [hD] at c53
  have hee : e + ((1 : Nat) : Int) - 1 = e := by omega
  rw [hee] at c53
  have c53' : ∀ W (y : Int), y = e → Tb10 W → Calls Tryz.prog 53 #[.int .i64 y] W fun r w' => r = .returned (.string (B I)) ∧ Below W.heap.size W w' := by rintro W y rfl h; exact c53 W h
  clear hD hee c53
  go_enter Tryz.func20, Tryz.ntmps20
  go_wp2_with (go_at_call 53; refine (c53' _ _ (by omega) (hT10.next bgo)).mono ?_; rintro r w3 ⟨rfl, hb3⟩)
  go_ret
  exact ⟨by rw [HU.out]; rfl, hb3⟩
set_option maxHeartbeats 4000000 in
theorem lay_fm (D : List UInt8) (e : Int) (w : World) (hT10 : Tb10 w) (he : -90000 ≤ e ∧ e ≤ 90000) (hD : 1 < D.length ∧ D.length ≤ 4000) :
    Calls Tryz.prog 20 #[.bool false, .string (B D), .int .i64 e] w fun r w' => r = .returned (.string (B (sgL false ++ unT D (e + D.length - 1)))) ∧ Below w.heap.size w w' := by
  obtain ⟨m, hm⟩ : ∃ m, D.length = m + 2 := ⟨D.length - 2, by omega⟩
  have hm2 : m ≤ 4000 := by omega
  have c53 := fun W (h : Tb10 W) => itoa_any (e + D.length - 1) W (by omega) h
  have hi := itoa_short (e := e + D.length - 1) (by omega)
  have hz : (B D).size = m + 2 := by rw [B_size, hm]
  have HU : Hid ((sgL false) ++ unT D (e + D.length - 1) = ((((([] : List UInt8) ++ D.take 1) ++ [46]) ++ D.drop 1) ++ [101]) ++ Lib.itoa (e + D.length - 1)) := by
    show _ = _
    unfold unT
    rw [if_pos hD.1]
    simp [sgL, List.append_assoc]
  have HS : Hid (e + ((m + 2 : Nat) : Int) - 1 = e + D.length - 1) := by show _ = _; rw [hm]
  generalize (sgL false) ++ unT D (e + D.length - 1) = TT at HU ⊢
  have htl := B_toList
  have ht : (B D).extract 0 1 = B (D.take 1) := by rw [B_ext, List.drop_zero]
  have y2 : (B (D.take 1)).size = 1 := by rw [B_size, List.length_take]; omega
  have p0 : (⟨#[]⟩ : ByteArray) ++ B (D.take 1) = B (([] : List UInt8) ++ D.take 1) := B_app ([] : List UInt8) _
  have z0 : (B (([] : List UInt8) ++ D.take 1)).size = 1 := by rw [B_size] at y2 ⊢; rw [List.length_append, y2]; rfl
  have hd : (B D).extract 1 (m + 2) = B (D.drop 1) := by have := B_drop D 1; rw [hz] at this; exact this
  have y0 : (B (D.drop 1)).size = m + 1 := by rw [B_size, List.length_drop, hm]; omega
  generalize hL0 : ([] : List UInt8) ++ D.take 1 = L0 at *
  have p1 : B L0 ++ (⟨#[46]⟩ : ByteArray) = B (L0 ++ [46]) := B_app _ [46]
  have z1 : (B (L0 ++ [46])).size = 2 := by rw [B_size] at z0 ⊢; rw [List.length_append, z0]; rfl
  generalize hL1 : L0 ++ [46] = L1 at *
  have p2 : B L1 ++ B (D.drop 1) = B (L1 ++ D.drop 1) := B_app _ _
  have z2 : (B (L1 ++ D.drop 1)).size = m + 3 := by rw [B_size] at z1 y0 ⊢; rw [List.length_append, z1, y0]; omega
  generalize hL2 : L1 ++ D.drop 1 = L2 at *
  have p3 : B L2 ++ (⟨#[101]⟩ : ByteArray) = B (L2 ++ [101]) := B_app _ [101]
  have z3 : (B (L2 ++ [101])).size = m + 4 := by rw [B_size] at z2 ⊢; rw [List.length_append, z2]; rfl
  generalize hL3 : L2 ++ [101] = L3 at *
  have p4 : B L3 ++ B (Lib.itoa (e + D.length - 1)) = B (L3 ++ Lib.itoa (e + D.length - 1)) := B_app _ _
  obtain ⟨il, hil⟩ : ∃ il, (Lib.itoa (e + D.length - 1)).length = il := ⟨_, rfl⟩
  have z4 : (B (Lib.itoa (e + D.length - 1))).size = il := by rw [B_size]; exact hil
  have hil2 : il ≤ 100 := by omega
  clear hi hil
  generalize Lib.itoa (e + D.length - 1) = I at *
  generalize hL4 : L3 ++ I = L4 at *
  generalize hA : D.take 1 = A0 at *
  generalize hB : D.drop 1 = B0 at *
  clear hL4 hL3 hL2 hA hB hL1 hL0
  rw [hm] at c53
  have hee : e + ((m + 2 : Nat) : Int) - 1 = e + m + 1 := by omega
  rw [hee] at c53
  have c53' : ∀ W (y : Int), y = e + m + 1 → Tb10 W → Calls Tryz.prog 53 #[.int .i64 y] W fun r w' => r = .returned (.string (B I)) ∧ Below W.heap.size W w' := by rintro W y rfl h; exact c53 W h
  clear hm hD HS hee c53
  go_enter Tryz.func20, Tryz.ntmps20
  go_wp2_with (go_at_call 53; refine (c53' _ _ (by omega) (hT10.next bgo)).mono ?_; rintro r w3 ⟨rfl, hb3⟩)
  go_ret
  exact ⟨by rw [HU.out]; rfl, hb3⟩
set_option maxHeartbeats 4000000 in
theorem lay_t1 (D : List UInt8) (e : Int) (w : World) (hT10 : Tb10 w) (he : -90000 ≤ e ∧ e ≤ 90000) (hD : D.length = 1) :
    Calls Tryz.prog 20 #[.bool true, .string (B D), .int .i64 e] w fun r w' => r = .returned (.string (B (sgL true ++ unT D (e + D.length - 1)))) ∧ Below w.heap.size w w' := by
  have c53 := fun W (h : Tb10 W) => itoa_any (e + D.length - 1) W (by omega) h
  have hi := itoa_short (e := e + D.length - 1) (by omega)
  have hz : (B D).size = 1 := by rw [B_size, hD]
  have HU : Hid ((sgL true) ++ unT D (e + D.length - 1) = (([45] ++ D.take 1) ++ [101]) ++ Lib.itoa (e + D.length - 1)) := by
    show _ = _
    unfold unT
    rw [if_neg (show ¬ 1 < D.length by omega)]
    simp [sgL, List.append_assoc]
  generalize (sgL true) ++ unT D (e + D.length - 1) = TT at HU ⊢
  have htl := B_toList
  have ht : (B D).extract 0 1 = B (D.take 1) := by rw [B_ext, List.drop_zero]
  have y2 : (B (D.take 1)).size = 1 := by rw [B_size, List.length_take]; omega
  have p0 : (⟨#[45]⟩ : ByteArray) ++ B (D.take 1) = B ([45] ++ D.take 1) := B_app [45] _
  have z0 : (B ([45] ++ D.take 1)).size = 2 := by rw [B_size] at y2 ⊢; rw [List.length_append, y2]; rfl
  generalize hL2 : [45] ++ D.take 1 = L2 at *
  have z2 := z0
  have p3 : B L2 ++ (⟨#[101]⟩ : ByteArray) = B (L2 ++ [101]) := B_app _ [101]
  have z3 : (B (L2 ++ [101])).size = 3 := by rw [B_size] at z2 ⊢; rw [List.length_append, z2]; rfl
  generalize hL3 : L2 ++ [101] = L3 at *
  have p4 : B L3 ++ B (Lib.itoa (e + D.length - 1)) = B (L3 ++ Lib.itoa (e + D.length - 1)) := B_app _ _
  obtain ⟨il, hil⟩ : ∃ il, (Lib.itoa (e + D.length - 1)).length = il := ⟨_, rfl⟩
  have z4 : (B (Lib.itoa (e + D.length - 1))).size = il := by rw [B_size]; exact hil
  have hil2 : il ≤ 100 := by omega
  clear hi hil
  generalize Lib.itoa (e + D.length - 1) = I at *
  generalize hL4 : L3 ++ I = L4 at *
  generalize hA : D.take 1 = A0 at *
  generalize hB : D.drop 1 = B0 at *
  clear hL4 hL3 hL2 hA hB
  rw [hD] at c53
  have hee : e + ((1 : Nat) : Int) - 1 = e := by omega
  rw [hee] at c53
  have c53' : ∀ W (y : Int), y = e → Tb10 W → Calls Tryz.prog 53 #[.int .i64 y] W fun r w' => r = .returned (.string (B I)) ∧ Below W.heap.size W w' := by rintro W y rfl h; exact c53 W h
  clear hD hee c53
  go_enter Tryz.func20, Tryz.ntmps20
  go_wp2_with (go_at_call 53; refine (c53' _ _ (by omega) (hT10.next bgo)).mono ?_; rintro r w3 ⟨rfl, hb3⟩)
  go_ret
  exact ⟨by rw [HU.out]; rfl, hb3⟩
set_option maxHeartbeats 4000000 in
theorem lay_tm (D : List UInt8) (e : Int) (w : World) (hT10 : Tb10 w) (he : -90000 ≤ e ∧ e ≤ 90000) (hD : 1 < D.length ∧ D.length ≤ 4000) :
    Calls Tryz.prog 20 #[.bool true, .string (B D), .int .i64 e] w fun r w' => r = .returned (.string (B (sgL true ++ unT D (e + D.length - 1)))) ∧ Below w.heap.size w w' := by
  obtain ⟨m, hm⟩ : ∃ m, D.length = m + 2 := ⟨D.length - 2, by omega⟩
  have hm2 : m ≤ 4000 := by omega
  have c53 := fun W (h : Tb10 W) => itoa_any (e + D.length - 1) W (by omega) h
  have hi := itoa_short (e := e + D.length - 1) (by omega)
  have hz : (B D).size = m + 2 := by rw [B_size, hm]
  have HU : Hid ((sgL true) ++ unT D (e + D.length - 1) = (((([45] ++ D.take 1) ++ [46]) ++ D.drop 1) ++ [101]) ++ Lib.itoa (e + D.length - 1)) := by
    show _ = _
    unfold unT
    rw [if_pos hD.1]
    simp [sgL, List.append_assoc]
  have HS : Hid (e + ((m + 2 : Nat) : Int) - 1 = e + D.length - 1) := by show _ = _; rw [hm]
  generalize (sgL true) ++ unT D (e + D.length - 1) = TT at HU ⊢
  have htl := B_toList
  have ht : (B D).extract 0 1 = B (D.take 1) := by rw [B_ext, List.drop_zero]
  have y2 : (B (D.take 1)).size = 1 := by rw [B_size, List.length_take]; omega
  have p0 : (⟨#[45]⟩ : ByteArray) ++ B (D.take 1) = B ([45] ++ D.take 1) := B_app [45] _
  have z0 : (B ([45] ++ D.take 1)).size = 2 := by rw [B_size] at y2 ⊢; rw [List.length_append, y2]; rfl
  have hd : (B D).extract 1 (m + 2) = B (D.drop 1) := by have := B_drop D 1; rw [hz] at this; exact this
  have y0 : (B (D.drop 1)).size = m + 1 := by rw [B_size, List.length_drop, hm]; omega
  generalize hL0 : [45] ++ D.take 1 = L0 at *
  have p1 : B L0 ++ (⟨#[46]⟩ : ByteArray) = B (L0 ++ [46]) := B_app _ [46]
  have z1 : (B (L0 ++ [46])).size = 3 := by rw [B_size] at z0 ⊢; rw [List.length_append, z0]; rfl
  generalize hL1 : L0 ++ [46] = L1 at *
  have p2 : B L1 ++ B (D.drop 1) = B (L1 ++ D.drop 1) := B_app _ _
  have z2 : (B (L1 ++ D.drop 1)).size = m + 4 := by rw [B_size] at z1 y0 ⊢; rw [List.length_append, z1, y0]; omega
  generalize hL2 : L1 ++ D.drop 1 = L2 at *
  have p3 : B L2 ++ (⟨#[101]⟩ : ByteArray) = B (L2 ++ [101]) := B_app _ [101]
  have z3 : (B (L2 ++ [101])).size = m + 5 := by rw [B_size] at z2 ⊢; rw [List.length_append, z2]; rfl
  generalize hL3 : L2 ++ [101] = L3 at *
  have p4 : B L3 ++ B (Lib.itoa (e + D.length - 1)) = B (L3 ++ Lib.itoa (e + D.length - 1)) := B_app _ _
  obtain ⟨il, hil⟩ : ∃ il, (Lib.itoa (e + D.length - 1)).length = il := ⟨_, rfl⟩
  have z4 : (B (Lib.itoa (e + D.length - 1))).size = il := by rw [B_size]; exact hil
  have hil2 : il ≤ 100 := by omega
  clear hi hil
  generalize Lib.itoa (e + D.length - 1) = I at *
  generalize hL4 : L3 ++ I = L4 at *
  generalize hA : D.take 1 = A0 at *
  generalize hB : D.drop 1 = B0 at *
  clear hL4 hL3 hL2 hA hB hL1 hL0
  rw [hm] at c53
  have hee : e + ((m + 2 : Nat) : Int) - 1 = e + m + 1 := by omega
  rw [hee] at c53
  have c53' : ∀ W (y : Int), y = e + m + 1 → Tb10 W → Calls Tryz.prog 53 #[.int .i64 y] W fun r w' => r = .returned (.string (B I)) ∧ Below W.heap.size W w' := by rintro W y rfl h; exact c53 W h
  clear hm hD HS hee c53
  go_enter Tryz.func20, Tryz.ntmps20
  go_wp2_with (go_at_call 53; refine (c53' _ _ (by omega) (hT10.next bgo)).mono ?_; rintro r w3 ⟨rfl, hb3⟩)
  go_ret
  exact ⟨by rw [HU.out]; rfl, hb3⟩
theorem lay_v (s : Bool) (D : List UInt8) (e : Int) (w : World) (hT10 : Tb10 w) (he : -90000 ≤ e ∧ e ≤ 90000) (hD : 1 ≤ D.length ∧ D.length ≤ 4000) :
    Calls Tryz.prog 20 #[.bool s, .string (B D), .int .i64 e] w fun r w' => r = .returned (.string (B (sgL s ++ unT D (e + D.length - 1)))) ∧ Below w.heap.size w w' := by
  by_cases h1 : D.length = 1
  · cases s
    · exact lay_f1 D e w hT10 he h1
    · exact lay_t1 D e w hT10 he h1
  · cases s
    · exact lay_fm D e w hT10 he (by omega)
    · exact lay_tm D e w hT10 he (by omega)
end Go.Proofs.YtoobncgmcnmgjaaGreatDoor

namespace Go.Proofs.YtoobncgmcnmgjaaGreatDoor
open Go.RowKit

/-- a payload's digits -/
def dcL (k : Nat) : List UInt8 := if k = 0 then [] else dcD (k : Int) 660
theorem k660 {k : Nat} (hk : k < 2 ^ 256) : (k : Int) < 10 ^ 660 := by
  have h : (2 : Nat) ^ 256 ≤ 10 ^ 100 := by decide
  have h2 : (10 : Int) ^ 100 ≤ 10 ^ 660 := by decide +kernel
  have h3 : ((10 ^ 100 : Nat) : Int) = (10 : Int) ^ 100 := by decide
  omega
theorem dcL_facts {k : Nat} (hk : k < 2 ^ 256) : gdD (dcL k) ∧ dV (dcL k) = k ∧ (dcL k).length ≤ 660 := by
  unfold dcL
  by_cases h : k = 0
  · rw [if_pos h]; exact ⟨Or.inl rfl, by rw [h, dV_nil], by decide⟩
  · rw [if_neg h]
    obtain ⟨h1, h2, h3⟩ := dcD_facts (V := (k : Int)) (L := 660) (by omega) (k660 hk)
    exact ⟨h1, by omega, h3⟩
theorem dec_v {K k : Nat} {v : Value} {w : World} (hK : K ≤ 30) (hk : k < 2 ^ 256) (h : Nt K k v w) : Calls Tryz.prog 17 #[v] w fun r w' => r = .returned (.string (B (dcL k))) ∧ Below w.heap.size w w' := by
  obtain ⟨a, n, c, z, rfl, hn, hN, hz⟩ := h
  obtain ⟨D, d1, d2, d3, d4⟩ := rdec8 (by omega) hN
  obtain ⟨f1, f2, _⟩ := dcL_facts hk
  have : D = dcL k := gd_uniq d1 f1 (by omega)
  subst this
  exact d4 w (Below.refl _ _)
theorem ndig_v {K k : Nat} {v : Value} {w : World} (hK : K ≤ 1000) (hk : k < 2 ^ 256) (hk0 : k ≠ 0) (h : Nt K k v w) : Calls Tryz.prog 104 #[v] w fun r w' => r = .returned (.tuple #[.string (B (dcL k)), .int .i64 0]) ∧ Below w.heap.size w w' := by
  obtain ⟨a, n, c, z, rfl, hn, hN, hz⟩ := h
  have hle := sizeL_le z n
  refine (ndigits_any a n c z w (by omega) hN (by omega)).mono fun r w' ⟨L, hL, he, hB⟩ => ⟨?_, hB⟩
  rw [he, hz] at *
  have h0 : (0 : Int) < k := by omega
  have h660 := k660 hk
  rw [decL_more (Int.le_of_lt h0) hL h660, ← decL_rev h0 h660]
  unfold dcL
  rw [if_neg hk0]
  unfold dcD
  rw [B_of]
attribute [local irreducible] W4 Nt
section
variable (c : Int) (s : Bool) (x : Int) (k : Nat) (w : World)
set_option maxHeartbeats 2000000 in
theorem nan_z (g : Bool) (c23 : ∀ W, Calls Tryz.prog 23 #[DV c s g x k] W fun r w' => r = .returned (.bool true) ∧ Below W.heap.size W w') :
    Calls Tryz.prog 71 #[DV c s g x k] w fun r w' => r = .returned (.string (B (nanT g []))) ∧ Below w.heap.size w w' := by
  have hsm := cell_set_map
  cases g
  · have e : B (nanT false []) = ⟨#[110, 97, 110]⟩ := rfl
    rw [e]
    unfold DV at *
    go_enter Tryz.func71, Tryz.ntmps71
    go_wp2_with (go_at_call 23; refine (c23 _).mono ?_; rintro r w1 ⟨rfl, hb1⟩; obtain ⟨hc1, hf1⟩ := bcell hb1; have hz1_0 : w.heap.size < w1.heap.size := lt_below hb1 ltg; have hl1_0 := Nat.le_of_lt hz1_0; have hA1 := bnext (w0 := w) bgo hb1; have hs1 := hA1.size; clear hb1)
    go_ret
    exact ⟨rfl, bgo⟩
  · have e : B (nanT true []) = ⟨#[115, 110, 97, 110]⟩ := rfl
    rw [e]
    unfold DV at *
    go_enter Tryz.func71, Tryz.ntmps71
    go_wp2_with (go_at_call 23; refine (c23 _).mono ?_; rintro r w1 ⟨rfl, hb1⟩; obtain ⟨hc1, hf1⟩ := bcell hb1; have hz1_0 : w.heap.size < w1.heap.size := lt_below hb1 ltg; have hl1_0 := Nat.le_of_lt hz1_0; have hA1 := bnext (w0 := w) bgo hb1; have hs1 := hA1.size; clear hb1)
    go_ret
    exact ⟨rfl, bgo⟩
variable (P : List UInt8) (hk : k < 2 ^ 256) (hP : P ≠ []) (hPl : P.length ≤ 660)
  (c103 : ∀ W, Nt 4 k (.slice (some ⟨w.heap.size, 4, none⟩) 4 4) W → Calls Tryz.prog 104 #[.slice (some ⟨w.heap.size, 4, none⟩) 4 4] W fun r w' => r = .returned (.tuple #[.string (B P), .int .i64 0]) ∧ Below W.heap.size W w')
include hk hP hPl c103
set_option maxHeartbeats 4000000 in
theorem nan_f (c23 : ∀ W, Calls Tryz.prog 23 #[DV c s false x k] W fun r w' => r = .returned (.bool false) ∧ Below W.heap.size W w') :
    Calls Tryz.prog 71 #[DV c s false x k] w fun r w' => r = .returned (.string (B (nanT false P))) ∧ Below w.heap.size w w' := by
  have hsm := cell_set_map
  have htl := B_toList
  have HU : Hid (nanT false P = ([110, 97, 110] ++ [40] ++ P) ++ [41]) := by show _ = _; unfold nanT; rw [if_neg hP]; simp
  generalize nanT false P = TT at HU ⊢
  have p0 : (⟨#[110, 97, 110]⟩ : ByteArray) ++ (⟨#[40]⟩ : ByteArray) = B ([110, 97, 110] ++ [40]) := B_app [110, 97, 110] [40]
  have z0 : (B ([110, 97, 110] ++ [40])).size = 4 := rfl
  generalize ([110, 97, 110] ++ [40] : List UInt8) = L0 at *
  obtain ⟨m, hm⟩ : ∃ m, P.length = m := ⟨_, rfl⟩
  have y0 : (B P).size = m := by rw [B_size, hm]
  have hm2 : m ≤ 660 := by omega
  have p1 : B L0 ++ B P = B (L0 ++ P) := B_app _ _
  have z1 : (B (L0 ++ P)).size = m + 4 := by rw [B_size] at z0 y0 ⊢; rw [List.length_append, z0, y0]; omega
  generalize hL1 : L0 ++ P = L1 at *
  have p2 : B L1 ++ (⟨#[41]⟩ : ByteArray) = B (L1 ++ [41]) := B_app _ [41]
  generalize hL2 : L1 ++ [41] = L2 at *
  clear hL1 hL2 hP hPl hm
  unfold DV at *
  go_enter Tryz.func71, Tryz.ntmps71
  go_wp2_with (first
    | (go_at_call 23; refine (c23 _).mono ?_; rintro r w1 ⟨rfl, hb1⟩; obtain ⟨hc1, hf1⟩ := bcell hb1; have hz1_0 : w.heap.size < w1.heap.size := lt_below hb1 ltg; have hl1_0 := Nat.le_of_lt hz1_0; have hA1 := bnext (w0 := w) bgo hb1; have hs1 := hA1.size; clear hb1)
    | (go_at_call 104; refine (c103 _ (nt_at hk (by assumption) (by go_simp) (by go_simp) (by go_simp) (by go_simp))).mono ?_; rintro r w2 ⟨rfl, hb2⟩; obtain ⟨hc2, hf2⟩ := bcell hb2; have hz2_0 : w.heap.size < w2.heap.size := lt_below hb2 ltg; have hl2_0 := Nat.le_of_lt hz2_0; have hA2 := bnext (w0 := w) bgo hb2; have hs2 := hA2.size; clear hb2))
  go_ret
  exact ⟨by rw [HU.out]; rfl, bgo⟩
set_option maxHeartbeats 4000000 in
theorem nan_t (c23 : ∀ W, Calls Tryz.prog 23 #[DV c s true x k] W fun r w' => r = .returned (.bool false) ∧ Below W.heap.size W w') :
    Calls Tryz.prog 71 #[DV c s true x k] w fun r w' => r = .returned (.string (B (nanT true P))) ∧ Below w.heap.size w w' := by
  have hsm := cell_set_map
  have htl := B_toList
  have HU : Hid (nanT true P = ([115, 110, 97, 110] ++ [40] ++ P) ++ [41]) := by show _ = _; unfold nanT; rw [if_neg hP]; simp
  generalize nanT true P = TT at HU ⊢
  have p0 : (⟨#[115, 110, 97, 110]⟩ : ByteArray) ++ (⟨#[40]⟩ : ByteArray) = B ([115, 110, 97, 110] ++ [40]) := B_app [115, 110, 97, 110] [40]
  have z0 : (B ([115, 110, 97, 110] ++ [40])).size = 5 := rfl
  generalize ([115, 110, 97, 110] ++ [40] : List UInt8) = L0 at *
  obtain ⟨m, hm⟩ : ∃ m, P.length = m := ⟨_, rfl⟩
  have y0 : (B P).size = m := by rw [B_size, hm]
  have hm2 : m ≤ 660 := by omega
  have p1 : B L0 ++ B P = B (L0 ++ P) := B_app _ _
  have z1 : (B (L0 ++ P)).size = m + 5 := by rw [B_size] at z0 y0 ⊢; rw [List.length_append, z0, y0]; omega
  generalize hL1 : L0 ++ P = L1 at *
  have p2 : B L1 ++ (⟨#[41]⟩ : ByteArray) = B (L1 ++ [41]) := B_app _ [41]
  generalize hL2 : L1 ++ [41] = L2 at *
  clear hL1 hL2 hP hPl hm
  unfold DV at *
  go_enter Tryz.func71, Tryz.ntmps71
  go_wp2_with (first
    | (go_at_call 23; refine (c23 _).mono ?_; rintro r w1 ⟨rfl, hb1⟩; obtain ⟨hc1, hf1⟩ := bcell hb1; have hz1_0 : w.heap.size < w1.heap.size := lt_below hb1 ltg; have hl1_0 := Nat.le_of_lt hz1_0; have hA1 := bnext (w0 := w) bgo hb1; have hs1 := hA1.size; clear hb1)
    | (go_at_call 104; refine (c103 _ (nt_at hk (by assumption) (by go_simp) (by go_simp) (by go_simp) (by go_simp))).mono ?_; rintro r w2 ⟨rfl, hb2⟩; obtain ⟨hc2, hf2⟩ := bcell hb2; have hz2_0 : w.heap.size < w2.heap.size := lt_below hb2 ltg; have hl2_0 := Nat.le_of_lt hz2_0; have hA2 := bnext (w0 := w) bgo hb2; have hs2 := hA2.size; clear hb2))
  go_ret
  exact ⟨by rw [HU.out]; rfl, bgo⟩
end
theorem nan_v (c : Int) (s g : Bool) (x : Int) (k : Nat) (w : World) (hk : k < 2 ^ 256) : Calls Tryz.prog 71 #[DV c s g x k] w fun r w' => r = .returned (.string (B (nanT g (dcL k)))) ∧ Below w.heap.size w w' := by
  have c23 := fun W => none_v c s g x k W hk
  by_cases h0 : k = 0
  · rw [decide_eq_true h0] at c23
    rw [show dcL k = [] from if_pos h0]
    exact nan_z c s x k w g c23
  · rw [decide_eq_false h0] at c23
    obtain ⟨f1, f2, f3⟩ := dcL_facts hk
    have hne : dcL k ≠ [] := fun e => by rw [e, dV_nil] at f2; omega
    cases g
    · exact nan_f c s x k w (dcL k) hk hne f3 (fun W h => ndig_v (by decide) hk h0 h) c23
    · exact nan_t c s x k w (dcL k) hk hne f3 (fun W h => ndig_v (by decide) hk h0 h) c23
set_option maxHeartbeats 2000000 in
theorem oth_v (c : Int) (s g : Bool) (x : Int) (k : Nat) (w : World) (hk : k < 2 ^ 256) (hT10 : Tb10 w) : Calls Tryz.prog 40 #[DV c s g x k] w fun r w' => r = .returned (.string (B (texT c s g (dcL k) 0))) ∧ Below w.heap.size w w' := by
  obtain ⟨f1, f2, f3⟩ := dcL_facts hk
  have hb0 := below1 w (.cells #[.int .i64 c, .bool s, .bool g, .int .i64 x, .int .u64 (W4 k 0), .int .u64 (W4 k 1), .int .u64 (W4 k 2), .int .u64 (W4 k 3)] 35)
  have hn0 : Nt 4 k (.slice (some ⟨w.heap.size, 4, none⟩) 4 4) (w.alloc (.cells #[.int .i64 c, .bool s, .bool g, .int .i64 x, .int .u64 (W4 k 0), .int .u64 (W4 k 1), .int .u64 (W4 k 2), .int .u64 (W4 k 3)] 35)) := nt_at hk (by simp) (by go_simp) (by go_simp) (by go_simp) (by go_simp)
  have c17 := fun W (hW : Below (w.alloc (.cells #[.int .i64 c, .bool s, .bool g, .int .i64 x, .int .u64 (W4 k 0), .int .u64 (W4 k 1), .int .u64 (W4 k 2), .int .u64 (W4 k 3)] 35)).heap.size (w.alloc (.cells #[.int .i64 c, .bool s, .bool g, .int .i64 x, .int .u64 (W4 k 0), .int .u64 (W4 k 1), .int .u64 (W4 k 2), .int .u64 (W4 k 3)] 35)) W) => dec_v (by decide) hk (hn0.next hW)
  have c72 := fun W (hW : Below (w.alloc (.cells #[.int .i64 c, .bool s, .bool g, .int .i64 x, .int .u64 (W4 k 0), .int .u64 (W4 k 1), .int .u64 (W4 k 2), .int .u64 (W4 k 3)] 35)).heap.size (w.alloc (.cells #[.int .i64 c, .bool s, .bool g, .int .i64 x, .int .u64 (W4 k 0), .int .u64 (W4 k 1), .int .u64 (W4 k 2), .int .u64 (W4 k 3)] 35)) W) => rtext_any c s g (dcL k) 0 W (by omega) (by decide) (hT10.next (bnx hb0 hW))
  unfold PV at c72
  generalize dcL k = P at *
  clear hn0
  unfold DV
  go_enter Tryz.func40, Tryz.ntmps40
  go_wp2
  refine wp_whole (by kernel_rfl) (by kernel_rfl) fun hne hcell => ?_
  repeat go_big_quiet_step (fail)
  go_big_quiet_step ((go_at_call 17; exact calls_wd _ bk_next (c17 _ (Wd.h _))))
  repeat go_big_quiet_step (fail)
  go_big_quiet_step ((go_at_call 73; exact calls_wd _ bk_next (c72 _ (Wd.h _))))
  repeat go_big_quiet_step (fail)
  refine wpQuiet_nil fun w1 hb1 => ?_
  have hA1 := bnx hb0 hb1
  go_wp2
  go_ret
  exact ⟨rfl, hA1⟩
end Go.Proofs.YtoobncgmcnmgjaaGreatDoor
