/-
  Texts that the proof leans on, joined: Byt, Rev, Dgn, Sw9, Sh8, Sn8, Fb.
-/
import Derived.Test.YtogfiipmebgnjaaGreatDoorJ29
import Derived.Shelf.SlicesE.Reverse
import Derived.Test.YtogfiipmebgnjaaGreatDoorJ26
import Derived.Test.YtogfiipmebgnjaaGreatDoorJ33
import Derived.Test.YtogfiipmebgnjaaGreatDoorJ1
import Derived.Test.YtogfiipmebgnjaaGreatDoorJ17
import Derived.Test.YtogfiipmebgnjaaGreatDoorJ18
import Derived.Test.YtogfiipmebgnjaaGreatDoorJ11
import Derived.Test.YtogfiipmebgnjaaGreatDoorJ16
import Derived.Laws.IdiomCopy
import Derived.Test.YtogfiipmebgnjaaGreatDoorJ27
import Derived.Test.YtogfiipmebgnjaaGreatDoorJ31
set_option linter.unusedVariables false
set_option linter.unusedSimpArgs false
set_option maxRecDepth 20000
set_option linter.unusedSectionVars false
namespace Go.Proofs.YtogfiipmebgnjaaGreatDoor
open Go.RowKit

set_option maxHeartbeats 400000 in
theorem trimRB_any (b n c : Nat) (f : Nat → Int) (w : World) (hn : n < 4294967296) (hnc : n ≤ c) (hc2 : c ≤ maxLen) (hf : ∀ i, 0 ≤ f i ∧ f i ≤ 9) (hc : ∀ i, i < n → w.cell? ⟨b, i, none⟩ = some (.int .u8 (48 + f i))) :
    Calls Tryz.prog 120 #[.slice (some ⟨b, 0, none⟩) n c, .int .u8 48] w fun e w' => e = .returned (.slice (some ⟨b, 0, none⟩) (sizeL f n) c) ∧ w = w' := by
  unfold maxLen at hc2
  go_enter Tryz.func120, Tryz.ntmps120
  go_wp2
  go_loop [0] (fun t => ∃ k : Nat, k ≤ n ∧ sizeL f k = sizeL f n ∧ t = .slice (some ⟨b, 0, none⟩) k c) (fun t => match t with | .slice _ k _ => k | _ => 0)
  case atStart => exact ⟨n, Nat.le_refl _, rfl, rfl⟩
  case round =>
    obtain ⟨k, hk, hs, rfl⟩ := hrel
    by_cases h0 : k = 0
    · subst h0
      have HS : Hid (sizeL f n = 0) := hs.symm
      clear hs hc
      go_wp2
      go_ret
      exact ⟨by rw [HS.out]; rfl, rfl⟩
    · obtain ⟨j, rfl⟩ : ∃ j, k = j + 1 := ⟨k - 1, by omega⟩
      have hcj := hc j (by omega)
      have hfj := hf j
      by_cases hzj : f j = 0
      · have HS : Hid (sizeL f j = sizeL f n) := by
          have : sizeL f (j + 1) = sizeL f j := by simp [sizeL, hzj]
          exact this.symm.trans hs
        clear hs hc hf
        rw [hzj] at hcj
        go_wp2
        go_round
        case rel => exact ⟨j, by omega, HS.out, rfl⟩
        case measure => simp
      · have HS : Hid (sizeL f n = j + 1) := by
          have : sizeL f (j + 1) = j + 1 := by simp [sizeL, hzj]
          exact hs.symm.trans this
        have hne : (48 + f j == 48) = false := by simp; omega
        clear hs hc hf
        go_wp2
        go_ret
        exact ⟨by rw [HS.out]; rfl, rfl⟩

set_option maxRecDepth 20000 in
set_option maxHeartbeats 400000 in
theorem trimRight_any (b n c : Nat) (f : Nat → Int) (w : World) (hn : n < 4294967296) (hnc : n ≤ c) (hc2 : c ≤ maxLen) (hf : ∀ i, 0 ≤ f i ∧ f i ≤ 9) (hc : ∀ i, i < n → w.cell? ⟨b, i, none⟩ = some (.int .u8 (48 + f i))) :
    Calls Tryz.prog 82 #[.slice (some ⟨b, 0, none⟩) n c, .string ⟨#[48]⟩] w fun e w' => e = .returned (.slice (some ⟨b, 0, none⟩) (sizeL f n) c) ∧ w = w' := by
  have hT := trimRB_any b n c f w hn hnc hc2 hf hc
  clear hf
  by_cases h0 : n = 0
  · subst h0
    clear hT hc
    go_enter Tryz.func82, Tryz.ntmps82
    go_wp2
    go_ret
    exact ⟨rfl, rfl⟩
  · have hn0 : ((n : Int) == 0) = false := by simp; omega
    clear hc
    generalize sizeL f n = s at *
    go_enter Tryz.func82, Tryz.ntmps82
    have h48 : ∀ h, ((⟨#[48]⟩ : ByteArray)[0]'h).toNat = 48 := fun _ => rfl
    go_wp2_with (go_at_call 120; refine hT.mono ?_; rintro e w' ⟨rfl, rfl⟩)
    go_ret
    exact ⟨rfl, rfl⟩
set_option maxHeartbeats 400000 in
theorem trimRight_nil (w : World) :
    Calls Tryz.prog 82 #[.slice none 0 0, .string ⟨#[48]⟩] w fun e w' => e = .returned (.slice none 0 0) ∧ w = w' := by
  go_enter Tryz.func82, Tryz.ntmps82
  go_wp2
  go_ret
  exact ⟨rfl, rfl⟩
end Go.Proofs.YtogfiipmebgnjaaGreatDoor

namespace Go.Proofs
open Go.Shelf
def Tryz.laysRev_ren : Go.Shelf.Ren := ⟨fun | 35 => 83 | n => n, fun | 22 => 110 | 23 => 5 | 3 => 3 | 4 => 4 | 0 => 0 | n => n, fun | n => n⟩
theorem Tryz.laysRev : Go.Proofs.SlLaysE.n35 Tryz.prog Tryz.laysRev_ren := {
  mixed := by kernel_rfl
  f35 := ⟨Tryz.f83.name, by decide, Tryz.func83.trans (congrArg some (by kernel_rfl))⟩
  t0 := Tryz.underlying0
  a0 := Tryz.isAgg0
  z0 := Tryz.sizeOf0
  v0 := Tryz.zeroValue0
  t3 := Tryz.underlying3
  a3 := Tryz.isAgg3
  z3 := Tryz.sizeOf3
  v3 := Tryz.zeroValue3
  t4 := Tryz.underlying4
  a4 := Tryz.isAgg4
  z4 := Tryz.sizeOf4
  v4 := Tryz.zeroValue4
  t22 := Tryz.underlying110
  a22 := Tryz.isAgg110
  z22 := Tryz.sizeOf110
  v22 := Tryz.zeroValue110
  a23 := Tryz.isAgg5
  z23 := Tryz.sizeOf5 }
end Go.Proofs
set_option maxRecDepth 20000
set_option linter.unusedSectionVars false
set_option linter.unusedSimpArgs false
namespace Go.Proofs.YtogfiipmebgnjaaGreatDoor
open Go.RowKit Go.Sort


theorem reverse_any (g n c : Nat) (f : Nat → Int) (w : World) (hn : n < 4294967296) (h : HasB g n f w) :
    Calls Tryz.prog 83 #[.slice (some ⟨g, 0, none⟩) n c] w fun e w' => e = .returned (.tuple #[]) ∧ HasB g n (fun i => f (n - 1 - i)) w' ∧ Upd g w w' := by
  obtain ⟨hg, hc⟩ := h
  have hl : ((List.range n).map f).length = n := by simp
  have hH : Holds (Value.int .u8) w g 0 ((List.range n).map f).toArray := by
    intro j hj
    have hj' : j < n := by simpa using hj
    have := hc j hj'
    rw [Nat.zero_add]
    refine ⟨?_, this.2⟩
    rw [this.1, getElem!_pos _ j hj]
    simp
  have hR := AnyE.slices_Reverse Tryz.laysRev (Value.int .u8) (fun _ => rfl) g 0 c ((List.range n).map f) w hH (by rw [hl]; omega)
  rw [hl] at hR
  refine Calls.mono hR ?_
  rintro e w' ⟨rfl, m, rfl⟩
  have hs : ((List.range n).map f).reverse.toArray.size = ((List.range n).map f).toArray.size := by simp
  refine ⟨rfl, ⟨by simpa using hg, fun i hi => ?_⟩, ?_⟩
  · have hh := holds_putRow (Value.int .u8) (Sort.ahead w m) g 0 _ ((List.range n).map f).reverse.toArray (holds_ahead _ _ _ _ _ _ hH) hs i (by simpa using hi)
    rw [Nat.zero_add] at hh
    refine ⟨?_, hh.2⟩
    rw [hh.1, getElem!_pos _ i (by simpa using hi)]
    simp
  · refine ⟨rfl, rfl, rfl, by simp, fun k hk => ?_⟩
    simp only [putRow, mapBlock, Array.getElem?_modify]
    rw [if_neg (fun e => hk e.symm)]
    rfl
end Go.Proofs.YtogfiipmebgnjaaGreatDoor

namespace Go.Proofs.YtogfiipmebgnjaaGreatDoor
open Go.RowKit

set_option maxHeartbeats 2000000 in
theorem ndigits_any (a : Option Addr) (n c : Nat) (x : Nat → Int) (w : World) (hn : n < 4294967296) (h : Num w a n c x) (hsz : sizeL x n ≤ 2000) :
    Calls Tryz.prog 34 #[.slice a n c] w fun e w' => ∃ L, val x n < 10 ^ L ∧ e = .returned (.tuple #[.string (strOfNums (decL (val x n) L)), .int .i64 0]) ∧ Below w.heap.size w w' := by
  have hb := bare_any a n c x w hn h
  have ht := ntrim_any a n c x w hn h
  obtain ⟨s, hs⟩ : ∃ s, sizeL x n = s := ⟨_, rfl⟩
  have hss := sizeL_sizeL x n
  have hx := h.2.2.1
  have hval : val x n = val x s := by rw [← hs]; exact val_more (sizeL_zero n h.2.2.2.1) n (sizeL_le x n)
  rw [hval]
  obtain ⟨V, hV⟩ : ∃ V, val x s = V := ⟨_, rfl⟩
  rw [hs] at hb ht hsz hss
  have hV0 : 0 ≤ V := by rw [← hV]; exact (val_bd hx s).1
  have hst0 : DigSt w V s x none 0 0 (w.alloc (.cells (arrOf x s) 22)) := ⟨Own.new w x s, World.ownsRow_nil _ _ _ _, below1 w _, by simp⟩
  rw [hV]
  have HVB : Hid (V < 18446744073709551616 ^ s) := by show _ < _; rw [← hV]; exact (val_bd hx s).2
  have HV : Hid (val x s = V) := hV
  have HSS : Hid (sizeL x s = s) := hss
  have HX : Hid (Words x) := hx
  clear h hval hs hV hss hx
  go_enter Tryz.func34, Tryz.ntmps34
  go_wp2_with (first | (go_at_call 79; refine hb.mono ?_; rintro e w' ⟨rfl, rfl⟩) | (go_at_call 80; refine ht.mono ?_; rintro e w' ⟨rfl, rfl⟩))
  generalize w.alloc (.cells (arrOf x s) 22) = wA at *
  go_loopw [4, 5, 6, 20] (fun dv lv u6 u20 wr => ∃ (L m cp : Nat) (ao : Option Addr) (z : Nat → Int), dv = .slice ao L cp ∧ lv = .slice (some ⟨w.heap.size, 0, none⟩) m s ∧ m ≤ s ∧ L ≤ 22 * s + 18 ∧ Words z ∧ sizeL z m = m ∧ val z m = V / 10 ^ L ∧ DigSt w V s z ao L cp wr) (fun dv _ _ _ _ => 22 * s + 19 - slLen dv)
  case atStart => exact ⟨0, s, 0, none, x, rfl, rfl, Nat.le_refl _, by omega, HX.out, HSS.out, by rw [HV.out]; simp, hst0⟩
  case round =>
    obtain ⟨L, m, cp, ao, z, rfl, rfl, hm, hLs, hz, hzm, hv, hst⟩ := hrel
    by_cases h0 : m = 0
    · subst h0
      have hVL : V < 10 ^ L := by
        have e : V / 10 ^ L = 0 := hv.symm
        have := Int.lt_mul_ediv_self_add (x := V) (k := 10 ^ L) (p10_pos L)
        rw [e] at this; simpa using this
      obtain ⟨hO, hown, hB, hsz2⟩ := hst
      have hown' := hown
      obtain ⟨hl, hcase⟩ := hown'
      rcases hcase with ⟨he, hL0⟩ | ⟨g, cap, cur, he, _⟩
      · cases he
        have hTn := trimRight_nil wr
        have HV2 : Hid (V < 10 ^ 0) := hVL
        have HB : Hid (Below w.heap.size w wr) := hB
        clear hVL hB hown hl hO hv hst0
        go_wp2_with (go_at_call 82; refine hTn.mono ?_; rintro e w' ⟨rfl, rfl⟩)
        go_ret2
        exact ⟨0, HV2.out, rfl, HB.out⟩
      · cases he
        obtain ⟨hbg, hLc, hcm, hHB⟩ := owns_cells hown
        have hTr := trimRight_any g L cp (dgt V) wr (by omega) hLc hcm (dgt_bd V) (fun i hi => (hHB.2 i hi).1)
        have hKL := sizeL_le (dgt V) L
        have hRv := reverse_any g (sizeL (dgt V) L) cp (fun i => 48 + dgt V i) wr (by omega) ⟨hHB.1, fun i hi => hHB.2 i (by omega)⟩
        have HD : Hid (decL V L = if sizeL (dgt V) L = 0 then [48] else (List.range (sizeL (dgt V) L)).map fun i => 48 + dgt V (sizeL (dgt V) L - 1 - i)) := rfl
        have HV2 : Hid (V < 10 ^ L) := hVL
        have HB : Hid (Below w.heap.size w wr) := hB
        have HG : Hid (w.heap.size ≤ g) := by show _ ≤ _; omega
        generalize sizeL (dgt V) L = K at *
        clear hVL hB hown hl hO hv hst0 hHB
        by_cases hK : K = 0
        · subst hK
          have HD0 : Hid (strOfNums (decL V L) = ⟨#[48]⟩) := by show _ = _; rw [HD.out]; rfl
          clear HD hRv
          go_wp2_with (go_at_call 82; refine hTr.mono ?_; rintro e w' ⟨rfl, rfl⟩)
          go_ret2
          exact ⟨L, HV2.out, by rw [HD0.out]; rfl, HB.out⟩
        · have hK0 : ((K : Int) == 0) = false := by simp; omega
          rw [if_neg hK] at HD
          go_wp2_with (first | (go_at_call 82; refine hTr.mono ?_; rintro e w' ⟨rfl, rfl⟩) | (go_at_call 83; refine hRv.mono ?_; rintro e w2 ⟨rfl, hB2, hU2⟩; have hcv := run_convert_bytes_arg (P := Tryz.prog) w2 110 5 Tryz.underlying110 Tryz.underlying5 g 0 K cp (decL V L) (by rw [HD.out]; simp) (fun i hi => by rw [HD.out, Nat.zero_add, (hB2.2 i hi).1]; simp [hi]) 9 Tryz.underlying9))
          go_ret2
          exact ⟨L, HV2.out, rfl, HB.out.trans (hU2.below HG.out)⟩
    · have hm0 : (0 : Int) < m := by omega
      have hd := divideBy_any w.heap.size s m s z 10000000000000000000 wr hm (by omega) hz (by omega) hst.1
      have hL : L < 22 * s := by
        have h1 := val_pos hz m (by omega) hzm
        rw [hv] at h1
        refine p10_lt (Int.lt_of_le_of_lt ?_ HVB.out)
        have h2 := p10_pos L
        rcases Int.lt_or_le V (10 ^ L) with h3 | h3
        · rw [Int.ediv_eq_zero_of_lt hV0 h3] at h1; omega
        · exact h3
      have HZM : Hid (sizeL z m = m) := hzm
      have hq := quo_val hz (show (0 : Int) < 10000000000000000000 by decide) m
      have hr : V / 10 ^ L % 10 ^ 19 = remJ z 10000000000000000000 m m := by rw [hq.2, hv]; rfl
      have hrb := remJ_bd z 10000000000000000000 m m (by decide)
      have HW : Hid (Words (divZ z 10000000000000000000 m 0)) := divZ_words hz (by decide) m 0
      have HQ : Hid (val (divZ z 10000000000000000000 m 0) m = V / 10 ^ (L + 19)) := by
        show _ = _
        rw [val_congr (y := quoW z 10000000000000000000 m) m fun i hi => by unfold divZ; rw [if_pos (by omega)], hq.1, hv, ← div_div10]; rfl
      have HR : Hid (∀ j, j < 19 → remJ z 10000000000000000000 m m / 10 ^ j % 10 = dgt V (L + j)) := fun j hj => dgt_step hr hj
      generalize remJ z 10000000000000000000 m m = r at *
      generalize hz' : divZ z 10000000000000000000 m 0 = z' at *
      have HST : Hid (DigSt w V s z ao L cp wr) := hst
      clear hst hzm hq hr hv hz' hst0 hz
      go_wp2_with (go_at_call 81; refine hd.mono ?_; rintro e w1 ⟨rfl, hO1, hU1⟩)
      have hst1 : DigSt w V s z' ao L cp w1 := ⟨hO1, owns_upd HST.out.2.1 hU1 (by omega), HST.out.2.2.1.trans (hU1.below (Nat.le_refl _)), by rw [hU1.size]; exact HST.out.2.2.2⟩
      clear hO1 hU1 hd
      go_loopw [4, 6, 20] (fun dv pv cv wr => ∃ (j cp : Nat) (ao : Option Addr), j ≤ 19 ∧ dv = .slice ao (L + j) cp ∧ pv = .int .u64 (r / 10 ^ j) ∧ cv = .int .i64 j ∧ DigSt w V s z' ao (L + j) cp wr) (fun _ _ cv _ => 19 - (intOf cv).toNat)
      case atStart => exact ⟨0, cp, ao, by omega, rfl, by simp, rfl, hst1⟩
      case round =>
        clear hst1 HST
        obtain ⟨j, cp2, ao2, hj, rfl, rfl, rfl, hst2⟩ := hrel
        by_cases hj19 : j < 19
        · have hji : (j : Int) < 19 := by omega
          have hp : 0 ≤ r / 10 ^ j ∧ r / 10 ^ j ≤ 18446744073709551615 := by
            have h1 := p10_pos j
            have h2 := Int.ediv_nonneg hrb.1 (Int.le_of_lt h1)
            have h3 : r / 10 ^ j ≤ r := Int.ediv_le_self _ hrb.1
            omega
          have HP : Hid (r / 10 ^ (j + 1) = r / 10 ^ j / 10) := by
            show _ = _
            rw [Int.pow_succ, ← Int.ediv_ediv_of_nonneg (Int.le_of_lt (p10_pos j))]
          have HVAL : Hid (r / 10 ^ j % 10 = dgt V (L + j)) := HR.out j hj19
          generalize r / 10 ^ j = p at *
          obtain ⟨i0, hi, hz0, hz1, hz2⟩ := info_parts Tryz.info5
          obtain ⟨hO, hown, hB, hsz2⟩ := hst2
          have HOwn : Hid (Own w.heap.size s z' wr) := hO
          have HO : Hid (wr.ownsRow (w.heap.size + 1) 5 1 (.slice ao2 (L + j) cp2) (L + j) (blB V (L + j))) := hown
          have HOWN : (wr.alloc (.cells #[.int .u8 (48 + p % 10)] 5)).ownsRow (w.heap.size + 1) 5 1 (.slice ao2 (L + j) cp2) (L + j) (blB V (L + j)) := hown.alloc _
          have HNEWS : ∀ (q : Nat) (u : Value), [Value.int .u8 (48 + p % 10)][q]? = some u → (wr.alloc (.cells #[.int .u8 (48 + p % 10)] 5)).cell? ((⟨wr.heap.size, 0, none⟩ : Addr).add q) = some u := by
            intro q u hq
            match q, hq with
            | 0, hq => simp at hq; subst hq; simp [Addr.add]
          have HONE : ∀ u ∈ [Value.int .u8 (48 + p % 10)], u.oneCell' = true := by
            intro u hu; simp at hu; subst hu; rfl
          clear hO hown
          go_wp2_with (first | (at_builtin; refine wpList_append_lies _ rfl (.tmp 22) (.tmp 27) 110 rfl (w.heap.size + 1) 5 i0 (.int .u8 0) 1 1 Tryz.underlying110 hi hz0 hz1 hz2 rfl (by decide) (.slice ao2 (L + j) cp2) (L + j) (blB V (L + j)) rfl HOWN ⟨wr.heap.size, 0, none⟩ 1 1 [Value.int .u8 (48 + p % 10)] rfl rfl HNEWS HONE (by omega) (by unfold maxLen; omega) (by omega) (by simp; omega) (wr.heap.size + 1) (by simp) ?_; intro g cap w1 hown1 hgrow hat hlt1; clear HOWN HNEWS HONE))
          have hrow : ∀ q, (Value.slice ao2 (L + j) cp2).ownBlock = some q → w.heap.size + 1 ≤ q := by
            intro q hq
            rcases ao2 with _ | ⟨bb, oo, sp⟩
            · cases hq
            · cases hq
              obtain ⟨_, h1⟩ := HO.out
              rcases h1 with ⟨h1, _⟩ | ⟨g', _, _, h1, h2, _⟩
              · cases h1
              · cases h1; exact h2
          have hown2 : w1.ownsRow (w.heap.size + 1) 5 1 (.slice (some ⟨g, 0, none⟩) (L + (j + 1)) cap) (L + (j + 1)) (blB V (L + (j + 1))) := by
            rw [HVAL.out, blB_succ] at hown1; exact hown1
          have HB1 : Below (w.heap.size + 1) wr w1 := ((Below.refl _ wr).alloc hsz2 _).grown hgrow (by simp; omega) hrow
          have HST2 : DigSt w V s z' (some ⟨g, 0, none⟩) (L + (j + 1)) cap w1 := ⟨Below.own HB1 (by omega) HOwn.out, hown2, hB.trans (HB1.mono (by omega)), Nat.le_trans hsz2 HB1.size⟩
          clear hown1 hgrow hown2 HB1 hB hrow
          go_wp2
          go_roundw
          case rel => exact ⟨j + 1, cap, some ⟨g, 0, none⟩, by omega, rfl, by rw [HP.out], by go_num, HST2⟩
          case measure => simp [intOf]; omega
        · obtain rfl : j = 19 := by omega
          obtain ⟨m', hm'⟩ : ∃ m', sizeL z' m = m' := ⟨_, rfl⟩
          have hmle := sizeL_le z' m
          have hbr := bare_any (some ⟨w.heap.size, 0, none⟩) m s (segW z' 0 m) wr (by omega) (hst2.1.num HW.out 0 m s (by omega) hm (by unfold maxLen; omega))
          have e1 : sizeL (segW z' 0 m) m = m' := by rw [← hm']; exact sizeL_congr m fun i hi => by rw [segW_lt z' 0 m i hi, Nat.zero_add]
          rw [e1] at hbr
          rw [hm'] at hmle
          have HM1 : Hid (sizeL z' m' = m') := by show _ = _; rw [← hm']; exact sizeL_sizeL z' m
          have HM2 : Hid (val z' m' = V / 10 ^ (L + 19)) := by show _ = _; rw [← hm', val_bare, HQ.out]
          have HST : Hid (DigSt w V s z' ao2 (L + 19) cp2 wr) := hst2
          clear hst2 e1 hm'
          go_wp2_with (go_at_call 79; refine hbr.mono ?_; rintro e w2 ⟨rfl, rfl⟩)
          go_roundw
          case rel => exact ⟨L + 19, m', cp2, ao2, z', rfl, rfl, by omega, by omega, HW.out, HM1.out, HM2.out, HST.out⟩
          case measure => simp [slLen]; omega
end Go.Proofs.YtogfiipmebgnjaaGreatDoor

namespace Go.Proofs.YtogfiipmebgnjaaGreatDoor
open Go.RowKit

def sgL (s : Bool) : List UInt8 := if s then [45] else []
attribute [local irreducible] W4
set_option maxHeartbeats 4000000 in
theorem lay_f1 (D : List UInt8) (e : Int) (w : World) (hT10 : Tb10 w) (he : -90000 ≤ e ∧ e ≤ 90000) (hD : D.length = 1) :
    Calls Tryz.prog 22 #[.bool false, .string (B D), .int .i64 e] w fun r w' => r = .returned (.string (B (sgL false ++ unT D (e + D.length - 1)))) ∧ Below w.heap.size w w' := by
  have c53 := fun W (h : Tb10 W) => itoa_any (e + D.length - 1) W (by omega) h
  have hi := itoa_short (e := e + D.length - 1) (by omega)
  have hz : (B D).size = 1 := by rw [B_size, hD]
  have HU : Hid ((sgL false) ++ unT D (e + D.length - 1) = ((([] : List UInt8) ++ D.take 1) ++ [101]) ++ Lib.itoa (e + D.length - 1)) := by
    show _ = _
    unfold unT
    rw [if_neg (show ¬ 1 < D.length by omega)]
    simp [sgL, List.append_assoc]
  generalize (sgL false) ++ unT D (e + D.length - 1) = TT at HU ⊢
  have htl := B_toList
  have ht : (B D).extract 0 1 = B (D.take 1) := by rw [B_ext, List.drop_zero]
  have y2 : (B (D.take 1)).size = 1 := by rw [B_size, List.length_take]; omega
  have p0 : (⟨#[]⟩ : ByteArray) ++ B (D.take 1) = B (([] : List UInt8) ++ D.take 1) := B_app ([] : List UInt8) _
  have z0 : (B (([] : List UInt8) ++ D.take 1)).size = 1 := by rw [B_size] at y2 ⊢; rw [List.length_append, y2]; rfl
  generalize hL2 : ([] : List UInt8) ++ D.take 1 = L2 at *
  have z2 := z0
  have p3 : B L2 ++ (⟨#[101]⟩ : ByteArray) = B (L2 ++ [101]) := B_app _ [101]
  have z3 : (B (L2 ++ [101])).size = 2 := by rw [B_size] at z2 ⊢; rw [List.length_append, z2]; rfl
  generalize hL3 : L2 ++ [101] = L3 at *
  have p4 : B L3 ++ B (Lib.itoa (e + D.length - 1)) = B (L3 ++ Lib.itoa (e + D.length - 1)) := B_app _ _
  obtain ⟨il, hil⟩ : ∃ il, (Lib.itoa (e + D.length - 1)).length = il := ⟨_, rfl⟩
  have z4 : (B (Lib.itoa (e + D.length - 1))).size = il := by rw [B_size]; exact hil
  have hil2 : il ≤ 100 := by omega
  clear hi hil
  generalize Lib.itoa (e + D.length - 1) = I at *
  generalize hL4 : L3 ++ I = L4 at *
  generalize hA : D.take 1 = A0 at *
  generalize hB : D.drop 1 = B0 at *
  clear hL4 hL3 hL2 hA hB
  rw [hD] at c53
  have hee : e + ((1 : Nat) : Int) - 1 = e := by omega
  rw [hee] at c53
  have c53' : ∀ W (y : Int), y = e → Tb10 W → Calls Tryz.prog 52 #[.int .i64 y] W fun r w' => r = .returned (.string (B I)) ∧ Below W.heap.size W w' := by rintro W y rfl h; exact c53 W h
  clear hD hee c53
  go_enter Tryz.func22, Tryz.ntmps22
  go_wp2_with (go_at_call 52; refine (c53' _ _ (by omega) (hT10.next bgo)).mono ?_; rintro r w3 ⟨rfl, hb3⟩)
  go_ret
  exact ⟨by rw [HU.out]; rfl, hb3⟩
set_option maxHeartbeats 4000000 in
theorem lay_fm (D : List UInt8) (e : Int) (w : World) (hT10 : Tb10 w) (he : -90000 ≤ e ∧ e ≤ 90000) (hD : 1 < D.length ∧ D.length ≤ 4000) :
    Calls Tryz.prog 22 #[.bool false, .string (B D), .int .i64 e] w fun r w' => r = .returned (.string (B (sgL false ++ unT D (e + D.length - 1)))) ∧ Below w.heap.size w w' := by
  obtain ⟨m, hm⟩ : ∃ m, D.length = m + 2 := ⟨D.length - 2, by omega⟩
  have hm2 : m ≤ 4000 := by omega
  have c53 := fun W (h : Tb10 W) => itoa_any (e + D.length - 1) W (by omega) h
  have hi := itoa_short (e := e + D.length - 1) (by omega)
  have hz : (B D).size = m + 2 := by rw [B_size, hm]
  have HU : Hid ((sgL false) ++ unT D (e + D.length - 1) = ((((([] : List UInt8) ++ D.take 1) ++ [46]) ++ D.drop 1) ++ [101]) ++ Lib.itoa (e + D.length - 1)) := by
    show _ = _
    unfold unT
    rw [if_pos hD.1]
    simp [sgL, List.append_assoc]
  have HS : Hid (e + ((m + 2 : Nat) : Int) - 1 = e + D.length - 1) := by show _ = _; rw [hm]
  generalize (sgL false) ++ unT D (e + D.length - 1) = TT at HU ⊢
  have htl := B_toList
  have ht : (B D).extract 0 1 = B (D.take 1) := by rw [B_ext, List.drop_zero]
  have y2 : (B (D.take 1)).size = 1 := by rw [B_size, List.length_take]; omega
  have p0 : (⟨#[]⟩ : ByteArray) ++ B (D.take 1) = B (([] : List UInt8) ++ D.take 1) := B_app ([] : List UInt8) _
  have z0 : (B (([] : List UInt8) ++ D.take 1)).size = 1 := by rw [B_size] at y2 ⊢; rw [List.length_append, y2]; rfl
  have hd : (B D).extract 1 (m + 2) = B (D.drop 1) := by have := B_drop D 1; rw [hz] at this; exact this
  have y0 : (B (D.drop 1)).size = m + 1 := by rw [B_size, List.length_drop, hm]; omega
  generalize hL0 : ([] : List UInt8) ++ D.take 1 = L0 at *
  have p1 : B L0 ++ (⟨#[46]⟩ : ByteArray) = B (L0 ++ [46]) := B_app _ [46]
  have z1 : (B (L0 ++ [46])).size = 2 := by rw [B_size] at z0 ⊢; rw [List.length_append, z0]; rfl
  generalize hL1 : L0 ++ [46] = L1 at *
  have p2 : B L1 ++ B (D.drop 1) = B (L1 ++ D.drop 1) := B_app _ _
  have z2 : (B (L1 ++ D.drop 1)).size = m + 3 := by rw [B_size] at z1 y0 ⊢; rw [List.length_append, z1, y0]; omega
  generalize hL2 : L1 ++ D.drop 1 = L2 at *
  have p3 : B L2 ++ (⟨#[101]⟩ : ByteArray) = B (L2 ++ [101]) := B_app _ [101]
  have z3 : (B (L2 ++ [101])).size = m + 4 := by rw [B_size] at z2 ⊢; rw [List.length_append, z2]; rfl
  generalize hL3 : L2 ++ [101] = L3 at *
  have p4 : B L3 ++ B (Lib.itoa (e + D.length - 1)) = B (L3 ++ Lib.itoa (e + D.length - 1)) := B_app _ _
  obtain ⟨il, hil⟩ : ∃ il, (Lib.itoa (e + D.length - 1)).length = il := ⟨_, rfl⟩
  have z4 : (B (Lib.itoa (e + D.length - 1))).size = il := by rw [B_size]; exact hil
  have hil2 : il ≤ 100 := by omega
  clear hi hil
  generalize Lib.itoa (e + D.length - 1) = I at *
  generalize hL4 : L3 ++ I = L4 at *
  generalize hA : D.take 1 = A0 at *
  generalize hB : D.drop 1 = B0 at *
  clear hL4 hL3 hL2 hA hB hL1 hL0
  rw [hm] at c53
  have hee : e + ((m + 2 : Nat) : Int) - 1 = e + m + 1 := by omega
  rw [hee] at c53
  have c53' : ∀ W (y : Int), y = e + m + 1 → Tb10 W → Calls Tryz.prog 52 #[.int .i64 y] W fun r w' => r = .returned (.string (B I)) ∧ Below W.heap.size W w' := by rintro W y rfl h; exact c53 W h
  clear hm hD HS hee c53
  go_enter Tryz.func22, Tryz.ntmps22
  go_wp2_with (go_at_call 52; refine (c53' _ _ (by omega) (hT10.next bgo)).mono ?_; rintro r w3 ⟨rfl, hb3⟩)
  go_ret
  exact ⟨by rw [HU.out]; rfl, hb3⟩
set_option maxHeartbeats 4000000 in
theorem lay_t1 (D : List UInt8) (e : Int) (w : World) (hT10 : Tb10 w) (he : -90000 ≤ e ∧ e ≤ 90000) (hD : D.length = 1) :
    Calls Tryz.prog 22 #[.bool true, .string (B D), .int .i64 e] w fun r w' => r = .returned (.string (B (sgL true ++ unT D (e + D.length - 1)))) ∧ Below w.heap.size w w' := by
  have c53 := fun W (h : Tb10 W) => itoa_any (e + D.length - 1) W (by omega) h
  have hi := itoa_short (e := e + D.length - 1) (by omega)
  have hz : (B D).size = 1 := by rw [B_size, hD]
  have HU : Hid ((sgL true) ++ unT D (e + D.length - 1) = (([45] ++ D.take 1) ++ [101]) ++ Lib.itoa (e + D.length - 1)) := by
    show _ = _
    unfold unT
    rw [if_neg (show ¬ 1 < D.length by omega)]
    simp [sgL, List.append_assoc]
  generalize (sgL true) ++ unT D (e + D.length - 1) = TT at HU ⊢
  have htl := B_toList
  have ht : (B D).extract 0 1 = B (D.take 1) := by rw [B_ext, List.drop_zero]
  have y2 : (B (D.take 1)).size = 1 := by rw [B_size, List.length_take]; omega
  have p0 : (⟨#[45]⟩ : ByteArray) ++ B (D.take 1) = B ([45] ++ D.take 1) := B_app [45] _
  have z0 : (B ([45] ++ D.take 1)).size = 2 := by rw [B_size] at y2 ⊢; rw [List.length_append, y2]; rfl
  generalize hL2 : [45] ++ D.take 1 = L2 at *
  have z2 := z0
  have p3 : B L2 ++ (⟨#[101]⟩ : ByteArray) = B (L2 ++ [101]) := B_app _ [101]
  have z3 : (B (L2 ++ [101])).size = 3 := by rw [B_size] at z2 ⊢; rw [List.length_append, z2]; rfl
  generalize hL3 : L2 ++ [101] = L3 at *
  have p4 : B L3 ++ B (Lib.itoa (e + D.length - 1)) = B (L3 ++ Lib.itoa (e + D.length - 1)) := B_app _ _
  obtain ⟨il, hil⟩ : ∃ il, (Lib.itoa (e + D.length - 1)).length = il := ⟨_, rfl⟩
  have z4 : (B (Lib.itoa (e + D.length - 1))).size = il := by rw [B_size]; exact hil
  have hil2 : il ≤ 100 := by omega
  clear hi hil
  generalize Lib.itoa (e + D.length - 1) = I at *
  generalize hL4 : L3 ++ I = L4 at *
  generalize hA : D.take 1 = A0 at *
  generalize hB : D.drop 1 = B0 at *
  clear hL4 hL3 hL2 hA hB
  rw [hD] at c53
  have hee : e + ((1 : Nat) : Int) - 1 = e := by omega
  rw [hee] at c53
  have c53' : ∀ W (y : Int), y = e → Tb10 W → Calls Tryz.prog 52 #[.int .i64 y] W fun r w' => r = .returned (.string (B I)) ∧ Below W.heap.size W w' := by rintro W y rfl h; exact c53 W h
  clear hD hee c53
  go_enter Tryz.func22, Tryz.ntmps22
  go_wp2_with (go_at_call 52; refine (c53' _ _ (by omega) (hT10.next bgo)).mono ?_; rintro r w3 ⟨rfl, hb3⟩)
  go_ret
  exact ⟨by rw [HU.out]; rfl, hb3⟩
set_option maxHeartbeats 4000000 in
theorem lay_tm (D : List UInt8) (e : Int) (w : World) (hT10 : Tb10 w) (he : -90000 ≤ e ∧ e ≤ 90000) (hD : 1 < D.length ∧ D.length ≤ 4000) :
    Calls Tryz.prog 22 #[.bool true, .string (B D), .int .i64 e] w fun r w' => r = .returned (.string (B (sgL true ++ unT D (e + D.length - 1)))) ∧ Below w.heap.size w w' := by
  obtain ⟨m, hm⟩ : ∃ m, D.length = m + 2 := ⟨D.length - 2, by omega⟩
  have hm2 : m ≤ 4000 := by omega
  have c53 := fun W (h : Tb10 W) => itoa_any (e + D.length - 1) W (by omega) h
  have hi := itoa_short (e := e + D.length - 1) (by omega)
  have hz : (B D).size = m + 2 := by rw [B_size, hm]
  have HU : Hid ((sgL true) ++ unT D (e + D.length - 1) = (((([45] ++ D.take 1) ++ [46]) ++ D.drop 1) ++ [101]) ++ Lib.itoa (e + D.length - 1)) := by
    show _ = _
    unfold unT
    rw [if_pos hD.1]
    simp [sgL, List.append_assoc]
  have HS : Hid (e + ((m + 2 : Nat) : Int) - 1 = e + D.length - 1) := by show _ = _; rw [hm]
  generalize (sgL true) ++ unT D (e + D.length - 1) = TT at HU ⊢
  have htl := B_toList
  have ht : (B D).extract 0 1 = B (D.take 1) := by rw [B_ext, List.drop_zero]
  have y2 : (B (D.take 1)).size = 1 := by rw [B_size, List.length_take]; omega
  have p0 : (⟨#[45]⟩ : ByteArray) ++ B (D.take 1) = B ([45] ++ D.take 1) := B_app [45] _
  have z0 : (B ([45] ++ D.take 1)).size = 2 := by rw [B_size] at y2 ⊢; rw [List.length_append, y2]; rfl
  have hd : (B D).extract 1 (m + 2) = B (D.drop 1) := by have := B_drop D 1; rw [hz] at this; exact this
  have y0 : (B (D.drop 1)).size = m + 1 := by rw [B_size, List.length_drop, hm]; omega
  generalize hL0 : [45] ++ D.take 1 = L0 at *
  have p1 : B L0 ++ (⟨#[46]⟩ : ByteArray) = B (L0 ++ [46]) := B_app _ [46]
  have z1 : (B (L0 ++ [46])).size = 3 := by rw [B_size] at z0 ⊢; rw [List.length_append, z0]; rfl
  generalize hL1 : L0 ++ [46] = L1 at *
  have p2 : B L1 ++ B (D.drop 1) = B (L1 ++ D.drop 1) := B_app _ _
  have z2 : (B (L1 ++ D.drop 1)).size = m + 4 := by rw [B_size] at z1 y0 ⊢; rw [List.length_append, z1, y0]; omega
  generalize hL2 : L1 ++ D.drop 1 = L2 at *
  have p3 : B L2 ++ (⟨#[101]⟩ : ByteArray) = B (L2 ++ [101]) := B_app _ [101]
  have z3 : (B (L2 ++ [101])).size = m + 5 := by rw [B_size] at z2 ⊢; rw [List.length_append, z2]; rfl
  generalize hL3 : L2 ++ [101] = L3 at *
  have p4 : B L3 ++ B (Lib.itoa (e + D.length - 1)) = B (L3 ++ Lib.itoa (e + D.length - 1)) := B_app _ _
  obtain ⟨il, hil⟩ : ∃ il, (Lib.itoa (e + D.length - 1)).length = il := ⟨_, rfl⟩
  have z4 : (B (Lib.itoa (e + D.length - 1))).size = il := by rw [B_size]; exact hil
  have hil2 : il ≤ 100 := by omega
  clear hi hil
  generalize Lib.itoa (e + D.length - 1) = I at *
  generalize hL4 : L3 ++ I = L4 at *
  generalize hA : D.take 1 = A0 at *
  generalize hB : D.drop 1 = B0 at *
  clear hL4 hL3 hL2 hA hB hL1 hL0
  rw [hm] at c53
  have hee : e + ((m + 2 : Nat) : Int) - 1 = e + m + 1 := by omega
  rw [hee] at c53
  have c53' : ∀ W (y : Int), y = e + m + 1 → Tb10 W → Calls Tryz.prog 52 #[.int .i64 y] W fun r w' => r = .returned (.string (B I)) ∧ Below W.heap.size W w' := by rintro W y rfl h; exact c53 W h
  clear hm hD HS hee c53
  go_enter Tryz.func22, Tryz.ntmps22
  go_wp2_with (go_at_call 52; refine (c53' _ _ (by omega) (hT10.next bgo)).mono ?_; rintro r w3 ⟨rfl, hb3⟩)
  go_ret
  exact ⟨by rw [HU.out]; rfl, hb3⟩
theorem lay_v (s : Bool) (D : List UInt8) (e : Int) (w : World) (hT10 : Tb10 w) (he : -90000 ≤ e ∧ e ≤ 90000) (hD : 1 ≤ D.length ∧ D.length ≤ 4000) :
    Calls Tryz.prog 22 #[.bool s, .string (B D), .int .i64 e] w fun r w' => r = .returned (.string (B (sgL s ++ unT D (e + D.length - 1)))) ∧ Below w.heap.size w w' := by
  by_cases h1 : D.length = 1
  · cases s
    · exact lay_f1 D e w hT10 he h1
    · exact lay_t1 D e w hT10 he h1
  · cases s
    · exact lay_fm D e w hT10 he (by omega)
    · exact lay_tm D e w hT10 he (by omega)
end Go.Proofs.YtogfiipmebgnjaaGreatDoor

namespace Go.Proofs.YtogfiipmebgnjaaGreatDoor
open Go.RowKit

/-- an exponent that is always written -/
theorem ex_any (e : Int) (h : -1000000000 ≤ e ∧ e ≤ 1000000000) : exB (101 :: Lib.itoa e) = true ∧ exI (101 :: Lib.itoa e) = e ∧ Lib.hasPrefix (101 :: Lib.itoa e) [46] = false ∧ dgs (101 :: Lib.itoa e) = [] ∧ rst (101 :: Lib.itoa e) = 101 :: Lib.itoa e := by
  by_cases h0 : e = 0
  · subst h0
    have e0 : Lib.itoa 0 = [48] := by kernel_rfl
    rw [e0]
    exact ⟨by decide, by decide, by decide, by decide, by decide⟩
  · have := exT_cut e h
    unfold exT at this
    rw [if_neg h0] at this
    exact this
theorem clamp_id {e : Int} (h : -1000000000 ≤ e ∧ e ≤ 1000000000) : clampE e = e := by unfold clampE; omega
/-- the text of digits with an exponent -/
theorem un_cut (s : Bool) {c : UInt8} {r : List UInt8} {e : Int} (hc : dg c = true) (hc0 : (c.toNat : Int) ≠ 48) (hr : r.all dg = true) (hl : r.length ≤ 3950) (he : -100000 ≤ e ∧ e ≤ 100000) :
    cutP (sgL s ++ unT (c :: r) e) = some ⟨1, s, false, c :: r, e - r.length⟩ := by
  have hlen : (unT (c :: r) e).length ≤ r.length + 26 := by have := unT_brief (D := c :: r) he; rw [List.length_cons] at this; omega
  obtain ⟨x1, x2, x3, x4, x5⟩ := ex_any e (by omega)
  have hcn := dg_nat hc
  have hall : [c].all dg = true := by simp [hc]
  have hbar : bar (c :: r) = c :: r := by rw [bar_cons, if_neg hc0]
  have key : finB (unT (c :: r) e) = true ∧ finD (unT (c :: r) e) = c :: r ∧ finE (unT (c :: r) e) = e - r.length ∧ ∃ t, unT (c :: r) e = c :: t := by
    cases hr0 : r with
    | nil =>
      have hu : unT [c] e = [c] ++ (101 :: Lib.itoa e) := rfl
      rw [hu]
      obtain ⟨d1, d2⟩ := dgs_app2 (m := 101 :: Lib.itoa e) hall x4
      have f1 : frac ([c] ++ 101 :: Lib.itoa e) = [] := by unfold frac; rw [d2, x3]; rfl
      have f2 : behind ([c] ++ 101 :: Lib.itoa e) = 101 :: Lib.itoa e := by unfold behind; rw [d2, x3]; rfl
      refine ⟨?_, ?_, ?_, _, rfl⟩
      · unfold finB; rw [f1, f2, x1, d1]; rfl
      · unfold finD; rw [f1, d1]
        rw [hr0] at hbar
        exact hbar
      · unfold finE; rw [f1, f2, x2]
        exact clamp_id (by simp; omega)
    | cons a t =>
      rw [← hr0]
      have hu : unT (c :: r) e = [c] ++ 46 :: (r ++ (101 :: Lib.itoa e)) := by
        unfold unT
        rw [hr0]
        simp
      rw [hu]
      obtain ⟨d1, d2⟩ := dgs_app2 (m := 46 :: (r ++ (101 :: Lib.itoa e))) hall rfl
      obtain ⟨d3, d4⟩ := dgs_app2 (m := 101 :: Lib.itoa e) hr x4
      have e1 : Lib.hasPrefix (46 :: (r ++ (101 :: Lib.itoa e))) [46] = true := rfl
      have e2 : Lib.trimPrefix (46 :: (r ++ (101 :: Lib.itoa e))) [46] = r ++ (101 :: Lib.itoa e) := rfl
      have f1 : frac ([c] ++ 46 :: (r ++ (101 :: Lib.itoa e))) = r := by unfold frac; rw [d2, e1, e2, d3]; rfl
      have f2 : behind ([c] ++ 46 :: (r ++ (101 :: Lib.itoa e))) = 101 :: Lib.itoa e := by unfold behind; rw [d2, e1, e2, d4]; rfl
      refine ⟨?_, ?_, ?_, _, rfl⟩
      · unfold finB; rw [f1, f2, x1, d1]; rfl
      · unfold finD; rw [f1, d1]
        exact hbar
      · unfold finE; rw [f1, f2, x2]
        exact clamp_id (by omega)
  obtain ⟨k1, k2, k3, t, k4⟩ := key
  unfold cutP
  have hs : (sgL s ++ unT (c :: r) e).length ≤ 4000 := by
    rw [List.length_append]
    have : (sgL s).length ≤ 1 := by cases s <;> decide
    omega
  rw [if_neg (by omega)]
  have hsg : gsgB (sgL s ++ unT (c :: r) e) = s ∧ sgR (sgL s ++ unT (c :: r) e) = unT (c :: r) e := by
    rw [k4]
    exact sig_app s c t ⟨by omega, by omega⟩
  rw [hsg.1, hsg.2]
  unfold bodP
  rw [if_pos k1, k2, k3]
/-- the first digit's place is not far -/
theorem tn_far {k : Nat} {x E : Int} (hk : k < 2 ^ 256) (hx : x ≤ 16990) (h : tnP k x E) : E ≤ 5191 := by
  apply Classical.byContradiction
  intro hE
  have hE : 5192 ≤ E := by omega
  unfold tnP zE oE at h
  have e1 : (-E).toNat = 0 := by omega
  rw [e1, Nat.pow_zero, Nat.mul_one] at h
  obtain ⟨t, ht⟩ : ∃ t : Nat, t = 5192 := ⟨_, rfl⟩
  obtain ⟨a, ha⟩ : ∃ a : Nat, a = 16990 := ⟨_, rfl⟩
  have h1 : 10 ^ t ≤ 10 ^ E.toNat := Nat.pow_le_pow_right (by decide) (by omega)
  have h2 : 2 ^ x.toNat ≤ 2 ^ a := Nat.pow_le_pow_right (by decide) (by omega)
  have h3 : 1 ≤ 2 ^ (-x).toNat := Nat.two_pow_pos _
  have h4 : 2 ^ 256 * 2 ^ a ≤ 10 ^ t := by
    rw [← Nat.pow_add]
    exact two_le_ten (by omega)
  have h5 : k * 2 ^ x.toNat < 2 ^ 256 * 2 ^ a := Nat.lt_of_lt_of_le (Nat.mul_lt_mul_of_pos_right hk (Nat.two_pow_pos _)) (Nat.mul_le_mul_left _ h2)
  have h6 : 1 * 10 ^ E.toNat ≤ 2 ^ (-x).toNat * 10 ^ E.toNat := Nat.mul_le_mul_right _ h3
  rw [Nat.mul_assoc, Nat.mul_assoc] at h
  have h7 := Nat.le_of_mul_le_mul_left h (by decide : 0 < 4)
  rw [Nat.one_mul] at h6
  exact absurd (Nat.lt_of_le_of_lt (Nat.le_trans h1 (Nat.le_trans h6 h7)) (Nat.lt_of_lt_of_le h5 h4)) (Nat.lt_irrefl _)
end Go.Proofs.YtogfiipmebgnjaaGreatDoor

namespace Go.Proofs.YtogfiipmebgnjaaGreatDoor

theorem rep_all (z : Nat) : (List.replicate z (48 : UInt8)).all dg = true := by
  induction z with
  | zero => rfl
  | succ k ih => rw [List.replicate_succ, List.all_cons, ih]; rfl
theorem dV_rep {T : List UInt8} (hT : T.all dg = true) : ∀ z, dV (T ++ List.replicate z 48) = dV T * 10 ^ z
  | 0 => by simp
  | z + 1 => by
    rw [List.replicate_succ', ← List.append_assoc, dV_snoc (by rw [List.all_append, hT, rep_all]; rfl) (by decide), dV_rep hT z, Nat.pow_succ]
    have : (48 : UInt8).toNat - 48 = 0 := by decide
    rw [this, Nat.add_zero, Nat.mul_comm 10, Nat.mul_assoc]
end Go.Proofs.YtogfiipmebgnjaaGreatDoor

namespace Go.Proofs.YtogfiipmebgnjaaGreatDoor
open Go.RowKit

/-- a number's decimal digits; of 0 none -/
def dcW (X : Nat) : List UInt8 := if X = 0 then [] else dcD X (bl X)
theorem dcW_facts (X : Nat) : gdD (dcW X) ∧ dV (dcW X) = X := by
  unfold dcW
  by_cases h0 : X = 0
  · rw [if_pos h0]
    exact ⟨Or.inl rfl, h0 ▸ rfl⟩
  · rw [if_neg h0]
    have hX : (0 : Int) < X := by omega
    have hL : (X : Int) < 10 ^ bl X := by
      have h1 := (bl_bd h0).2.1
      have h2 := Nat.pow_le_pow_left (show 2 ≤ 10 by decide) (bl X)
      have h3 : X < 10 ^ bl X := by omega
      exact_mod_cast h3
    obtain ⟨d1, d2, d3⟩ := dcD_facts hX hL
    exact ⟨d1, by omega⟩
theorem dcW_ne {X : Nat} (h : X ≠ 0) : dcW X ≠ [] := fun e => h (by rw [← (dcW_facts X).2, e]; rfl)
theorem dcW_is {D : List UInt8} (h : gdD D) : D = dcW (dV D) := gd_uniq h (dcW_facts _).1 (dcW_facts _).2.symm
/-- so many digits -/
theorem dcW_len {X n : Nat} (hn : 1 ≤ n) (h1 : 10 ^ (n - 1) ≤ X) (h2 : X < 10 ^ n) : (dcW X).length = n := by
  obtain ⟨d1, d2⟩ := dcW_facts X
  have hX : X ≠ 0 := by have : 0 < 10 ^ (n - 1) := Nat.pow_pos (by decide); omega
  have hne := dcW_ne hX
  have hlt := (dV_lt (gdD_all d1)).1
  rcases d1 with h | ⟨h, h0⟩
  · exact absurd h hne
  have hge := dV_ge (isd_all h) h0 hne
  rw [d2] at hlt hge
  have hl : 1 ≤ (dcW X).length := by
    rcases Nat.eq_zero_or_pos (dcW X).length with h | h
    · exact absurd (List.eq_nil_of_length_eq_zero h) hne
    · exact h
  have a1 : 10 ^ (n - 1) < 10 ^ (dcW X).length := by omega
  have a2 : 10 ^ ((dcW X).length - 1) < 10 ^ n := by omega
  have b1 := (Nat.pow_lt_pow_iff_right (by decide : 1 < 10)).1 a1
  have b2 := (Nat.pow_lt_pow_iff_right (by decide : 1 < 10)).1 a2
  omega
theorem dcW_pow (n : Nat) : dcW (10 ^ n) = 49 :: List.replicate n 48 := by
  have hg : gdD (49 :: List.replicate n 48) := by
    refine Or.inr ⟨?_, by rw [by_zero]; decide⟩
    unfold isd
    rw [List.all_cons, rep_all n]
    rfl
  have hv : dV (49 :: List.replicate n 48) = 10 ^ n := by
    have := dV_rep (T := [49]) rfl n
    rw [show [49] ++ List.replicate n 48 = (49 : UInt8) :: List.replicate n 48 from rfl, show dV [49] = 1 from rfl, Nat.one_mul] at this
    exact this
  have := dcW_is hg
  rw [hv] at this
  exact this.symm
/-- the digits that are written, and the last one's exponent: a number that was rounded up to 10^n has one digit less, and the exponent one more -/
def fxD (n c : Nat) : List UInt8 := (dcW c).take n
def fxX (n c : Nat) (a : Int) : Int := if n < (dcW c).length then a + 1 else a
theorem fx_text {n c : Nat} (hn : 1 ≤ n) (h1 : 10 ^ (n - 1) ≤ c) (h2 : c ≤ 10 ^ n) (a : Int) :
    gdD (fxD n c) ∧ (fxD n c).length = n ∧ ((c < 10 ^ n ∧ dV (fxD n c) = c ∧ fxX n c a = a) ∨ (c = 10 ^ n ∧ dV (fxD n c) = 10 ^ (n - 1) ∧ fxX n c a = a + 1)) := by
  unfold fxD fxX
  rcases Nat.lt_or_ge c (10 ^ n) with h | h
  · have hl := dcW_len hn h1 h
    rw [List.take_of_length_le (by omega), hl]
    exact ⟨(dcW_facts c).1, rfl, Or.inl ⟨h, (dcW_facts c).2, if_neg (by omega)⟩⟩
  · have hc : c = 10 ^ n := by omega
    subst hc
    rw [dcW_pow]
    obtain ⟨m, rfl⟩ : ∃ m, n = m + 1 := ⟨n - 1, by omega⟩
    have e : (49 :: List.replicate (m + 1) (48 : UInt8)).take (m + 1) = 49 :: List.replicate m 48 := by
      rw [List.take_succ_cons, List.take_replicate]
      congr 2
      omega
    rw [e, ← dcW_pow m]
    refine ⟨(dcW_facts _).1, ?_, Or.inr ⟨rfl, (dcW_facts _).2, if_pos (by simp)⟩⟩
    rw [dcW_pow]
    simp
end Go.Proofs.YtogfiipmebgnjaaGreatDoor
