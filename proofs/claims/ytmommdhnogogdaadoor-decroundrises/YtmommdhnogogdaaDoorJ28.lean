/-
  Texts that the proof leans on, joined: Xn, Byt, Rev, Dgn, Fb, Oe, Oq, Fm, Fqn.
-/
import Derived.Test.YtmommdhnogogdaaDoorJ26
import Derived.Test.YtmommdhnogogdaaDoorJ27
import Derived.Test.YtmommdhnogogdaaDoorJ25
import Derived.Shelf.SlicesE.Reverse
import Derived.Test.YtmommdhnogogdaaDoorJ18
import Derived.Test.YtmommdhnogogdaaDoorJ19
import Derived.Test.YtmommdhnogogdaaDoorJ15
import Derived.Test.YtmommdhnogogdaaDoorJ11
import Derived.Deep.RegionWith
import Derived.Test.YtmommdhnogogdaaDoorJ17
import Derived.Test.YtmommdhnogogdaaDoorJ8
import Derived.Deep.Cut
import Derived.Deep.CutRange
set_option linter.unusedVariables false
set_option linter.unusedSectionVars false
set_option linter.unusedSimpArgs false
set_option maxRecDepth 20000
namespace Go.Proofs.YtmommdhnogogdaaDoor
open Go.RowKit

theorem decL_rev {V : Int} {L : Nat} (h0 : 0 < V) (h : V < 10 ^ L) : revL V (sizeL (dgt V) L) = decL V L := by
  unfold decL revL
  rw [if_neg]
  intro e
  have := lt_sizeL (Int.le_of_lt h0) L h
  rw [e] at this; simp at this; omega
theorem sb_nums {l : List Int} (hl : ∀ v ∈ l, 48 ≤ v ∧ v ≤ 57) {i : Nat} (hi : i < l.length) : sb (strOfNums l) i = l[i] := by
  unfold sb
  rw [dif_pos (by rw [strOfNums_size]; exact hi)]
  have h := hl l[i] (List.getElem_mem hi)
  have e : (strOfNums l)[i]'(by rw [strOfNums_size]; exact hi) = UInt8.ofNat l[i].toNat := by
    show (strOfNums l).data[i]'_ = _
    simp [strOfNums]
  rw [e]
  simp
  omega
theorem numV_rev {V : Int} {K : Nat} {u : ByteArray} (hu : ∀ i, i < K → sb u i = 48 + dgt V (K - 1 - i)) (h0 : 0 ≤ V) (hV : V < 10 ^ K) : ∀ j, j ≤ K → numV u j = V / 10 ^ (K - j)
  | 0, _ => by rw [Nat.sub_zero, Int.ediv_eq_zero_of_lt h0 hV]; rfl
  | j + 1, h => by
    have ih := numV_rev hu h0 hV j (by omega)
    simp only [numV]
    rw [ih, hu j (by omega)]
    have e1 : K - j = (K - (j + 1)) + 1 := by omega
    have e2 : K - 1 - j = K - (j + 1) := by omega
    rw [e1, e2]
    unfold dgt
    rw [← div_div10]
    generalize V / 10 ^ (K - (j + 1)) = W
    omega
/-- the digits of a number -/
def dcD (V : Int) (L : Nat) : List UInt8 := (strOfNums (revL V (sizeL (dgt V) L))).data.toList
theorem dcD_facts {V : Int} {L : Nat} (h0 : 0 < V) (h : V < 10 ^ L) : gdD (dcD V L) ∧ (dV (dcD V L) : Int) = V ∧ (dcD V L).length ≤ L := by
  have hK := lt_sizeL (Int.le_of_lt h0) L h
  have hKp : 0 < sizeL (dgt V) L := by
    rcases Nat.eq_zero_or_pos (sizeL (dgt V) L) with e | e
    · rw [e] at hK; simp at hK; omega
    · exact e
  have hKL := sizeL_le (dgt V) L
  have htop := sizeL_top L hKp
  have hB : B (dcD V L) = strOfNums (revL V (sizeL (dgt V) L)) := B_of _
  have hd : ∀ v ∈ revL V (sizeL (dgt V) L), 48 ≤ v ∧ v ≤ 57 := by
    intro v hv
    simp [revL] at hv
    obtain ⟨i, _, rfl⟩ := hv
    have := dgt_bd V (sizeL (dgt V) L - 1 - i)
    omega
  have hrl : (revL V (sizeL (dgt V) L)).length = sizeL (dgt V) L := by simp [revL]
  have hsz : (dcD V L).length = sizeL (dgt V) L := by
    rw [← B_size, hB, strOfNums_size, hrl]
  have hby : ∀ i, i < sizeL (dgt V) L → by_ (dcD V L) i = 48 + dgt V (sizeL (dgt V) L - 1 - i) := fun i hi => by
    rw [← sb_by, hB, sb_nums hd (by rw [hrl]; exact hi)]; simp [revL]
  have hall : (dcD V L).all dg = true := (all_dg _).2 fun i hi => by
    rw [hsz] at hi
    rw [hby i hi]
    have := dgt_bd V (sizeL (dgt V) L - 1 - i)
    omega
  refine ⟨Or.inr ⟨?_, ?_⟩, ?_, by omega⟩
  · unfold isd
    rw [hall]
    have : dcD V L ≠ [] := fun e => by rw [e] at hsz; simp at hsz; omega
    simp [this]
  · rw [hby 0 hKp, Nat.sub_zero]
    intro e
    exact htop (by omega)
  · rw [(dV_lt hall).2, B_size, hsz]
    rw [numV_rev (K := sizeL (dgt V) L) (fun i hi => by rw [sb_by]; exact hby i hi) (Int.le_of_lt h0) hK _ (Nat.le_refl _)]
    simp
end Go.Proofs.YtmommdhnogogdaaDoor

namespace Go.Proofs.YtmommdhnogogdaaDoor
open Go.RowKit

set_option maxHeartbeats 400000 in
theorem trimRB_any (b n c : Nat) (f : Nat → Int) (w : World) (hn : n < 4294967296) (hnc : n ≤ c) (hc2 : c ≤ maxLen) (hf : ∀ i, 0 ≤ f i ∧ f i ≤ 9) (hc : ∀ i, i < n → w.cell? ⟨b, i, none⟩ = some (.int .u8 (48 + f i))) :
    Calls Tryd.prog 85 #[.slice (some ⟨b, 0, none⟩) n c, .int .u8 48] w fun e w' => e = .returned (.slice (some ⟨b, 0, none⟩) (sizeL f n) c) ∧ w = w' := by
  unfold maxLen at hc2
  go_enter Tryd.func85, Tryd.ntmps85
  go_wp2
  go_loop [0] (fun t => ∃ k : Nat, k ≤ n ∧ sizeL f k = sizeL f n ∧ t = .slice (some ⟨b, 0, none⟩) k c) (fun t => match t with | .slice _ k _ => k | _ => 0)
  case atStart => exact ⟨n, Nat.le_refl _, rfl, rfl⟩
  case round =>
    obtain ⟨k, hk, hs, rfl⟩ := hrel
    by_cases h0 : k = 0
    · subst h0
      have HS : Hid (sizeL f n = 0) := hs.symm
      clear hs hc
      go_wp2
      go_ret
      exact ⟨by rw [HS.out]; rfl, rfl⟩
    · obtain ⟨j, rfl⟩ : ∃ j, k = j + 1 := ⟨k - 1, by omega⟩
      have hcj := hc j (by omega)
      have hfj := hf j
      by_cases hzj : f j = 0
      · have HS : Hid (sizeL f j = sizeL f n) := by
          have : sizeL f (j + 1) = sizeL f j := by simp [sizeL, hzj]
          exact this.symm.trans hs
        clear hs hc hf
        rw [hzj] at hcj
        go_wp2
        go_round
        case rel => exact ⟨j, by omega, HS.out, rfl⟩
        case measure => simp
      · have HS : Hid (sizeL f n = j + 1) := by
          have : sizeL f (j + 1) = j + 1 := by simp [sizeL, hzj]
          exact hs.symm.trans this
        have hne : (48 + f j == 48) = false := by simp; omega
        clear hs hc hf
        go_wp2
        go_ret
        exact ⟨by rw [HS.out]; rfl, rfl⟩

set_option maxRecDepth 20000 in
set_option maxHeartbeats 400000 in
theorem trimRight_any (b n c : Nat) (f : Nat → Int) (w : World) (hn : n < 4294967296) (hnc : n ≤ c) (hc2 : c ≤ maxLen) (hf : ∀ i, 0 ≤ f i ∧ f i ≤ 9) (hc : ∀ i, i < n → w.cell? ⟨b, i, none⟩ = some (.int .u8 (48 + f i))) :
    Calls Tryd.prog 74 #[.slice (some ⟨b, 0, none⟩) n c, .string ⟨#[48]⟩] w fun e w' => e = .returned (.slice (some ⟨b, 0, none⟩) (sizeL f n) c) ∧ w = w' := by
  have hT := trimRB_any b n c f w hn hnc hc2 hf hc
  clear hf
  by_cases h0 : n = 0
  · subst h0
    clear hT hc
    go_enter Tryd.func74, Tryd.ntmps74
    go_wp2
    go_ret
    exact ⟨rfl, rfl⟩
  · have hn0 : ((n : Int) == 0) = false := by simp; omega
    clear hc
    generalize sizeL f n = s at *
    go_enter Tryd.func74, Tryd.ntmps74
    have h48 : ∀ h, ((⟨#[48]⟩ : ByteArray)[0]'h).toNat = 48 := fun _ => rfl
    go_wp2_with (go_at_call 85; refine hT.mono ?_; rintro e w' ⟨rfl, rfl⟩)
    go_ret
    exact ⟨rfl, rfl⟩
set_option maxHeartbeats 400000 in
theorem trimRight_nil (w : World) :
    Calls Tryd.prog 74 #[.slice none 0 0, .string ⟨#[48]⟩] w fun e w' => e = .returned (.slice none 0 0) ∧ w = w' := by
  go_enter Tryd.func74, Tryd.ntmps74
  go_wp2
  go_ret
  exact ⟨rfl, rfl⟩
end Go.Proofs.YtmommdhnogogdaaDoor

namespace Go.Proofs
open Go.Shelf
def Tryd.laysRev_ren : Go.Shelf.Ren := ⟨fun | 35 => 75 | n => n, fun | 22 => 100 | 23 => 5 | 3 => 3 | 4 => 4 | 0 => 0 | n => n, fun | n => n⟩
theorem Tryd.laysRev : Go.Proofs.SlLaysE.n35 Tryd.prog Tryd.laysRev_ren := {
  mixed := by kernel_rfl
  f35 := ⟨Tryd.f75.name, by decide, Tryd.func75.trans (congrArg some (by kernel_rfl))⟩
  t0 := Tryd.underlying0
  a0 := Tryd.isAgg0
  z0 := Tryd.sizeOf0
  v0 := Tryd.zeroValue0
  t3 := Tryd.underlying3
  a3 := Tryd.isAgg3
  z3 := Tryd.sizeOf3
  v3 := Tryd.zeroValue3
  t4 := Tryd.underlying4
  a4 := Tryd.isAgg4
  z4 := Tryd.sizeOf4
  v4 := Tryd.zeroValue4
  t22 := Tryd.underlying100
  a22 := Tryd.isAgg100
  z22 := Tryd.sizeOf100
  v22 := Tryd.zeroValue100
  a23 := Tryd.isAgg5
  z23 := Tryd.sizeOf5 }
end Go.Proofs
set_option maxRecDepth 20000
set_option linter.unusedSectionVars false
set_option linter.unusedSimpArgs false
namespace Go.Proofs.YtmommdhnogogdaaDoor
open Go.RowKit Go.Sort


theorem reverse_any (g n c : Nat) (f : Nat → Int) (w : World) (hn : n < 4294967296) (h : HasB g n f w) :
    Calls Tryd.prog 75 #[.slice (some ⟨g, 0, none⟩) n c] w fun e w' => e = .returned (.tuple #[]) ∧ HasB g n (fun i => f (n - 1 - i)) w' ∧ Upd g w w' := by
  obtain ⟨hg, hc⟩ := h
  have hl : ((List.range n).map f).length = n := by simp
  have hH : Holds (Value.int .u8) w g 0 ((List.range n).map f).toArray := by
    intro j hj
    have hj' : j < n := by simpa using hj
    have := hc j hj'
    rw [Nat.zero_add]
    refine ⟨?_, this.2⟩
    rw [this.1, getElem!_pos _ j hj]
    simp
  have hR := AnyE.slices_Reverse Tryd.laysRev (Value.int .u8) (fun _ => rfl) g 0 c ((List.range n).map f) w hH (by rw [hl]; omega)
  rw [hl] at hR
  refine Calls.mono hR ?_
  rintro e w' ⟨rfl, m, rfl⟩
  have hs : ((List.range n).map f).reverse.toArray.size = ((List.range n).map f).toArray.size := by simp
  refine ⟨rfl, ⟨by simpa using hg, fun i hi => ?_⟩, ?_⟩
  · have hh := holds_putRow (Value.int .u8) (Sort.ahead w m) g 0 _ ((List.range n).map f).reverse.toArray (holds_ahead _ _ _ _ _ _ hH) hs i (by simpa using hi)
    rw [Nat.zero_add] at hh
    refine ⟨?_, hh.2⟩
    rw [hh.1, getElem!_pos _ i (by simpa using hi)]
    simp
  · refine ⟨rfl, rfl, rfl, by simp, fun k hk => ?_⟩
    simp only [putRow, mapBlock, Array.getElem?_modify]
    rw [if_neg (fun e => hk e.symm)]
    rfl
end Go.Proofs.YtmommdhnogogdaaDoor

namespace Go.Proofs.YtmommdhnogogdaaDoor
open Go.RowKit

set_option maxHeartbeats 2000000 in
theorem ndigits_any (a : Option Addr) (n c : Nat) (x : Nat → Int) (w : World) (hn : n < 4294967296) (h : Num w a n c x) (hsz : sizeL x n ≤ 2000) :
    Calls Tryd.prog 59 #[.slice a n c] w fun e w' => ∃ L, val x n < 10 ^ L ∧ e = .returned (.tuple #[.string (strOfNums (decL (val x n) L)), .int .i64 0]) ∧ Below w.heap.size w w' := by
  have hb := bare_any a n c x w hn h
  have ht := ntrim_any a n c x w hn h
  obtain ⟨s, hs⟩ : ∃ s, sizeL x n = s := ⟨_, rfl⟩
  have hss := sizeL_sizeL x n
  have hx := h.2.2.1
  have hval : val x n = val x s := by rw [← hs]; exact val_more (sizeL_zero n h.2.2.2.1) n (sizeL_le x n)
  rw [hval]
  obtain ⟨V, hV⟩ : ∃ V, val x s = V := ⟨_, rfl⟩
  rw [hs] at hb ht hsz hss
  have hV0 : 0 ≤ V := by rw [← hV]; exact (val_bd hx s).1
  have hst0 : DigSt w V s x none 0 0 (w.alloc (.cells (arrOf x s) 26)) := ⟨Own.new w x s, World.ownsRow_nil _ _ _ _, below1 w _, by simp⟩
  rw [hV]
  have HVB : Hid (V < 18446744073709551616 ^ s) := by show _ < _; rw [← hV]; exact (val_bd hx s).2
  have HV : Hid (val x s = V) := hV
  have HSS : Hid (sizeL x s = s) := hss
  have HX : Hid (Words x) := hx
  clear h hval hs hV hss hx
  go_enter Tryd.func59, Tryd.ntmps59
  go_wp2_with (first | (go_at_call 38; refine hb.mono ?_; rintro e w' ⟨rfl, rfl⟩) | (go_at_call 61; refine ht.mono ?_; rintro e w' ⟨rfl, rfl⟩))
  generalize w.alloc (.cells (arrOf x s) 26) = wA at *
  go_loopw [4, 5, 6, 20] (fun dv lv u6 u20 wr => ∃ (L m cp : Nat) (ao : Option Addr) (z : Nat → Int), dv = .slice ao L cp ∧ lv = .slice (some ⟨w.heap.size, 0, none⟩) m s ∧ m ≤ s ∧ L ≤ 22 * s + 18 ∧ Words z ∧ sizeL z m = m ∧ val z m = V / 10 ^ L ∧ DigSt w V s z ao L cp wr) (fun dv _ _ _ _ => 26 * s + 19 - slLen dv)
  case atStart => exact ⟨0, s, 0, none, x, rfl, rfl, Nat.le_refl _, by omega, HX.out, HSS.out, by rw [HV.out]; simp, hst0⟩
  case round =>
    obtain ⟨L, m, cp, ao, z, rfl, rfl, hm, hLs, hz, hzm, hv, hst⟩ := hrel
    by_cases h0 : m = 0
    · subst h0
      have hVL : V < 10 ^ L := by
        have e : V / 10 ^ L = 0 := hv.symm
        have := Int.lt_mul_ediv_self_add (x := V) (k := 10 ^ L) (p10_pos L)
        rw [e] at this; simpa using this
      obtain ⟨hO, hown, hB, hsz2⟩ := hst
      have hown' := hown
      obtain ⟨hl, hcase⟩ := hown'
      rcases hcase with ⟨he, hL0⟩ | ⟨g, cap, cur, he, _⟩
      · cases he
        have hTn := trimRight_nil wr
        have HV2 : Hid (V < 10 ^ 0) := hVL
        have HB : Hid (Below w.heap.size w wr) := hB
        clear hVL hB hown hl hO hv hst0
        go_wp2_with (go_at_call 74; refine hTn.mono ?_; rintro e w' ⟨rfl, rfl⟩)
        go_ret2
        exact ⟨0, HV2.out, rfl, HB.out⟩
      · cases he
        obtain ⟨hbg, hLc, hcm, hHB⟩ := owns_cells hown
        have hTr := trimRight_any g L cp (dgt V) wr (by omega) hLc hcm (dgt_bd V) (fun i hi => (hHB.2 i hi).1)
        have hKL := sizeL_le (dgt V) L
        have hRv := reverse_any g (sizeL (dgt V) L) cp (fun i => 48 + dgt V i) wr (by omega) ⟨hHB.1, fun i hi => hHB.2 i (by omega)⟩
        have HD : Hid (decL V L = if sizeL (dgt V) L = 0 then [48] else (List.range (sizeL (dgt V) L)).map fun i => 48 + dgt V (sizeL (dgt V) L - 1 - i)) := rfl
        have HV2 : Hid (V < 10 ^ L) := hVL
        have HB : Hid (Below w.heap.size w wr) := hB
        have HG : Hid (w.heap.size ≤ g) := by show _ ≤ _; omega
        generalize sizeL (dgt V) L = K at *
        clear hVL hB hown hl hO hv hst0 hHB
        by_cases hK : K = 0
        · subst hK
          have HD0 : Hid (strOfNums (decL V L) = ⟨#[48]⟩) := by show _ = _; rw [HD.out]; rfl
          clear HD hRv
          go_wp2_with (go_at_call 74; refine hTr.mono ?_; rintro e w' ⟨rfl, rfl⟩)
          go_ret2
          exact ⟨L, HV2.out, by rw [HD0.out]; rfl, HB.out⟩
        · have hK0 : ((K : Int) == 0) = false := by simp; omega
          rw [if_neg hK] at HD
          go_wp2_with (first | (go_at_call 74; refine hTr.mono ?_; rintro e w' ⟨rfl, rfl⟩) | (go_at_call 75; refine hRv.mono ?_; rintro e w2 ⟨rfl, hB2, hU2⟩; have hcv := run_convert_bytes_arg (P := Tryd.prog) w2 100 5 Tryd.underlying100 Tryd.underlying5 g 0 K cp (decL V L) (by rw [HD.out]; simp) (fun i hi => by rw [HD.out, Nat.zero_add, (hB2.2 i hi).1]; simp [hi]) 9 Tryd.underlying9))
          go_ret2
          exact ⟨L, HV2.out, rfl, HB.out.trans (hU2.below HG.out)⟩
    · have hm0 : (0 : Int) < m := by omega
      have hd := divideBy_any w.heap.size s m s z 10000000000000000000 wr hm (by omega) hz (by omega) hst.1
      have hL : L < 22 * s := by
        have h1 := val_pos hz m (by omega) hzm
        rw [hv] at h1
        refine p10_lt (Int.lt_of_le_of_lt ?_ HVB.out)
        have h2 := p10_pos L
        rcases Int.lt_or_le V (10 ^ L) with h3 | h3
        · rw [Int.ediv_eq_zero_of_lt hV0 h3] at h1; omega
        · exact h3
      have HZM : Hid (sizeL z m = m) := hzm
      have hq := quo_val hz (show (0 : Int) < 10000000000000000000 by decide) m
      have hr : V / 10 ^ L % 10 ^ 19 = remJ z 10000000000000000000 m m := by rw [hq.2, hv]; rfl
      have hrb := remJ_bd z 10000000000000000000 m m (by decide)
      have HW : Hid (Words (divZ z 10000000000000000000 m 0)) := divZ_words hz (by decide) m 0
      have HQ : Hid (val (divZ z 10000000000000000000 m 0) m = V / 10 ^ (L + 19)) := by
        show _ = _
        rw [val_congr (y := quoW z 10000000000000000000 m) m fun i hi => by unfold divZ; rw [if_pos (by omega)], hq.1, hv, ← div_div10]; rfl
      have HR : Hid (∀ j, j < 19 → remJ z 10000000000000000000 m m / 10 ^ j % 10 = dgt V (L + j)) := fun j hj => dgt_step hr hj
      generalize remJ z 10000000000000000000 m m = r at *
      generalize hz' : divZ z 10000000000000000000 m 0 = z' at *
      have HST : Hid (DigSt w V s z ao L cp wr) := hst
      clear hst hzm hq hr hv hz' hst0 hz
      go_wp2_with (go_at_call 62; refine hd.mono ?_; rintro e w1 ⟨rfl, hO1, hU1⟩)
      have hst1 : DigSt w V s z' ao L cp w1 := ⟨hO1, owns_upd HST.out.2.1 hU1 (by omega), HST.out.2.2.1.trans (hU1.below (Nat.le_refl _)), by rw [hU1.size]; exact HST.out.2.2.2⟩
      clear hO1 hU1 hd
      go_loopw [4, 6, 20] (fun dv pv cv wr => ∃ (j cp : Nat) (ao : Option Addr), j ≤ 19 ∧ dv = .slice ao (L + j) cp ∧ pv = .int .u64 (r / 10 ^ j) ∧ cv = .int .i64 j ∧ DigSt w V s z' ao (L + j) cp wr) (fun _ _ cv _ => 19 - (intOf cv).toNat)
      case atStart => exact ⟨0, cp, ao, by omega, rfl, by simp, rfl, hst1⟩
      case round =>
        clear hst1 HST
        obtain ⟨j, cp2, ao2, hj, rfl, rfl, rfl, hst2⟩ := hrel
        by_cases hj19 : j < 19
        · have hji : (j : Int) < 19 := by omega
          have hp : 0 ≤ r / 10 ^ j ∧ r / 10 ^ j ≤ 18446744073709551615 := by
            have h1 := p10_pos j
            have h2 := Int.ediv_nonneg hrb.1 (Int.le_of_lt h1)
            have h3 : r / 10 ^ j ≤ r := Int.ediv_le_self _ hrb.1
            omega
          have HP : Hid (r / 10 ^ (j + 1) = r / 10 ^ j / 10) := by
            show _ = _
            rw [Int.pow_succ, ← Int.ediv_ediv_of_nonneg (Int.le_of_lt (p10_pos j))]
          have HVAL : Hid (r / 10 ^ j % 10 = dgt V (L + j)) := HR.out j hj19
          generalize r / 10 ^ j = p at *
          obtain ⟨i0, hi, hz0, hz1, hz2⟩ := info_parts Tryd.info5
          obtain ⟨hO, hown, hB, hsz2⟩ := hst2
          have HOwn : Hid (Own w.heap.size s z' wr) := hO
          have HO : Hid (wr.ownsRow (w.heap.size + 1) 5 1 (.slice ao2 (L + j) cp2) (L + j) (blB V (L + j))) := hown
          have HOWN : (wr.alloc (.cells #[.int .u8 (48 + p % 10)] 5)).ownsRow (w.heap.size + 1) 5 1 (.slice ao2 (L + j) cp2) (L + j) (blB V (L + j)) := hown.alloc _
          have HNEWS : ∀ (q : Nat) (u : Value), [Value.int .u8 (48 + p % 10)][q]? = some u → (wr.alloc (.cells #[.int .u8 (48 + p % 10)] 5)).cell? ((⟨wr.heap.size, 0, none⟩ : Addr).add q) = some u := by
            intro q u hq
            match q, hq with
            | 0, hq => simp at hq; subst hq; simp [Addr.add]
          have HONE : ∀ u ∈ [Value.int .u8 (48 + p % 10)], u.oneCell' = true := by
            intro u hu; simp at hu; subst hu; rfl
          clear hO hown
          go_wp2_with (first | (at_builtin; refine wpList_append_lies _ rfl (.tmp 22) (.tmp 27) 100 rfl (w.heap.size + 1) 5 i0 (.int .u8 0) 1 1 Tryd.underlying100 hi hz0 hz1 hz2 rfl (by decide) (.slice ao2 (L + j) cp2) (L + j) (blB V (L + j)) rfl HOWN ⟨wr.heap.size, 0, none⟩ 1 1 [Value.int .u8 (48 + p % 10)] rfl rfl HNEWS HONE (by omega) (by unfold maxLen; omega) (by omega) (by simp; omega) (wr.heap.size + 1) (by simp) ?_; intro g cap w1 hown1 hgrow hat hlt1; clear HOWN HNEWS HONE))
          have hrow : ∀ q, (Value.slice ao2 (L + j) cp2).ownBlock = some q → w.heap.size + 1 ≤ q := by
            intro q hq
            rcases ao2 with _ | ⟨bb, oo, sp⟩
            · cases hq
            · cases hq
              obtain ⟨_, h1⟩ := HO.out
              rcases h1 with ⟨h1, _⟩ | ⟨g', _, _, h1, h2, _⟩
              · cases h1
              · cases h1; exact h2
          have hown2 : w1.ownsRow (w.heap.size + 1) 5 1 (.slice (some ⟨g, 0, none⟩) (L + (j + 1)) cap) (L + (j + 1)) (blB V (L + (j + 1))) := by
            rw [HVAL.out, blB_succ] at hown1; exact hown1
          have HB1 : Below (w.heap.size + 1) wr w1 := ((Below.refl _ wr).alloc hsz2 _).grown hgrow (by simp; omega) hrow
          have HST2 : DigSt w V s z' (some ⟨g, 0, none⟩) (L + (j + 1)) cap w1 := ⟨Below.own HB1 (by omega) HOwn.out, hown2, hB.trans (HB1.mono (by omega)), Nat.le_trans hsz2 HB1.size⟩
          clear hown1 hgrow hown2 HB1 hB hrow
          go_wp2
          go_roundw
          case rel => exact ⟨j + 1, cap, some ⟨g, 0, none⟩, by omega, rfl, by rw [HP.out], by go_num, HST2⟩
          case measure => simp [intOf]; omega
        · obtain rfl : j = 19 := by omega
          obtain ⟨m', hm'⟩ : ∃ m', sizeL z' m = m' := ⟨_, rfl⟩
          have hmle := sizeL_le z' m
          have hbr := bare_any (some ⟨w.heap.size, 0, none⟩) m s (segW z' 0 m) wr (by omega) (hst2.1.num HW.out 0 m s (by omega) hm (by unfold maxLen; omega))
          have e1 : sizeL (segW z' 0 m) m = m' := by rw [← hm']; exact sizeL_congr m fun i hi => by rw [segW_lt z' 0 m i hi, Nat.zero_add]
          rw [e1] at hbr
          rw [hm'] at hmle
          have HM1 : Hid (sizeL z' m' = m') := by show _ = _; rw [← hm']; exact sizeL_sizeL z' m
          have HM2 : Hid (val z' m' = V / 10 ^ (L + 19)) := by show _ = _; rw [← hm', val_bare, HQ.out]
          have HST : Hid (DigSt w V s z' ao2 (L + 19) cp2 wr) := hst2
          clear hst2 e1 hm'
          go_wp2_with (go_at_call 38; refine hbr.mono ?_; rintro e w2 ⟨rfl, rfl⟩)
          go_roundw
          case rel => exact ⟨L + 19, m', cp2, ao2, z', rfl, rfl, by omega, by omega, HW.out, HM1.out, HM2.out, HST.out⟩
          case measure => simp [slLen]; omega
end Go.Proofs.YtmommdhnogogdaaDoor

namespace Go.Proofs.YtmommdhnogogdaaDoor
open Go.RowKit

/-- a number's decimal digits; of 0 none -/
def dcW (X : Nat) : List UInt8 := if X = 0 then [] else dcD X (bl X)
theorem dcW_facts (X : Nat) : gdD (dcW X) ∧ dV (dcW X) = X := by
  unfold dcW
  by_cases h0 : X = 0
  · rw [if_pos h0]
    exact ⟨Or.inl rfl, h0 ▸ rfl⟩
  · rw [if_neg h0]
    have hX : (0 : Int) < X := by omega
    have hL : (X : Int) < 10 ^ bl X := by
      have h1 := (bl_bd h0).2.1
      have h2 := Nat.pow_le_pow_left (show 2 ≤ 10 by decide) (bl X)
      have h3 : X < 10 ^ bl X := by omega
      exact_mod_cast h3
    obtain ⟨d1, d2, d3⟩ := dcD_facts hX hL
    exact ⟨d1, by omega⟩
theorem dcW_ne {X : Nat} (h : X ≠ 0) : dcW X ≠ [] := fun e => h (by rw [← (dcW_facts X).2, e]; rfl)
end Go.Proofs.YtmommdhnogogdaaDoor

namespace Go.Proofs.YtmommdhnogogdaaDoor
open Go.RowKit

section
variable {P : Program} {Q : Exit → Act → World → Prop}
/-- each of the first n writes a slot of its own, or none -/
def dstE (l : List Oper) (D : List Nat) (n m : Nat) : Bool :=
  (List.range n).all fun i => (match l[i]? with
    | some o => (o.dst == none || (o.dst == some (D.getD i 0) && decide (D.getD i 0 < m)))
    | none => false) && (List.range n).all fun j => j == i || D.getD j 0 != D.getD i 0
theorem dstE_spec {l : List Oper} {D : List Nat} {n m : Nat} (h : dstE l D n m = true) (i : Nat) (hi : i < n) (o : Oper) (ho : l[i]? = some o) :
    (o.dst = none ∨ (o.dst = some (D.getD i 0) ∧ D.getD i 0 < m)) ∧ ∀ j, j < n → j ≠ i → D.getD j 0 ≠ D.getD i 0 := by
  have h1 := List.all_eq_true.1 h i (List.mem_range.2 hi)
  simp only [ho, Bool.and_eq_true, decide_eq_true_eq, beq_iff_eq, List.all_eq_true, Bool.or_eq_true, bne_iff_ne, List.mem_range] at h1
  exact ⟨h1.1, fun j hj hne => (h1.2 j hj).resolve_left hne⟩
/-- which of the first n are run (G), by their guards, whose values (V) are known -/
def gdE (l : List Oper) (D : List Nat) (n : Nat) (G : List Bool) (V : List (Option Bool)) : Bool :=
  (List.range n).all fun i => match l[i]? with
    | none => false
    | some o => match o.guard with
      | none => G.getD i true
      | some (j, b) => decide (j < n) && ((l[j]?).bind Oper.dst == some (D.getD j 0)) && (o.after.toList.any fun e => e.on == j && Region.binds .any e) && (match V.getD j none with | some c => G.getD i true == (c == b) | none => false)
theorem gdE_none {l : List Oper} {D : List Nat} {n : Nat} {G : List Bool} {V : List (Option Bool)} (h : gdE l D n G V = true) (i : Nat) (hi : i < n) (o : Oper) (ho : l[i]? = some o) (hg : o.guard = none) : G.getD i true = true := by
  have h1 := List.all_eq_true.1 h i (List.mem_range.2 hi)
  simp only [ho, hg] at h1
  exact h1
theorem gdE_some {l : List Oper} {D : List Nat} {n : Nat} {G : List Bool} {V : List (Option Bool)} (h : gdE l D n G V = true) (i : Nat) (hi : i < n) (o : Oper) (ho : l[i]? = some o) (j : Nat) (b : Bool) (hg : o.guard = some (j, b)) :
    j < n ∧ (l[j]?).bind Oper.dst = some (D.getD j 0) ∧ (∃ e ∈ o.after, e.on = j ∧ Region.binds .any e = true) ∧ ∃ c, V.getD j none = some c ∧ G.getD i true = (c == b) := by
  have h1 := List.all_eq_true.1 h i (List.mem_range.2 hi)
  simp only [ho, hg, Bool.and_eq_true, decide_eq_true_eq, beq_iff_eq, List.any_eq_true] at h1
  obtain ⟨⟨⟨h1, h2⟩, e, he, h3, h4⟩, h5⟩ := h1
  refine ⟨h1, h2, ⟨e, by simpa using he, h3, h4⟩, ?_⟩
  cases hv : V.getD j none with
  | none => rw [hv] at h5; cases h5
  | some c => rw [hv] at h5; exact ⟨c, rfl, by simpa using h5⟩
theorem wp_region_memg (n m : Nat) (D : List Nat) (S : List (Value → World → Prop)) (T : World → World → Prop) (M : (Nat → Prop) → (Nat → Value) → World → Prop) (G : List Bool) (V : List (Option Bool)) {id : Nat} {l : List Oper} {a0 : Act} {w0 : World} (hm : P.follows .mixedOrders = true) (hI : invB .any l.toArray n = true) (hD : dstE l D n m = true) (hG : gdE l D n G V = true)
    (hsz : a0.tmps.size = m) (hV : ∀ j c, j < n → V.getD j none = some c → ∀ v w, (S.getD j fun _ _ => True) v w → v = .bool c) (hT : ∀ w, T w w) (hS : ∀ p ∈ S, ∀ v w w', p v w → T w w' → p v w') (hSk : ∀ i, i < n → G.getD i true = false → ∀ v w, (S.getD i fun _ _ => True) v w) (hM0 : M (fun _ => False) (slot a0) w0.drew)
    (hskip : ∀ (L : Nat → Prop) i o a w, i < n → l[i]? = some o → G.getD i true = false → ¬ L i → M L (slot a) w → M (fun j => L j ∨ j = i) (fun t => if o.dst = some t then undef else slot a t) w)
    (hstep : ∀ (L : Nat → Prop) i o a w, i < n → l[i]? = some o → G.getD i true = true → ¬ L i → (∀ j oj, l[j]? = some oj → L j → ∀ e ∈ oj.after, Region.binds .any e = true → L e.on) → (∀ e ∈ o.after, Region.binds .any e = true → L e.on) → M L (slot a) w →
      (∀ t, (∀ i, i < n → D.getD i 0 ≠ t) → slot a t = slot a0 t) → (∀ j, j < n → wrS l D j → L j → (S.getD j fun _ _ => True) (slot a (D.getD j 0)) w) →
      o.wp P a w (fun a' w' => ∃ v, a' = a.put o.dst v ∧ (S.getD i fun _ _ => True) v w' ∧ T w w' ∧ M (fun j => L j ∨ j = i) (fun t => if o.dst = some t then v else slot a t) w') Q)
    (hend : ∀ (L : Nat → Prop) a w, (∀ i, i < n → L i) → M L (slot a) w → a.tmps.size = m → a.defers = a0.defers → (∀ t, (∀ i, i < n → D.getD i 0 ≠ t) → slot a t = slot a0 t) → (∀ i, i < n → wrS l D i → (S.getD i fun _ _ => True) (slot a (D.getD i 0)) w) → wpList P l.toArray Q (l.drop n) a w) :
    (Code.region id l.toArray true).wp P Q a0 w0 := by
  have hSt : ∀ i v w w', (S.getD i fun _ _ => True) v w → T w w' → (S.getD i fun _ _ => True) v w' := by
    intro i
    rcases Nat.lt_or_ge i S.length with h | h
    · rw [List.getD_eq_getElem?_getD, List.getElem?_eq_getElem h]; exact hS _ (List.getElem_mem h)
    · rw [List.getD_eq_getElem?_getD, List.getElem?_eq_none h]; exact fun _ _ _ _ _ => trivial
  refine wp_region_inv3 n (fun L a w => M L (slot a) w ∧ a.tmps.size = m ∧ a.defers = a0.defers ∧ (∀ t, (∀ i, i < n → D.getD i 0 ≠ t) → slot a t = slot a0 t) ∧ ∀ j, j < n → wrS l D j → L j → (S.getD j fun _ _ => True) (slot a (D.getD j 0)) w) hm hI
    ⟨hM0, hsz, rfl, fun _ _ => rfl, fun _ _ _ h => h.elim⟩ ?_ (fun L a w hL hB => hend L a w hL hB.1 hB.2.1 hB.2.2.1 hB.2.2.2.1 fun i hi hw => hB.2.2.2.2 i hi hw (hL i hi))
  intro L i o a w hi ho hL hcl he hB
  obtain ⟨hd, hne⟩ := dstE_spec hD i hi o ho
  have put_ok : ∀ v w', (S.getD i fun _ _ => True) v w' → T w w' → M (fun j => L j ∨ j = i) (fun t => if o.dst = some t then v else slot a t) w' →
      M (fun j => L j ∨ j = i) (slot (a.put o.dst v)) w' ∧ (a.put o.dst v).tmps.size = m ∧ (a.put o.dst v).defers = a0.defers ∧ (∀ t, (∀ i, i < n → D.getD i 0 ≠ t) → slot (a.put o.dst v) t = slot a0 t) ∧ ∀ j, j < n → wrS l D j → (L j ∨ j = i) → (S.getD j fun _ _ => True) (slot (a.put o.dst v) (D.getD j 0)) w' := by
    intro v w' hv hT hM
    rcases hd with hd | ⟨hd, hlt⟩
    · have ea : a.put o.dst v = a := by rw [hd]; rfl
      have em : (fun t => if o.dst = some t then v else slot a t) = slot a := by funext t; rw [hd]; simp
      rw [ea]
      rw [em] at hM
      refine ⟨hM, hB.2.1, hB.2.2.1, hB.2.2.2.1, fun j hj hwj hLj => ?_⟩
      rcases hLj with hLj | rfl
      · exact hSt j _ _ _ (hB.2.2.2.2 j hj hwj hLj) hT
      · unfold wrS at hwj; rw [ho] at hwj; simp [hd] at hwj
    · have em : (fun t => if o.dst = some t then v else slot a t) = slot (a.put o.dst v) := by
        funext t
        rw [hd]
        by_cases h : D.getD i 0 = t
        · subst h
          rw [if_pos rfl, slot_put (by rw [hB.2.1]; exact hlt)]
        · rw [if_neg (fun e => h (Option.some.inj e)), slot_put_ne h]
      rw [em] at hM
      refine ⟨hM, by rw [hd]; simp [Act.put, hB.2.1], by rw [hd]; exact hB.2.2.1, fun t ht => ?_, fun j hj hwj hLj => ?_⟩
      · rw [hd, slot_put_ne (ht i hi)]; exact hB.2.2.2.1 t ht
      · by_cases hji : j = i
        · subst hji
          rw [hd, slot_put (by rw [hB.2.1]; exact hlt)]; exact hv
        · rw [hd, slot_put_ne (fun h => hne j hj hji h.symm)]
          exact hSt j _ _ _ (hB.2.2.2.2 j hj hwj (hLj.resolve_right hji)) hT
  unfold wpOp
  have ho' : l.toArray[i]? = some o := by simpa using ho
  simp only [ho']
  have hwant : Region.wanted o (yielded l.toArray a.tmps) = G.getD i true := by
    cases hg : o.guard with
    | none =>
      rw [gdE_none hG i hi o ho hg]
      unfold Region.wanted
      rw [hg]
    | some q =>
      obtain ⟨j, b⟩ := q
      obtain ⟨hj, hdj, ⟨e, hea, hej, hbd⟩, c, hc, hGi⟩ := gdE_some hG i hi o ho j b hg
      have hLj : L j := hej ▸ he e hea hbd
      have hs0 := hV j c hj hc _ _ (hB.2.2.2.2 j hj hdj hLj)
      cases hoj : l[j]? with
      | none => rw [hoj] at hdj; cases hdj
      | some oj =>
        rw [hoj] at hdj
        have hdj' : oj.dst = some (D.getD j 0) := hdj
        have hoj' : l.toArray[j]? = some oj := by simpa using hoj
        have hltj : D.getD j 0 < m := by
          rcases (dstE_spec hD j hj oj hoj).1 with h | ⟨_, h⟩
          · rw [hdj'] at h; cases h
          · exact h
        have hs : D.getD j 0 < a.tmps.size := by rw [hB.2.1]; exact hltj
        have ht : a.tmps[D.getD j 0]? = some (.bool c) := by
          have h5 : a.tmps[D.getD j 0]? = some a.tmps[D.getD j 0] := Array.getElem?_eq_getElem hs
          have h6 : slot a (D.getD j 0) = a.tmps[D.getD j 0] := by unfold slot; rw [h5]; rfl
          rw [h5, ← h6, hs0]
        have hy : yielded l.toArray a.tmps j = some c := by
          unfold yielded
          simp only [hoj', Option.bind_some, hdj', ht]
        rw [hGi]
        unfold Region.wanted
        rw [hg]
        simp [hy]
  rw [hwant]
  cases hGi : G.getD i true with
  | false =>
    rw [if_neg (by decide)]
    exact put_ok undef w (hSk i hi hGi _ _) (hT w) (hskip L i o a w hi ho hGi hL hB.1)
  | true =>
    rw [if_pos rfl]
    refine Or.inl (Oper.wp_mono ?_ (hstep L i o a w hi ho hGi hL hcl he hB.1 hB.2.2.2.1 hB.2.2.2.2))
    rintro a' w' ⟨v, rfl, hv, hT', hM⟩
    exact put_ok v w' hv hT' hM
end
end Go.Proofs.YtmommdhnogogdaaDoor

namespace Go.Proofs.YtmommdhnogogdaaDoor
open Go.RowKit

/-- a region's operations, by its number -/
def findR (n : Nat) : Code → Option (List Oper)
  | .region i o _ => if i = n then some o.toList else none
  | .seq a b => match findR n a with | some l => some l | none => findR n b
  | .cond _ a b => match findR n a with | some l => some l | none => findR n b
  | .block _ c => findR n c
  | .loop c => findR n c
  | _ => none
abbrev iW (v : Value) : Value → World → Prop := fun x _ => x = v
section
variable {P : Program} {a : Act} {w : World} {K : Act → World → Prop} {Q : Exit → Act → World → Prop} {d p q : Nat} {ty : TypeId} {pos : String} {after : Array Edge} {gd : Option (Nat × Bool)}
theorem og_mv {v : Value} (h1 : slot a p = v) (hK : K (a.put (some d) v) w) : Oper.wp P { dst := some d, op := Op.move (Operand.tmp p), type := ty, pos := pos, after := after, guard := gd } a w K Q := by
  unfold slot at h1
  simp [go_sem, h1]
  exact hK
theorem og_as {v : Value} (h1 : slot a p = v) (hK : K (a.put (some d) v) w) : Oper.wp P { dst := some d, op := Op.assign (Operand.tmp p), type := ty, pos := pos, after := after, guard := gd } a w K Q := by
  unfold slot at h1
  simp [go_sem, h1]
  exact hK
theorem og_ld3 {g i : Nat} {v : Value} (h1 : slot a p = .pointer (some ⟨g, i, none⟩)) (h2 : w.cell? ⟨g, i, none⟩ = some v) (hK : K (a.put (some d) v) w) : Oper.wp Tryd.prog { dst := some d, op := Op.load 3 (Operand.tmp p), type := ty, pos := pos, after := after, guard := gd } a w K Q := by
  unfold slot at h1
  simp [go_sem, h1, h2]
  exact hK
theorem og_fad3 {g : Nat} (h1 : slot a p = .pointer (some ⟨g, 0, none⟩)) (hK : K (a.put (some d) (.pointer (some ⟨g, 3, none⟩))) w) : Oper.wp Tryd.prog { dst := some d, op := Op.fieldAddr 30 (Operand.tmp p) 3, type := ty, pos := pos, after := after, guard := gd } a w K Q := by
  unfold slot at h1
  simp [go_sem, h1]
  exact hK
theorem og_ldB {g i X : Nat} (h1 : slot a p = .pointer (some ⟨g, i, none⟩)) (c0 : w.cell? ⟨g, i, none⟩ = some (.int .u64 (W4 X 0))) (c1 : w.cell? ⟨g, i + 1, none⟩ = some (.int .u64 (W4 X 1))) (c2 : w.cell? ⟨g, i + 2, none⟩ = some (.int .u64 (W4 X 2))) (c3 : w.cell? ⟨g, i + 3, none⟩ = some (.int .u64 (W4 X 3))) (hK : K (a.put (some d) (A4 X)) w) : Oper.wp Tryd.prog { dst := some d, op := Op.load 28 (Operand.tmp p), type := ty, pos := pos, after := after, guard := gd } a w K Q := by
  unfold slot at h1
  simp [go_sem, h1, c0, c1, c2, c3]
  exact hK
theorem og_fad4 {g : Nat} (h1 : slot a p = .pointer (some ⟨g, 0, none⟩)) (hK : K (a.put (some d) (.pointer (some ⟨g, 4, none⟩))) w) : Oper.wp Tryd.prog { dst := some d, op := Op.fieldAddr 30 (Operand.tmp p) 4, type := ty, pos := pos, after := after, guard := gd } a w K Q := by
  unfold slot at h1
  simp [go_sem, h1]
  exact hK
end
end Go.Proofs.YtmommdhnogogdaaDoor

namespace Go.Proofs.YtmommdhnogogdaaDoor
open Go.RowKit

theorem ten_28 {m q : Nat} (hm : m ≤ 93 * q) : 2 ^ m ≤ 10 ^ (28 * q) := by
  have a1 : 2 ^ m ≤ 2 ^ (93 * q) := Nat.pow_le_pow_right (by decide) hm
  have a2 : (2 : Nat) ^ (93 * q) ≤ 10 ^ (28 * q) := by
    rw [Nat.pow_mul, Nat.pow_mul 10]
    exact Nat.pow_le_pow_left (by decide) _
  exact Nat.le_trans a1 a2
/-- as many digits as it has -/
theorem dcW_bd {X : Nat} (h0 : X ≠ 0) : 1 ≤ (dcW X).length ∧ 10 ^ ((dcW X).length - 1) ≤ X ∧ X < 10 ^ (dcW X).length := by
  obtain ⟨d1, d2⟩ := dcW_facts X
  have hne := dcW_ne h0
  have hlt := (dV_lt (gdD_all d1)).1
  rcases d1 with h | ⟨h, hh⟩
  · exact absurd h hne
  have hge := dV_ge (isd_all h) hh hne
  rw [d2] at hlt hge
  refine ⟨?_, hge, hlt⟩
  rcases Nat.eq_zero_or_pos (dcW X).length with h | h
  · exact absurd (List.eq_nil_of_length_eq_zero h) hne
  · exact h
theorem dcW_most {X : Nat} (h0 : X ≠ 0) (hb : bl X ≤ 39785) : (dcW X).length ≤ 11984 := by
  obtain ⟨h1, h2, h3⟩ := dcW_bd h0
  have h4 : X < 2 ^ bl X := bl_le.1 (Nat.le_refl _)
  obtain ⟨q, hq⟩ : ∃ q : Nat, q = 428 := ⟨_, rfl⟩
  have h5 := ten_28 (m := bl X) (q := q) (by omega)
  have h6 : 10 ^ ((dcW X).length - 1) < 10 ^ (28 * q) := Nat.lt_of_le_of_lt h2 (Nat.lt_of_lt_of_le h4 h5)
  have := (Nat.pow_lt_pow_iff_right (by decide : 1 < 10)).1 h6
  omega
end Go.Proofs.YtmommdhnogogdaaDoor

namespace Go.Proofs.YtmommdhnogogdaaDoor
open Go.RowKit

/-- nat.Digits, of any number that is not too long -/
theorem ndig_nW {K X : Nat} {v : Value} {w : World} (hK : K < 100000) (hX : bl X ≤ 128000) (h0 : X ≠ 0) (h : Nt K X v w) : Calls Tryd.prog 59 #[v] w fun r w' => r = .returned (.tuple #[.string (B (dcW X)), .int .i64 0]) ∧ Below w.heap.size w w' := by
  obtain ⟨a, n, c, z, rfl, hn, hN, hv⟩ := h
  have hs : sizeL z n ≤ 2000 := (size_bl hN.2.2.1 hv).2 hX
  unfold dcW
  rw [if_neg h0]
  have hX0 : (0 : Int) < X := by omega
  have hL : (X : Int) < 10 ^ bl X := by
    have h1 := (bl_bd h0).2.1
    have h2 := Nat.pow_le_pow_left (show 2 ≤ 10 by decide) (bl X)
    have h3 : X < 10 ^ bl X := by omega
    exact_mod_cast h3
  refine (ndigits_any a n c z w (by omega) hN hs).mono fun r w' ⟨L, hL', he, hB⟩ => ⟨?_, hB⟩
  rw [hv] at hL' he
  rw [he, decL_more (Int.le_of_lt hX0) hL' hL, ← decL_rev hX0 hL]
  show _ = Ending.returned (.tuple #[.string (B (dcD X (bl X))), .int .i64 0])
  unfold dcD
  rw [B_of]
end Go.Proofs.YtmommdhnogogdaaDoor
