/-
  Texts that the proof leans on, joined: Xn, Sp9, Ss9, St9, Byt, Rev, Dgn, Sw9, Sx9, Wr9.
-/
import Derived.Test.YtplocajjfoiklaaGreatDoorJ33
import Derived.Test.YtplocajjfoiklaaGreatDoorJ35
import Derived.Test.YtplocajjfoiklaaGreatDoorJ32
import Derived.Test.YtplocajjfoiklaaGreatDoorJ30
import Derived.Shelf.SlicesE.Reverse
import Derived.Test.YtplocajjfoiklaaGreatDoorJ13
import Derived.Test.YtplocajjfoiklaaGreatDoorJ1
set_option linter.unusedVariables false
set_option linter.unusedSectionVars false
set_option linter.unusedSimpArgs false
set_option maxRecDepth 20000
namespace Go.Proofs.YtplocajjfoiklaaGreatDoor
open Go.RowKit

theorem decL_rev {V : Int} {L : Nat} (h0 : 0 < V) (h : V < 10 ^ L) : revL V (sizeL (dgt V) L) = decL V L := by
  unfold decL revL
  rw [if_neg]
  intro e
  have := lt_sizeL (Int.le_of_lt h0) L h
  rw [e] at this; simp at this; omega
theorem sb_nums {l : List Int} (hl : ∀ v ∈ l, 48 ≤ v ∧ v ≤ 57) {i : Nat} (hi : i < l.length) : sb (strOfNums l) i = l[i] := by
  unfold sb
  rw [dif_pos (by rw [strOfNums_size]; exact hi)]
  have h := hl l[i] (List.getElem_mem hi)
  have e : (strOfNums l)[i]'(by rw [strOfNums_size]; exact hi) = UInt8.ofNat l[i].toNat := by
    show (strOfNums l).data[i]'_ = _
    simp [strOfNums]
  rw [e]
  simp
  omega
theorem numV_rev {V : Int} {K : Nat} {u : ByteArray} (hu : ∀ i, i < K → sb u i = 48 + dgt V (K - 1 - i)) (h0 : 0 ≤ V) (hV : V < 10 ^ K) : ∀ j, j ≤ K → numV u j = V / 10 ^ (K - j)
  | 0, _ => by rw [Nat.sub_zero, Int.ediv_eq_zero_of_lt h0 hV]; rfl
  | j + 1, h => by
    have ih := numV_rev hu h0 hV j (by omega)
    simp only [numV]
    rw [ih, hu j (by omega)]
    have e1 : K - j = (K - (j + 1)) + 1 := by omega
    have e2 : K - 1 - j = K - (j + 1) := by omega
    rw [e1, e2]
    unfold dgt
    rw [← div_div10]
    generalize V / 10 ^ (K - (j + 1)) = W
    omega
/-- the digits of a number -/
def dcD (V : Int) (L : Nat) : List UInt8 := (strOfNums (revL V (sizeL (dgt V) L))).data.toList
theorem dcD_facts {V : Int} {L : Nat} (h0 : 0 < V) (h : V < 10 ^ L) : gdD (dcD V L) ∧ (dV (dcD V L) : Int) = V ∧ (dcD V L).length ≤ L := by
  have hK := lt_sizeL (Int.le_of_lt h0) L h
  have hKp : 0 < sizeL (dgt V) L := by
    rcases Nat.eq_zero_or_pos (sizeL (dgt V) L) with e | e
    · rw [e] at hK; simp at hK; omega
    · exact e
  have hKL := sizeL_le (dgt V) L
  have htop := sizeL_top L hKp
  have hB : B (dcD V L) = strOfNums (revL V (sizeL (dgt V) L)) := B_of _
  have hd : ∀ v ∈ revL V (sizeL (dgt V) L), 48 ≤ v ∧ v ≤ 57 := by
    intro v hv
    simp [revL] at hv
    obtain ⟨i, _, rfl⟩ := hv
    have := dgt_bd V (sizeL (dgt V) L - 1 - i)
    omega
  have hrl : (revL V (sizeL (dgt V) L)).length = sizeL (dgt V) L := by simp [revL]
  have hsz : (dcD V L).length = sizeL (dgt V) L := by
    rw [← B_size, hB, strOfNums_size, hrl]
  have hby : ∀ i, i < sizeL (dgt V) L → by_ (dcD V L) i = 48 + dgt V (sizeL (dgt V) L - 1 - i) := fun i hi => by
    rw [← sb_by, hB, sb_nums hd (by rw [hrl]; exact hi)]; simp [revL]
  have hall : (dcD V L).all dg = true := (all_dg _).2 fun i hi => by
    rw [hsz] at hi
    rw [hby i hi]
    have := dgt_bd V (sizeL (dgt V) L - 1 - i)
    omega
  refine ⟨Or.inr ⟨?_, ?_⟩, ?_, by omega⟩
  · unfold isd
    rw [hall]
    have : dcD V L ≠ [] := fun e => by rw [e] at hsz; simp at hsz; omega
    simp [this]
  · rw [hby 0 hKp, Nat.sub_zero]
    intro e
    exact htop (by omega)
  · rw [(dV_lt hall).2, B_size, hsz]
    rw [numV_rev (K := sizeL (dgt V) L) (fun i hi => by rw [sb_by]; exact hby i hi) (Int.le_of_lt h0) hK _ (Nat.le_refl _)]
    simp
set_option maxHeartbeats 1000000 in
theorem rdec_zero (a : Option Addr) (n c : Nat) (x : Nat → Int) (w : World) (hn : n < 100000) (h : Num w a n c x) (hz : sizeL x n = 0) :
    Calls Tryz.prog 63 #[.slice a n c] w fun e w' => e = .returned (.string ⟨#[]⟩) ∧ Below w.heap.size w w' := by
  have ht := trim_any a n c x w (by omega) h
  rw [hz] at ht
  clear h
  go_enter Tryz.func63, Tryz.ntmps63
  go_wp2_with (go_at_call 67; refine ht.mono ?_; rintro e wA ⟨g0, cap0, rfl, hN0, hB0⟩; clear ht hN0)
  go_loopw [0, 3] (fun t0 t3 wr => t0 = .slice (some ⟨g0, 0, none⟩) 0 cap0 ∧ t3 = .slice none 0 0 ∧ Below w.heap.size w wr) (fun _ _ _ => 0)
  case atStart => exact ⟨rfl, rfl, hB0⟩
  case round =>
    obtain ⟨rfl, rfl, hB1⟩ := hrel
    go_wp2
    go_loopw [7] (fun t7 wr => t7 = .int .i64 0 ∧ Below w.heap.size w wr) (fun _ _ => 0)
    case atStart => exact ⟨rfl, hB1⟩
    case round =>
      obtain ⟨rfl, hB2⟩ := hrel
      go_wp2
      go_loopw [8, 50] (fun t8 t50 wr => t8 = .slice none 0 0 ∧ t50 = .int .i64 0 ∧ Below w.heap.size w wr) (fun _ _ _ => 0)
      case atStart => exact ⟨rfl, rfl, hB2⟩
      case round =>
        obtain ⟨rfl, rfl, hB3⟩ := hrel
        have hcv : (convert 81 9 (.slice none 0 0)).run Tryz.prog wr = .ok (.string ⟨#[]⟩) wr := by
          rw [run_convert_bytes_string wr 81 9 5 none 0 0 Tryz.underlying81 Tryz.underlying5 Tryz.underlying9]
          rfl
        go_wp2
        go_ret
        exact ⟨rfl, hB3⟩
theorem p660 {x : Nat → Int} {n : Nat} (hx : Words x) (hn : n ≤ 30) : val x n < 10 ^ 660 := by
  have h := val_bd hx n
  have h2 := p22 n
  have h3 : (10 : Int) ^ (22 * n) ≤ 10 ^ 660 := by
    obtain ⟨k, hk⟩ : ∃ k, 660 = 22 * n + k := ⟨660 - 22 * n, by omega⟩
    rw [hk, Int.pow_add]
    have h4 := p10_pos k
    have h5 := p10_pos (22 * n)
    have : (10 : Int) ^ (22 * n) * 1 ≤ 10 ^ (22 * n) * 10 ^ k := Int.mul_le_mul_of_nonneg_left (by omega) (by omega)
    omega
  omega
/-- the document's Decimal -/
theorem rdec8 {a : Option Addr} {n c : Nat} {x : Nat → Int} {w : World} (hn : n ≤ 30) (h : Num w a n c x) :
    ∃ D : List UInt8, gdD D ∧ (dV D : Int) = val x n ∧ D.length ≤ 660 ∧ ∀ W, Below w.heap.size w W → Calls Tryz.prog 63 #[.slice a n c] W fun e w' => e = .returned (.string (B D)) ∧ Below W.heap.size W w' := by
  have hx := h.2.2.1
  rcases Nat.eq_zero_or_pos (sizeL x n) with hz | hz
  · refine ⟨[], Or.inl rfl, ?_, by decide, fun W hW => rdec_zero a n c x W (by omega) (h.next hW) hz⟩
    have := val_bare (x := x) n
    rw [hz] at this
    rw [← this]; rfl
  · have hv0 : 0 < val x n := by
      rw [← val_bare n]
      exact val_pos hx _ hz (sizeL_sizeL x n)
    have h660 := p660 hx hn
    obtain ⟨d1, d2, d3⟩ := dcD_facts hv0 h660
    refine ⟨dcD (val x n) 660, d1, d2, d3, fun W hW => ?_⟩
    have hle := sizeL_le x n
    refine (rdec_any a n c x W (by omega) (h.next hW) (by omega) hz).mono fun e w' ⟨L, hL, he, hB⟩ => ⟨?_, hB⟩
    rw [he, decL_rev hv0 hL, decL_more (Int.le_of_lt hv0) hL h660, ← decL_rev hv0 h660]
    show _ = Ending.returned (.string (B (dcD (val x n) 660)))
    unfold dcD
    rw [B_of]
end Go.Proofs.YtplocajjfoiklaaGreatDoor

namespace Go.Proofs.YtplocajjfoiklaaGreatDoor
open Go.RowKit

theorem NT.head {K V : Nat} {v : Value} {w : World} (h : NT K V v w) (hV : V ≠ 0) : ∃ g k cap z0, v = .slice (some ⟨g, 0, none⟩) k cap ∧ 0 < k ∧ k ≤ K ∧ g < w.heap.size ∧ w.cell? ⟨g, 0, none⟩ = some (.int .u64 z0) ∧ 0 ≤ z0 ∧ z0 ≤ 18446744073709551615 ∧ z0 % 2 = ((V % 2 : Nat) : Int) := by
  have hz := h.zero
  obtain ⟨g, k, cap, z, rfl, hk, ⟨n1, n2, n3, n4, n5⟩, hv, hs⟩ := h
  obtain ⟨g', k', cap', e, _, hz'⟩ := hz
  cases e
  have hk0 : k ≠ 0 := fun e => hV (hz'.1 e)
  rcases n5 with ⟨n5, _⟩ | ⟨b, off, e, hb, hc⟩
  · cases n5
  · cases e
    have hc0 := hc 0 (by omega)
    have hw := n3 0
    have hp := val_odd (by omega : 0 < k) hv
    exact ⟨g, k, cap, z 0, rfl, by omega, hk, hb, hc0, hw.1, hw.2, by omega⟩
attribute [local irreducible] W4 Nz Nt NT NV
end Go.Proofs.YtplocajjfoiklaaGreatDoor

namespace Go.Proofs.YtplocajjfoiklaaGreatDoor
open Go.RowKit

theorem dV_snoc {l : List UInt8} {c : UInt8} (hl : l.all dg = true) (hc : dg c = true) : dV (l ++ [c]) = 10 * dV l + (c.toNat - 48) := by
  have hall : (l ++ [c]).all dg = true := by rw [List.all_append, hl]; simp [hc]
  have h1 := (dV_lt hall).2
  have h2 := (dV_lt hl).2
  have hcd : 48 ≤ c.toNat ∧ c.toNat ≤ 57 := of_decide_eq_true hc
  have hA := numV_app (s := B (l ++ [c])) (u := B [c]) l.length 1 (fun i hi => by
    rw [sb_by, sb_by, by_app_at])
  have hC := numV_app (s := B (l ++ [c])) (u := B l) 0 l.length (fun i hi => by
    rw [sb_by, sb_by, Nat.zero_add]
    unfold by_
    have hi2 : i < (l ++ [c]).length := by rw [List.length_append]; omega
    rw [dif_pos hi, dif_pos hi2, List.getElem_append_left hi])
  have e0 : numV (B (l ++ [c])) 0 = 0 := rfl
  have e1 : numV (B [c]) 1 = (c.toNat : Int) - 48 := by
    have : numV (B [c]) 1 = numV (B [c]) 0 * 10 + (sb (B [c]) 0 - 48) := rfl
    rw [this, sb_by, by_zero]
    have : numV (B [c]) 0 = 0 := rfl
    omega
  rw [Nat.zero_add, e0, Int.zero_mul, Int.zero_add] at hC
  rw [B_size] at h1 h2
  rw [show (l ++ [c]).length = l.length + 1 by simp, hA, hC, e1, ← h2] at h1
  omega
theorem dg_uniq : ∀ (n : Nat) (l l' : List UInt8), l.length = n → l'.length = n → l.all dg = true → l'.all dg = true → dV l = dV l' → l = l'
  | 0, l, l', h, h', _, _, _ => by rw [List.length_eq_zero_iff.1 h, List.length_eq_zero_iff.1 h']
  | n + 1, l, l', h, h', hd, hd', hv => by
    rcases List.eq_nil_or_concat l with rfl | ⟨m, c, rfl⟩
    · cases h
    · rcases List.eq_nil_or_concat l' with rfl | ⟨m', c', rfl⟩
      · cases h'
      · rw [List.concat_eq_append] at *
        rw [List.concat_eq_append] at *
        rw [List.all_append] at hd hd'
        simp at hd hd'
        have hm : m.all dg = true := List.all_eq_true.2 hd.1
        have hm' : m'.all dg = true := List.all_eq_true.2 hd'.1
        rw [dV_snoc hm hd.2, dV_snoc hm' hd'.2] at hv
        have c1 : 48 ≤ c.toNat ∧ c.toNat ≤ 57 := of_decide_eq_true hd.2
        have c2 : 48 ≤ c'.toNat ∧ c'.toNat ≤ 57 := of_decide_eq_true hd'.2
        have e1 : dV m = dV m' := by omega
        have e2 : c = c' := UInt8.toNat_inj.1 (by omega)
        rw [dg_uniq n m m' (by simp at h; exact h) (by simp at h'; exact h') hm hm' e1, e2]
theorem gd_uniq {l l' : List UInt8} (h : gdD l) (h' : gdD l') (hv : dV l = dV l') : l = l' := by
  rcases h with rfl | ⟨h1, h2⟩
  · rcases h' with rfl | ⟨h1', h2'⟩
    · rfl
    · unfold isd at h1'
      simp at h1'
      have := dV_ge (List.all_eq_true.2 h1'.1) h2' h1'.2
      rw [← hv, dV_nil] at this
      have := Nat.pow_pos (n := l'.length - 1) (by decide : 0 < 10)
      omega
  · rcases h' with rfl | ⟨h1', h2'⟩
    · unfold isd at h1
      simp at h1
      have := dV_ge (List.all_eq_true.2 h1.1) h2 h1.2
      rw [hv, dV_nil] at this
      have := Nat.pow_pos (n := l.length - 1) (by decide : 0 < 10)
      omega
    · unfold isd at h1 h1'
      simp at h1 h1'
      have a1 := List.all_eq_true.2 h1.1
      have a2 := List.all_eq_true.2 h1'.1
      have g1 := dV_ge a1 h2 h1.2
      have g2 := dV_ge a2 h2' h1'.2
      have l1 := (dV_lt a1).1
      have l2 := (dV_lt a2).1
      have p1 : 0 < l.length := List.length_pos_iff.2 h1.2
      have p2 : 0 < l'.length := List.length_pos_iff.2 h1'.2
      have hlen : l.length = l'.length := by
        rcases Nat.lt_trichotomy l.length l'.length with h | h | h
        · have := Nat.pow_le_pow_right (n := 10) (by decide) (show l.length ≤ l'.length - 1 by omega)
          omega
        · exact h
        · have := Nat.pow_le_pow_right (n := 10) (by decide) (show l'.length ≤ l.length - 1 by omega)
          omega
      exact dg_uniq _ l l' hlen rfl a1 a2 hv
end Go.Proofs.YtplocajjfoiklaaGreatDoor

namespace Go.Proofs.YtplocajjfoiklaaGreatDoor
open Go.RowKit

theorem un_isD {n : Int} {B : Nat} (h : goodN n B) : isD (fN n) (leastN n) (mostN n) (unD n B) := by
  have hF := bin_fm h.1
  obtain ⟨S, E, F, hS, hE, hFr, hB⟩ := fields_in h.2
  have hu : unD n B = mean (fN n) (eN n) (leastN n) S E F := by
    unfold unD; rw [if_pos h, hB, unp_mean _ hS hE hFr]
  rw [hu]
  exact (mean_isD hF hS hE hFr).1
/-- a number that has digits -/
def finP (n : Int) (V : Nat) : Prop := goodN n V ∧ (unD n V).c = 1 ∧ (unD n V).k ≠ 0
theorem fin_facts {n : Int} {V : Nat} (h : finP n V) : binN n ∧ (unD n V).k < 2 ^ 256 ∧ -16990 ≤ (unD n V).x ∧ (unD n V).x ≤ 16990 ∧ isD (fN n) (leastN n) (mostN n) (unD n V) := by
  obtain ⟨h1, h2, h3⟩ := h
  have hb := h1.1
  have hd := un_isD h1
  have hf := (bin_fm hb).f240
  rcases hd with ⟨e1, e2, e3, e4, e5, e6⟩ | ⟨e1, _⟩ | ⟨e1, _⟩
  · have hx := bin_x hb e4 e5
    refine ⟨hb, Nat.lt_of_lt_of_le e3 (Nat.pow_le_pow_right (by decide) (by omega)), hx.1, hx.2, Or.inl ⟨e1, e2, e3, e4, e5, e6⟩⟩
  · omega
  · omega
end Go.Proofs.YtplocajjfoiklaaGreatDoor

namespace Go.Proofs.YtplocajjfoiklaaGreatDoor
open Go.RowKit

set_option maxHeartbeats 400000 in
theorem trimRB_any (b n c : Nat) (f : Nat → Int) (w : World) (hn : n < 4294967296) (hnc : n ≤ c) (hc2 : c ≤ maxLen) (hf : ∀ i, 0 ≤ f i ∧ f i ≤ 9) (hc : ∀ i, i < n → w.cell? ⟨b, i, none⟩ = some (.int .u8 (48 + f i))) :
    Calls Tryz.prog 226 #[.slice (some ⟨b, 0, none⟩) n c, .int .u8 48] w fun e w' => e = .returned (.slice (some ⟨b, 0, none⟩) (sizeL f n) c) ∧ w = w' := by
  unfold maxLen at hc2
  go_enter Tryz.func226, Tryz.ntmps226
  go_wp2
  go_loop [0] (fun t => ∃ k : Nat, k ≤ n ∧ sizeL f k = sizeL f n ∧ t = .slice (some ⟨b, 0, none⟩) k c) (fun t => match t with | .slice _ k _ => k | _ => 0)
  case atStart => exact ⟨n, Nat.le_refl _, rfl, rfl⟩
  case round =>
    obtain ⟨k, hk, hs, rfl⟩ := hrel
    by_cases h0 : k = 0
    · subst h0
      have HS : Hid (sizeL f n = 0) := hs.symm
      clear hs hc
      go_wp2
      go_ret
      exact ⟨by rw [HS.out]; rfl, rfl⟩
    · obtain ⟨j, rfl⟩ : ∃ j, k = j + 1 := ⟨k - 1, by omega⟩
      have hcj := hc j (by omega)
      have hfj := hf j
      by_cases hzj : f j = 0
      · have HS : Hid (sizeL f j = sizeL f n) := by
          have : sizeL f (j + 1) = sizeL f j := by simp [sizeL, hzj]
          exact this.symm.trans hs
        clear hs hc hf
        rw [hzj] at hcj
        go_wp2
        go_round
        case rel => exact ⟨j, by omega, HS.out, rfl⟩
        case measure => simp
      · have HS : Hid (sizeL f n = j + 1) := by
          have : sizeL f (j + 1) = j + 1 := by simp [sizeL, hzj]
          exact hs.symm.trans this
        have hne : (48 + f j == 48) = false := by simp; omega
        clear hs hc hf
        go_wp2
        go_ret
        exact ⟨by rw [HS.out]; rfl, rfl⟩

set_option maxRecDepth 20000 in
set_option maxHeartbeats 400000 in
theorem trimRight_any (b n c : Nat) (f : Nat → Int) (w : World) (hn : n < 4294967296) (hnc : n ≤ c) (hc2 : c ≤ maxLen) (hf : ∀ i, 0 ≤ f i ∧ f i ≤ 9) (hc : ∀ i, i < n → w.cell? ⟨b, i, none⟩ = some (.int .u8 (48 + f i))) :
    Calls Tryz.prog 194 #[.slice (some ⟨b, 0, none⟩) n c, .string ⟨#[48]⟩] w fun e w' => e = .returned (.slice (some ⟨b, 0, none⟩) (sizeL f n) c) ∧ w = w' := by
  have hT := trimRB_any b n c f w hn hnc hc2 hf hc
  clear hf
  by_cases h0 : n = 0
  · subst h0
    clear hT hc
    go_enter Tryz.func194, Tryz.ntmps194
    go_wp2
    go_ret
    exact ⟨rfl, rfl⟩
  · have hn0 : ((n : Int) == 0) = false := by simp; omega
    clear hc
    generalize sizeL f n = s at *
    go_enter Tryz.func194, Tryz.ntmps194
    have h48 : ∀ h, ((⟨#[48]⟩ : ByteArray)[0]'h).toNat = 48 := fun _ => rfl
    go_wp2_with (go_at_call 226; refine hT.mono ?_; rintro e w' ⟨rfl, rfl⟩)
    go_ret
    exact ⟨rfl, rfl⟩
set_option maxHeartbeats 400000 in
theorem trimRight_nil (w : World) :
    Calls Tryz.prog 194 #[.slice none 0 0, .string ⟨#[48]⟩] w fun e w' => e = .returned (.slice none 0 0) ∧ w = w' := by
  go_enter Tryz.func194, Tryz.ntmps194
  go_wp2
  go_ret
  exact ⟨rfl, rfl⟩
end Go.Proofs.YtplocajjfoiklaaGreatDoor

namespace Go.Proofs
open Go.Shelf
def Tryz.laysRev_ren : Go.Shelf.Ren := ⟨fun | 35 => 195 | n => n, fun | 22 => 81 | 23 => 5 | 3 => 3 | 4 => 4 | 0 => 0 | n => n, fun | n => n⟩
theorem Tryz.laysRev : Go.Proofs.SlLaysE.n35 Tryz.prog Tryz.laysRev_ren := {
  mixed := by kernel_rfl
  f35 := ⟨Tryz.f195.name, by decide, Tryz.func195.trans (congrArg some (by kernel_rfl))⟩
  t0 := Tryz.underlying0
  a0 := Tryz.isAgg0
  z0 := Tryz.sizeOf0
  v0 := Tryz.zeroValue0
  t3 := Tryz.underlying3
  a3 := Tryz.isAgg3
  z3 := Tryz.sizeOf3
  v3 := Tryz.zeroValue3
  t4 := Tryz.underlying4
  a4 := Tryz.isAgg4
  z4 := Tryz.sizeOf4
  v4 := Tryz.zeroValue4
  t22 := Tryz.underlying81
  a22 := Tryz.isAgg81
  z22 := Tryz.sizeOf81
  v22 := Tryz.zeroValue81
  a23 := Tryz.isAgg5
  z23 := Tryz.sizeOf5 }
end Go.Proofs
set_option maxRecDepth 20000
set_option linter.unusedSectionVars false
set_option linter.unusedSimpArgs false
namespace Go.Proofs.YtplocajjfoiklaaGreatDoor
open Go.RowKit Go.Sort


theorem reverse_any (g n c : Nat) (f : Nat → Int) (w : World) (hn : n < 4294967296) (h : HasB g n f w) :
    Calls Tryz.prog 195 #[.slice (some ⟨g, 0, none⟩) n c] w fun e w' => e = .returned (.tuple #[]) ∧ HasB g n (fun i => f (n - 1 - i)) w' ∧ Upd g w w' := by
  obtain ⟨hg, hc⟩ := h
  have hl : ((List.range n).map f).length = n := by simp
  have hH : Holds (Value.int .u8) w g 0 ((List.range n).map f).toArray := by
    intro j hj
    have hj' : j < n := by simpa using hj
    have := hc j hj'
    rw [Nat.zero_add]
    refine ⟨?_, this.2⟩
    rw [this.1, getElem!_pos _ j hj]
    simp
  have hR := AnyE.slices_Reverse Tryz.laysRev (Value.int .u8) (fun _ => rfl) g 0 c ((List.range n).map f) w hH (by rw [hl]; omega)
  rw [hl] at hR
  refine Calls.mono hR ?_
  rintro e w' ⟨rfl, m, rfl⟩
  have hs : ((List.range n).map f).reverse.toArray.size = ((List.range n).map f).toArray.size := by simp
  refine ⟨rfl, ⟨by simpa using hg, fun i hi => ?_⟩, ?_⟩
  · have hh := holds_putRow (Value.int .u8) (Sort.ahead w m) g 0 _ ((List.range n).map f).reverse.toArray (holds_ahead _ _ _ _ _ _ hH) hs i (by simpa using hi)
    rw [Nat.zero_add] at hh
    refine ⟨?_, hh.2⟩
    rw [hh.1, getElem!_pos _ i (by simpa using hi)]
    simp
  · refine ⟨rfl, rfl, rfl, by simp, fun k hk => ?_⟩
    simp only [putRow, mapBlock, Array.getElem?_modify]
    rw [if_neg (fun e => hk e.symm)]
    rfl
end Go.Proofs.YtplocajjfoiklaaGreatDoor

namespace Go.Proofs.YtplocajjfoiklaaGreatDoor
open Go.RowKit

set_option maxHeartbeats 2000000 in
theorem ndigits_any (a : Option Addr) (n c : Nat) (x : Nat → Int) (w : World) (hn : n < 4294967296) (h : Num w a n c x) (hsz : sizeL x n ≤ 2000) :
    Calls Tryz.prog 158 #[.slice a n c] w fun e w' => ∃ L, val x n < 10 ^ L ∧ e = .returned (.tuple #[.string (strOfNums (decL (val x n) L)), .int .i64 0]) ∧ Below w.heap.size w w' := by
  have hb := bare_any a n c x w hn h
  have ht := ntrim_any a n c x w hn h
  obtain ⟨s, hs⟩ : ∃ s, sizeL x n = s := ⟨_, rfl⟩
  have hss := sizeL_sizeL x n
  have hx := h.2.2.1
  have hval : val x n = val x s := by rw [← hs]; exact val_more (sizeL_zero n h.2.2.2.1) n (sizeL_le x n)
  rw [hval]
  obtain ⟨V, hV⟩ : ∃ V, val x s = V := ⟨_, rfl⟩
  rw [hs] at hb ht hsz hss
  have hV0 : 0 ≤ V := by rw [← hV]; exact (val_bd hx s).1
  have hst0 : DigSt w V s x none 0 0 (w.alloc (.cells (arrOf x s) 22)) := ⟨Own.new w x s, World.ownsRow_nil _ _ _ _, below1 w _, by simp⟩
  rw [hV]
  have HVB : Hid (V < 18446744073709551616 ^ s) := by show _ < _; rw [← hV]; exact (val_bd hx s).2
  have HV : Hid (val x s = V) := hV
  have HSS : Hid (sizeL x s = s) := hss
  have HX : Hid (Words x) := hx
  clear h hval hs hV hss hx
  go_enter Tryz.func158, Tryz.ntmps158
  go_wp2_with (first | (go_at_call 129; refine hb.mono ?_; rintro e w' ⟨rfl, rfl⟩) | (go_at_call 135; refine ht.mono ?_; rintro e w' ⟨rfl, rfl⟩))
  generalize w.alloc (.cells (arrOf x s) 22) = wA at *
  go_loopw [4, 5, 6, 20] (fun dv lv u6 u20 wr => ∃ (L m cp : Nat) (ao : Option Addr) (z : Nat → Int), dv = .slice ao L cp ∧ lv = .slice (some ⟨w.heap.size, 0, none⟩) m s ∧ m ≤ s ∧ L ≤ 22 * s + 18 ∧ Words z ∧ sizeL z m = m ∧ val z m = V / 10 ^ L ∧ DigSt w V s z ao L cp wr) (fun dv _ _ _ _ => 22 * s + 19 - slLen dv)
  case atStart => exact ⟨0, s, 0, none, x, rfl, rfl, Nat.le_refl _, by omega, HX.out, HSS.out, by rw [HV.out]; simp, hst0⟩
  case round =>
    obtain ⟨L, m, cp, ao, z, rfl, rfl, hm, hLs, hz, hzm, hv, hst⟩ := hrel
    by_cases h0 : m = 0
    · subst h0
      have hVL : V < 10 ^ L := by
        have e : V / 10 ^ L = 0 := hv.symm
        have := Int.lt_mul_ediv_self_add (x := V) (k := 10 ^ L) (p10_pos L)
        rw [e] at this; simpa using this
      obtain ⟨hO, hown, hB, hsz2⟩ := hst
      have hown' := hown
      obtain ⟨hl, hcase⟩ := hown'
      rcases hcase with ⟨he, hL0⟩ | ⟨g, cap, cur, he, _⟩
      · cases he
        have hTn := trimRight_nil wr
        have HV2 : Hid (V < 10 ^ 0) := hVL
        have HB : Hid (Below w.heap.size w wr) := hB
        clear hVL hB hown hl hO hv hst0
        go_wp2_with (go_at_call 194; refine hTn.mono ?_; rintro e w' ⟨rfl, rfl⟩)
        go_ret2
        exact ⟨0, HV2.out, rfl, HB.out⟩
      · cases he
        obtain ⟨hbg, hLc, hcm, hHB⟩ := owns_cells hown
        have hTr := trimRight_any g L cp (dgt V) wr (by omega) hLc hcm (dgt_bd V) (fun i hi => (hHB.2 i hi).1)
        have hKL := sizeL_le (dgt V) L
        have hRv := reverse_any g (sizeL (dgt V) L) cp (fun i => 48 + dgt V i) wr (by omega) ⟨hHB.1, fun i hi => hHB.2 i (by omega)⟩
        have HD : Hid (decL V L = if sizeL (dgt V) L = 0 then [48] else (List.range (sizeL (dgt V) L)).map fun i => 48 + dgt V (sizeL (dgt V) L - 1 - i)) := rfl
        have HV2 : Hid (V < 10 ^ L) := hVL
        have HB : Hid (Below w.heap.size w wr) := hB
        have HG : Hid (w.heap.size ≤ g) := by show _ ≤ _; omega
        generalize sizeL (dgt V) L = K at *
        clear hVL hB hown hl hO hv hst0 hHB
        by_cases hK : K = 0
        · subst hK
          have HD0 : Hid (strOfNums (decL V L) = ⟨#[48]⟩) := by show _ = _; rw [HD.out]; rfl
          clear HD hRv
          go_wp2_with (go_at_call 194; refine hTr.mono ?_; rintro e w' ⟨rfl, rfl⟩)
          go_ret2
          exact ⟨L, HV2.out, by rw [HD0.out]; rfl, HB.out⟩
        · have hK0 : ((K : Int) == 0) = false := by simp; omega
          rw [if_neg hK] at HD
          go_wp2_with (first | (go_at_call 194; refine hTr.mono ?_; rintro e w' ⟨rfl, rfl⟩) | (go_at_call 195; refine hRv.mono ?_; rintro e w2 ⟨rfl, hB2, hU2⟩; have hcv := run_convert_bytes_arg (P := Tryz.prog) w2 81 5 Tryz.underlying81 Tryz.underlying5 g 0 K cp (decL V L) (by rw [HD.out]; simp) (fun i hi => by rw [HD.out, Nat.zero_add, (hB2.2 i hi).1]; simp [hi]) 9 Tryz.underlying9))
          go_ret2
          exact ⟨L, HV2.out, rfl, HB.out.trans (hU2.below HG.out)⟩
    · have hm0 : (0 : Int) < m := by omega
      have hd := divideBy_any w.heap.size s m s z 10000000000000000000 wr hm (by omega) hz (by omega) hst.1
      have hL : L < 22 * s := by
        have h1 := val_pos hz m (by omega) hzm
        rw [hv] at h1
        refine p10_lt (Int.lt_of_le_of_lt ?_ HVB.out)
        have h2 := p10_pos L
        rcases Int.lt_or_le V (10 ^ L) with h3 | h3
        · rw [Int.ediv_eq_zero_of_lt hV0 h3] at h1; omega
        · exact h3
      have HZM : Hid (sizeL z m = m) := hzm
      have hq := quo_val hz (show (0 : Int) < 10000000000000000000 by decide) m
      have hr : V / 10 ^ L % 10 ^ 19 = remJ z 10000000000000000000 m m := by rw [hq.2, hv]; rfl
      have hrb := remJ_bd z 10000000000000000000 m m (by decide)
      have HW : Hid (Words (divZ z 10000000000000000000 m 0)) := divZ_words hz (by decide) m 0
      have HQ : Hid (val (divZ z 10000000000000000000 m 0) m = V / 10 ^ (L + 19)) := by
        show _ = _
        rw [val_congr (y := quoW z 10000000000000000000 m) m fun i hi => by unfold divZ; rw [if_pos (by omega)], hq.1, hv, ← div_div10]; rfl
      have HR : Hid (∀ j, j < 19 → remJ z 10000000000000000000 m m / 10 ^ j % 10 = dgt V (L + j)) := fun j hj => dgt_step hr hj
      generalize remJ z 10000000000000000000 m m = r at *
      generalize hz' : divZ z 10000000000000000000 m 0 = z' at *
      have HST : Hid (DigSt w V s z ao L cp wr) := hst
      clear hst hzm hq hr hv hz' hst0 hz
      go_wp2_with (go_at_call 182; refine hd.mono ?_; rintro e w1 ⟨rfl, hO1, hU1⟩)
      have hst1 : DigSt w V s z' ao L cp w1 := ⟨hO1, owns_upd HST.out.2.1 hU1 (by omega), HST.out.2.2.1.trans (hU1.below (Nat.le_refl _)), by rw [hU1.size]; exact HST.out.2.2.2⟩
      clear hO1 hU1 hd
      go_loopw [4, 6, 20] (fun dv pv cv wr => ∃ (j cp : Nat) (ao : Option Addr), j ≤ 19 ∧ dv = .slice ao (L + j) cp ∧ pv = .int .u64 (r / 10 ^ j) ∧ cv = .int .i64 j ∧ DigSt w V s z' ao (L + j) cp wr) (fun _ _ cv _ => 19 - (intOf cv).toNat)
      case atStart => exact ⟨0, cp, ao, by omega, rfl, by simp, rfl, hst1⟩
      case round =>
        clear hst1 HST
        obtain ⟨j, cp2, ao2, hj, rfl, rfl, rfl, hst2⟩ := hrel
        by_cases hj19 : j < 19
        · have hji : (j : Int) < 19 := by omega
          have hp : 0 ≤ r / 10 ^ j ∧ r / 10 ^ j ≤ 18446744073709551615 := by
            have h1 := p10_pos j
            have h2 := Int.ediv_nonneg hrb.1 (Int.le_of_lt h1)
            have h3 : r / 10 ^ j ≤ r := Int.ediv_le_self _ hrb.1
            omega
          have HP : Hid (r / 10 ^ (j + 1) = r / 10 ^ j / 10) := by
            show _ = _
            rw [Int.pow_succ, ← Int.ediv_ediv_of_nonneg (Int.le_of_lt (p10_pos j))]
          have HVAL : Hid (r / 10 ^ j % 10 = dgt V (L + j)) := HR.out j hj19
          generalize r / 10 ^ j = p at *
          obtain ⟨i0, hi, hz0, hz1, hz2⟩ := info_parts Tryz.info5
          obtain ⟨hO, hown, hB, hsz2⟩ := hst2
          have HOwn : Hid (Own w.heap.size s z' wr) := hO
          have HO : Hid (wr.ownsRow (w.heap.size + 1) 5 1 (.slice ao2 (L + j) cp2) (L + j) (blB V (L + j))) := hown
          have HOWN : (wr.alloc (.cells #[.int .u8 (48 + p % 10)] 5)).ownsRow (w.heap.size + 1) 5 1 (.slice ao2 (L + j) cp2) (L + j) (blB V (L + j)) := hown.alloc _
          have HNEWS : ∀ (q : Nat) (u : Value), [Value.int .u8 (48 + p % 10)][q]? = some u → (wr.alloc (.cells #[.int .u8 (48 + p % 10)] 5)).cell? ((⟨wr.heap.size, 0, none⟩ : Addr).add q) = some u := by
            intro q u hq
            match q, hq with
            | 0, hq => simp at hq; subst hq; simp [Addr.add]
          have HONE : ∀ u ∈ [Value.int .u8 (48 + p % 10)], u.oneCell' = true := by
            intro u hu; simp at hu; subst hu; rfl
          clear hO hown
          go_wp2_with (first | (at_builtin; refine wpList_append_lies _ rfl (.tmp 22) (.tmp 27) 81 rfl (w.heap.size + 1) 5 i0 (.int .u8 0) 1 1 Tryz.underlying81 hi hz0 hz1 hz2 rfl (by decide) (.slice ao2 (L + j) cp2) (L + j) (blB V (L + j)) rfl HOWN ⟨wr.heap.size, 0, none⟩ 1 1 [Value.int .u8 (48 + p % 10)] rfl rfl HNEWS HONE (by omega) (by unfold maxLen; omega) (by omega) (by simp; omega) (wr.heap.size + 1) (by simp) ?_; intro g cap w1 hown1 hgrow hat hlt1; clear HOWN HNEWS HONE))
          have hrow : ∀ q, (Value.slice ao2 (L + j) cp2).ownBlock = some q → w.heap.size + 1 ≤ q := by
            intro q hq
            rcases ao2 with _ | ⟨bb, oo, sp⟩
            · cases hq
            · cases hq
              obtain ⟨_, h1⟩ := HO.out
              rcases h1 with ⟨h1, _⟩ | ⟨g', _, _, h1, h2, _⟩
              · cases h1
              · cases h1; exact h2
          have hown2 : w1.ownsRow (w.heap.size + 1) 5 1 (.slice (some ⟨g, 0, none⟩) (L + (j + 1)) cap) (L + (j + 1)) (blB V (L + (j + 1))) := by
            rw [HVAL.out, blB_succ] at hown1; exact hown1
          have HB1 : Below (w.heap.size + 1) wr w1 := ((Below.refl _ wr).alloc hsz2 _).grown hgrow (by simp; omega) hrow
          have HST2 : DigSt w V s z' (some ⟨g, 0, none⟩) (L + (j + 1)) cap w1 := ⟨Below.own HB1 (by omega) HOwn.out, hown2, hB.trans (HB1.mono (by omega)), Nat.le_trans hsz2 HB1.size⟩
          clear hown1 hgrow hown2 HB1 hB hrow
          go_wp2
          go_roundw
          case rel => exact ⟨j + 1, cap, some ⟨g, 0, none⟩, by omega, rfl, by rw [HP.out], by go_num, HST2⟩
          case measure => simp [intOf]; omega
        · obtain rfl : j = 19 := by omega
          obtain ⟨m', hm'⟩ : ∃ m', sizeL z' m = m' := ⟨_, rfl⟩
          have hmle := sizeL_le z' m
          have hbr := bare_any (some ⟨w.heap.size, 0, none⟩) m s (segW z' 0 m) wr (by omega) (hst2.1.num HW.out 0 m s (by omega) hm (by unfold maxLen; omega))
          have e1 : sizeL (segW z' 0 m) m = m' := by rw [← hm']; exact sizeL_congr m fun i hi => by rw [segW_lt z' 0 m i hi, Nat.zero_add]
          rw [e1] at hbr
          rw [hm'] at hmle
          have HM1 : Hid (sizeL z' m' = m') := by show _ = _; rw [← hm']; exact sizeL_sizeL z' m
          have HM2 : Hid (val z' m' = V / 10 ^ (L + 19)) := by show _ = _; rw [← hm', val_bare, HQ.out]
          have HST : Hid (DigSt w V s z' ao2 (L + 19) cp2 wr) := hst2
          clear hst2 e1 hm'
          go_wp2_with (go_at_call 129; refine hbr.mono ?_; rintro e w2 ⟨rfl, rfl⟩)
          go_roundw
          case rel => exact ⟨L + 19, m', cp2, ao2, z', rfl, rfl, by omega, by omega, HW.out, HM1.out, HM2.out, HST.out⟩
          case measure => simp [slLen]; omega
end Go.Proofs.YtplocajjfoiklaaGreatDoor

namespace Go.Proofs.YtplocajjfoiklaaGreatDoor
open Go.RowKit

def sgL (s : Bool) : List UInt8 := if s then [45] else []
attribute [local irreducible] W4
end Go.Proofs.YtplocajjfoiklaaGreatDoor

namespace Go.Proofs.YtplocajjfoiklaaGreatDoor
open Go.RowKit

/-- a payload's digits -/
def dcL (k : Nat) : List UInt8 := if k = 0 then [] else dcD (k : Int) 660
theorem k660 {k : Nat} (hk : k < 2 ^ 256) : (k : Int) < 10 ^ 660 := by
  have h : (2 : Nat) ^ 256 ≤ 10 ^ 100 := by decide
  have h2 : (10 : Int) ^ 100 ≤ 10 ^ 660 := by decide +kernel
  have h3 : ((10 ^ 100 : Nat) : Int) = (10 : Int) ^ 100 := by decide
  omega
theorem dcL_facts {k : Nat} (hk : k < 2 ^ 256) : gdD (dcL k) ∧ dV (dcL k) = k ∧ (dcL k).length ≤ 660 := by
  unfold dcL
  by_cases h : k = 0
  · rw [if_pos h]; exact ⟨Or.inl rfl, by rw [h, dV_nil], by decide⟩
  · rw [if_neg h]
    obtain ⟨h1, h2, h3⟩ := dcD_facts (V := (k : Int)) (L := 660) (by omega) (k660 hk)
    exact ⟨h1, by omega, h3⟩
theorem dec_v {K k : Nat} {v : Value} {w : World} (hK : K ≤ 30) (hk : k < 2 ^ 256) (h : Nt K k v w) : Calls Tryz.prog 63 #[v] w fun r w' => r = .returned (.string (B (dcL k))) ∧ Below w.heap.size w w' := by
  obtain ⟨a, n, c, z, rfl, hn, hN, hz⟩ := h
  obtain ⟨D, d1, d2, d3, d4⟩ := rdec8 (by omega) hN
  obtain ⟨f1, f2, _⟩ := dcL_facts hk
  have : D = dcL k := gd_uniq d1 f1 (by omega)
  subst this
  exact d4 w (Below.refl _ _)
theorem ndig_v {K k : Nat} {v : Value} {w : World} (hK : K ≤ 1000) (hk : k < 2 ^ 256) (hk0 : k ≠ 0) (h : Nt K k v w) : Calls Tryz.prog 158 #[v] w fun r w' => r = .returned (.tuple #[.string (B (dcL k)), .int .i64 0]) ∧ Below w.heap.size w w' := by
  obtain ⟨a, n, c, z, rfl, hn, hN, hz⟩ := h
  have hle := sizeL_le z n
  refine (ndigits_any a n c z w (by omega) hN (by omega)).mono fun r w' ⟨L, hL, he, hB⟩ => ⟨?_, hB⟩
  rw [he, hz] at *
  have h0 : (0 : Int) < k := by omega
  have h660 := k660 hk
  rw [decL_more (Int.le_of_lt h0) hL h660, ← decL_rev h0 h660]
  unfold dcL
  rw [if_neg hk0]
  unfold dcD
  rw [B_of]
attribute [local irreducible] W4 Nt
section
variable (c : Int) (s : Bool) (x : Int) (k : Nat) (w : World)
set_option maxHeartbeats 2000000 in
theorem nan_z (g : Bool) (c23 : ∀ W, Calls Tryz.prog 117 #[DV c s g x k] W fun r w' => r = .returned (.bool true) ∧ Below W.heap.size W w') :
    Calls Tryz.prog 116 #[DV c s g x k] w fun r w' => r = .returned (.string (B (nanT g []))) ∧ Below w.heap.size w w' := by
  have hsm := cell_set_map
  cases g
  · have e : B (nanT false []) = ⟨#[110, 97, 110]⟩ := rfl
    rw [e]
    unfold DV at *
    go_enter Tryz.func116, Tryz.ntmps116
    go_wp2_with (go_at_call 117; refine (c23 _).mono ?_; rintro r w1 ⟨rfl, hb1⟩; obtain ⟨hc1, hf1⟩ := bcell hb1; have hz1_0 : w.heap.size < w1.heap.size := lt_below hb1 ltg; have hl1_0 := Nat.le_of_lt hz1_0; have hA1 := bnext (w0 := w) bgo hb1; have hs1 := hA1.size; clear hb1)
    go_ret
    exact ⟨rfl, bgo⟩
  · have e : B (nanT true []) = ⟨#[115, 110, 97, 110]⟩ := rfl
    rw [e]
    unfold DV at *
    go_enter Tryz.func116, Tryz.ntmps116
    go_wp2_with (go_at_call 117; refine (c23 _).mono ?_; rintro r w1 ⟨rfl, hb1⟩; obtain ⟨hc1, hf1⟩ := bcell hb1; have hz1_0 : w.heap.size < w1.heap.size := lt_below hb1 ltg; have hl1_0 := Nat.le_of_lt hz1_0; have hA1 := bnext (w0 := w) bgo hb1; have hs1 := hA1.size; clear hb1)
    go_ret
    exact ⟨rfl, bgo⟩
variable (P : List UInt8) (hk : k < 2 ^ 256) (hP : P ≠ []) (hPl : P.length ≤ 660)
  (c103 : ∀ W, Nt 4 k (.slice (some ⟨w.heap.size, 4, none⟩) 4 4) W → Calls Tryz.prog 158 #[.slice (some ⟨w.heap.size, 4, none⟩) 4 4] W fun r w' => r = .returned (.tuple #[.string (B P), .int .i64 0]) ∧ Below W.heap.size W w')
include hk hP hPl c103
set_option maxHeartbeats 4000000 in
theorem nan_f (c23 : ∀ W, Calls Tryz.prog 117 #[DV c s false x k] W fun r w' => r = .returned (.bool false) ∧ Below W.heap.size W w') :
    Calls Tryz.prog 116 #[DV c s false x k] w fun r w' => r = .returned (.string (B (nanT false P))) ∧ Below w.heap.size w w' := by
  have hsm := cell_set_map
  have htl := B_toList
  have HU : Hid (nanT false P = ([110, 97, 110] ++ [40] ++ P) ++ [41]) := by show _ = _; unfold nanT; rw [if_neg hP]; simp
  generalize nanT false P = TT at HU ⊢
  have p0 : (⟨#[110, 97, 110]⟩ : ByteArray) ++ (⟨#[40]⟩ : ByteArray) = B ([110, 97, 110] ++ [40]) := B_app [110, 97, 110] [40]
  have z0 : (B ([110, 97, 110] ++ [40])).size = 4 := rfl
  generalize ([110, 97, 110] ++ [40] : List UInt8) = L0 at *
  obtain ⟨m, hm⟩ : ∃ m, P.length = m := ⟨_, rfl⟩
  have y0 : (B P).size = m := by rw [B_size, hm]
  have hm2 : m ≤ 660 := by omega
  have p1 : B L0 ++ B P = B (L0 ++ P) := B_app _ _
  have z1 : (B (L0 ++ P)).size = m + 4 := by rw [B_size] at z0 y0 ⊢; rw [List.length_append, z0, y0]; omega
  generalize hL1 : L0 ++ P = L1 at *
  have p2 : B L1 ++ (⟨#[41]⟩ : ByteArray) = B (L1 ++ [41]) := B_app _ [41]
  generalize hL2 : L1 ++ [41] = L2 at *
  clear hL1 hL2 hP hPl hm
  unfold DV at *
  go_enter Tryz.func116, Tryz.ntmps116
  go_wp2_with (first
    | (go_at_call 117; refine (c23 _).mono ?_; rintro r w1 ⟨rfl, hb1⟩; obtain ⟨hc1, hf1⟩ := bcell hb1; have hz1_0 : w.heap.size < w1.heap.size := lt_below hb1 ltg; have hl1_0 := Nat.le_of_lt hz1_0; have hA1 := bnext (w0 := w) bgo hb1; have hs1 := hA1.size; clear hb1)
    | (go_at_call 158; refine (c103 _ (nt_at hk (by assumption) (by go_simp) (by go_simp) (by go_simp) (by go_simp))).mono ?_; rintro r w2 ⟨rfl, hb2⟩; obtain ⟨hc2, hf2⟩ := bcell hb2; have hz2_0 : w.heap.size < w2.heap.size := lt_below hb2 ltg; have hl2_0 := Nat.le_of_lt hz2_0; have hA2 := bnext (w0 := w) bgo hb2; have hs2 := hA2.size; clear hb2))
  go_ret
  exact ⟨by rw [HU.out]; rfl, bgo⟩
set_option maxHeartbeats 4000000 in
theorem nan_t (c23 : ∀ W, Calls Tryz.prog 117 #[DV c s true x k] W fun r w' => r = .returned (.bool false) ∧ Below W.heap.size W w') :
    Calls Tryz.prog 116 #[DV c s true x k] w fun r w' => r = .returned (.string (B (nanT true P))) ∧ Below w.heap.size w w' := by
  have hsm := cell_set_map
  have htl := B_toList
  have HU : Hid (nanT true P = ([115, 110, 97, 110] ++ [40] ++ P) ++ [41]) := by show _ = _; unfold nanT; rw [if_neg hP]; simp
  generalize nanT true P = TT at HU ⊢
  have p0 : (⟨#[115, 110, 97, 110]⟩ : ByteArray) ++ (⟨#[40]⟩ : ByteArray) = B ([115, 110, 97, 110] ++ [40]) := B_app [115, 110, 97, 110] [40]
  have z0 : (B ([115, 110, 97, 110] ++ [40])).size = 5 := rfl
  generalize ([115, 110, 97, 110] ++ [40] : List UInt8) = L0 at *
  obtain ⟨m, hm⟩ : ∃ m, P.length = m := ⟨_, rfl⟩
  have y0 : (B P).size = m := by rw [B_size, hm]
  have hm2 : m ≤ 660 := by omega
  have p1 : B L0 ++ B P = B (L0 ++ P) := B_app _ _
  have z1 : (B (L0 ++ P)).size = m + 5 := by rw [B_size] at z0 y0 ⊢; rw [List.length_append, z0, y0]; omega
  generalize hL1 : L0 ++ P = L1 at *
  have p2 : B L1 ++ (⟨#[41]⟩ : ByteArray) = B (L1 ++ [41]) := B_app _ [41]
  generalize hL2 : L1 ++ [41] = L2 at *
  clear hL1 hL2 hP hPl hm
  unfold DV at *
  go_enter Tryz.func116, Tryz.ntmps116
  go_wp2_with (first
    | (go_at_call 117; refine (c23 _).mono ?_; rintro r w1 ⟨rfl, hb1⟩; obtain ⟨hc1, hf1⟩ := bcell hb1; have hz1_0 : w.heap.size < w1.heap.size := lt_below hb1 ltg; have hl1_0 := Nat.le_of_lt hz1_0; have hA1 := bnext (w0 := w) bgo hb1; have hs1 := hA1.size; clear hb1)
    | (go_at_call 158; refine (c103 _ (nt_at hk (by assumption) (by go_simp) (by go_simp) (by go_simp) (by go_simp))).mono ?_; rintro r w2 ⟨rfl, hb2⟩; obtain ⟨hc2, hf2⟩ := bcell hb2; have hz2_0 : w.heap.size < w2.heap.size := lt_below hb2 ltg; have hl2_0 := Nat.le_of_lt hz2_0; have hA2 := bnext (w0 := w) bgo hb2; have hs2 := hA2.size; clear hb2))
  go_ret
  exact ⟨by rw [HU.out]; rfl, bgo⟩
end
theorem nan_v (c : Int) (s g : Bool) (x : Int) (k : Nat) (w : World) (hk : k < 2 ^ 256) : Calls Tryz.prog 116 #[DV c s g x k] w fun r w' => r = .returned (.string (B (nanT g (dcL k)))) ∧ Below w.heap.size w w' := by
  have c23 := fun W => none_v c s g x k W hk
  by_cases h0 : k = 0
  · rw [decide_eq_true h0] at c23
    rw [show dcL k = [] from if_pos h0]
    exact nan_z c s x k w g c23
  · rw [decide_eq_false h0] at c23
    obtain ⟨f1, f2, f3⟩ := dcL_facts hk
    have hne : dcL k ≠ [] := fun e => by rw [e, dV_nil] at f2; omega
    cases g
    · exact nan_f c s x k w (dcL k) hk hne f3 (fun W h => ndig_v (by decide) hk h0 h) c23
    · exact nan_t c s x k w (dcL k) hk hne f3 (fun W h => ndig_v (by decide) hk h0 h) c23
set_option maxHeartbeats 2000000 in
theorem oth_v (c : Int) (s g : Bool) (x : Int) (k : Nat) (w : World) (hk : k < 2 ^ 256) (hT10 : Tb10 w) : Calls Tryz.prog 25 #[DV c s g x k] w fun r w' => r = .returned (.string (B (texT c s g (dcL k) 0))) ∧ Below w.heap.size w w' := by
  obtain ⟨f1, f2, f3⟩ := dcL_facts hk
  have hb0 := below1 w (.cells #[.int .i64 c, .bool s, .bool g, .int .i64 x, .int .u64 (W4 k 0), .int .u64 (W4 k 1), .int .u64 (W4 k 2), .int .u64 (W4 k 3)] 43)
  have hn0 : Nt 4 k (.slice (some ⟨w.heap.size, 4, none⟩) 4 4) (w.alloc (.cells #[.int .i64 c, .bool s, .bool g, .int .i64 x, .int .u64 (W4 k 0), .int .u64 (W4 k 1), .int .u64 (W4 k 2), .int .u64 (W4 k 3)] 43)) := nt_at hk (by simp) (by go_simp) (by go_simp) (by go_simp) (by go_simp)
  have c17 := fun W (hW : Below (w.alloc (.cells #[.int .i64 c, .bool s, .bool g, .int .i64 x, .int .u64 (W4 k 0), .int .u64 (W4 k 1), .int .u64 (W4 k 2), .int .u64 (W4 k 3)] 43)).heap.size (w.alloc (.cells #[.int .i64 c, .bool s, .bool g, .int .i64 x, .int .u64 (W4 k 0), .int .u64 (W4 k 1), .int .u64 (W4 k 2), .int .u64 (W4 k 3)] 43)) W) => dec_v (by decide) hk (hn0.next hW)
  have c72 := fun W (hW : Below (w.alloc (.cells #[.int .i64 c, .bool s, .bool g, .int .i64 x, .int .u64 (W4 k 0), .int .u64 (W4 k 1), .int .u64 (W4 k 2), .int .u64 (W4 k 3)] 43)).heap.size (w.alloc (.cells #[.int .i64 c, .bool s, .bool g, .int .i64 x, .int .u64 (W4 k 0), .int .u64 (W4 k 1), .int .u64 (W4 k 2), .int .u64 (W4 k 3)] 43)) W) => rtext_any c s g (dcL k) 0 W (by omega) (by decide) (hT10.next (bnx hb0 hW))
  unfold PV at c72
  generalize dcL k = P at *
  clear hn0
  unfold DV
  go_enter Tryz.func25, Tryz.ntmps25
  go_wp2
  refine wp_whole (by kernel_rfl) (by kernel_rfl) fun hne hcell => ?_
  repeat go_big_quiet_step (fail)
  go_big_quiet_step ((go_at_call 63; exact calls_wd _ bk_next (c17 _ (Wd.h _))))
  repeat go_big_quiet_step (fail)
  go_big_quiet_step ((go_at_call 62; exact calls_wd _ bk_next (c72 _ (Wd.h _))))
  repeat go_big_quiet_step (fail)
  refine wpQuiet_nil fun w1 hb1 => ?_
  have hA1 := bnx hb0 hb1
  go_wp2
  go_ret
  exact ⟨rfl, hA1⟩
end Go.Proofs.YtplocajjfoiklaaGreatDoor

namespace Go.Proofs.YtplocajjfoiklaaGreatDoor
open Go.RowKit

attribute [local irreducible] W4
section
variable (n : Int) (s g : Bool) (x : Int) (k : Nat) (w : World)
set_option maxHeartbeats 2000000 in
theorem uns_i : Calls Tryz.prog 54 #[.int .i64 n, DV 2 s g x k] w fun r w' => r = .returned (.string (B [105, 110, 102])) ∧ Below w.heap.size w w' := by
  have e : B [105, 110, 102] = ⟨#[105, 110, 102]⟩ := rfl
  rw [e]
  unfold DV
  go_enter Tryz.func54, Tryz.ntmps54
  go_wp2
  go_ret
  exact ⟨rfl, bgo⟩
set_option maxHeartbeats 2000000 in
theorem uns_n (T : List UInt8) (c71 : ∀ W, Calls Tryz.prog 116 #[DV 3 s g x k] W fun r w' => r = .returned (.string (B T)) ∧ Below W.heap.size W w') :
    Calls Tryz.prog 54 #[.int .i64 n, DV 3 s g x k] w fun r w' => r = .returned (.string (B T)) ∧ Below w.heap.size w w' := by
  have hsm := cell_set_map
  unfold DV at *
  go_enter Tryz.func54, Tryz.ntmps54
  go_wp2_with (go_at_call 116; refine (c71 _).mono ?_; rintro r w1 ⟨rfl, hb1⟩; obtain ⟨hc1, hf1⟩ := bcell hb1; have hz1_0 : w.heap.size < w1.heap.size := lt_below hb1 ltg; have hl1_0 := Nat.le_of_lt hz1_0; have hA1 := bnext (w0 := w) bgo hb1; have hs1 := hA1.size; clear hb1)
  go_ret
  exact ⟨rfl, bgo⟩
end
/-- a pattern's text, the program's -/
theorem write_of {n : Int} {V : Nat} {w : World} (hT : Tab w) (hT10 : Tb10 w) (T : List UInt8) (hl : T.length ≤ 100000) (hV : V < 2 ^ 256) (hg : goodN n V)
    (c39 : ∀ W, Tab W → Tb10 W → Calls Tryz.prog 54 #[.int .i64 n, (unD n V).v] W fun r w' => r = .returned (.string (B T)) ∧ Below W.heap.size W w') :
    Calls Tryz.prog 22 #[.int .i64 n, A4 V] w fun r w' => r = .returned (.tuple #[.string (B (sgL (unD n V).s ++ T)), .int .i64 0]) ∧ Below w.heap.size w w' := by
  have c22 := fun W (hW : Tab W) => unpack_any n V W hW hV
  rw [show unE n V = 0 from if_pos hg] at c22
  cases hs : (unD n V).s
  · exact wr_p n V (unD n V).c (unD n V).s (unD n V).g (unD n V).x (unD n V).k w hT hT10 T hs c22 c39
  · exact wr_m n V (unD n V).c (unD n V).s (unD n V).g (unD n V).x (unD n V).k w hT hT10 T hl hs c22 c39
theorem nanT_len {g : Bool} {d : List UInt8} (h : d.length ≤ 660) : (nanT g d).length ≤ 3000 := by
  unfold nanT
  rw [List.length_append, List.length_append]
  split <;> split <;> simp <;> omega
end Go.Proofs.YtplocajjfoiklaaGreatDoor
