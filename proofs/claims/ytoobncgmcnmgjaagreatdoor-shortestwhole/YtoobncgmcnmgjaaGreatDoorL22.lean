/-
  Texts that the proof leans on, joined: Npo, Str, Apn, Nrd, Rat, Rrd.
-/
import Derived.Test.YtoobncgmcnmgjaaGreatDoorL9
import Derived.Lib.RabinKarpLaws
import Derived.Test.YtoobncgmcnmgjaaGreatDoorL6
import Derived.Test.YtoobncgmcnmgjaaGreatDoorL2
import Derived.Test.YtoobncgmcnmgjaaGreatDoorL4
set_option linter.unusedVariables false
set_option linter.unusedSimpArgs false
set_option maxRecDepth 20000
set_option linter.unusedSectionVars false
namespace Go.Proofs.YtoobncgmcnmgjaaGreatDoor
open Go.RowKit
theorem p10_posN (n : Nat) : (0 : Int) < 10 ^ n := Int.pow_pos (by decide)

theorem val_ones : ∀ t, val (fun _ => 18446744073709551615) t = 18446744073709551616 ^ t - 1
  | 0 => by simp [val]
  | t + 1 => by
    show val (fun _ => 18446744073709551615) t + 18446744073709551615 * 18446744073709551616 ^ t = 18446744073709551616 ^ (t + 1) - 1
    rw [val_ones t, Int.pow_succ]; omega
/-- a trimmed number below B^t has t words at most -/
theorem size_bound {z : Nat → Int} (hz : Words z) {k t : Nat} (hs : sizeL z k = k) (hv : val z k < 18446744073709551616 ^ t) : k ≤ t := by
  rcases Nat.lt_or_ge t k with h | h
  · have := val_longer (x := fun _ => 18446744073709551615) (fun _ => (by decide : (0 : Int) ≤ 18446744073709551615 ∧ (18446744073709551615 : Int) ≤ 18446744073709551615)) hz h hs
    rw [val_ones] at this; omega
  · exact h
theorem p19 : ∀ t : Nat, (10 : Int) ^ (19 * t) ≤ 18446744073709551616 ^ t
  | 0 => by simp
  | t + 1 => by
    have ih := p19 t
    have e : (10 : Int) ^ (19 * (t + 1)) = 10 ^ (19 * t) * 10000000000000000000 := by rw [Nat.mul_add, Int.pow_add]; rfl
    rw [e, Int.pow_succ]
    have h0 := pw_pos t
    have h1 := p10_posN (19 * t)
    generalize (18446744073709551616 : Int) ^ t = A at *
    generalize (10 : Int) ^ (19 * t) = B at *
    omega
theorem pow_le10 {b : Int} (hb : 0 ≤ b) (hb2 : b ≤ 10) : ∀ e : Nat, 0 ≤ b ^ e ∧ b ^ e ≤ 10 ^ e
  | 0 => by simp
  | e + 1 => by
    have ih := pow_le10 hb hb2 e
    rw [Int.pow_succ, Int.pow_succ]
    exact ⟨Int.mul_nonneg ih.1 hb, Int.mul_le_mul ih.2 hb2 hb (Int.le_of_lt (p10_posN e))⟩
theorem pow_small {b : Int} (hb : 0 ≤ b) (hb2 : b ≤ 10) {e : Nat} (he : e ≤ 12000) : b ^ e < 18446744073709551616 ^ 632 := by
  have h1 := (pow_le10 hb hb2 e).2
  have h2 := p19 632
  have h3 : (10 : Int) ^ e < 10 ^ (19 * 632) := by
    obtain ⟨k, hk⟩ : ∃ k, 19 * 632 = e + 1 + k := ⟨19 * 632 - (e + 1), by omega⟩
    rw [hk, Int.pow_add, Int.pow_succ]
    have := p10_posN e
    have h4 := p10_posN k
    have h5 : (10 : Int) ^ e * 10 * 1 ≤ 10 ^ e * 10 * 10 ^ k := Int.mul_le_mul_of_nonneg_left (by omega) (by omega)
    omega
  exact Int.lt_of_lt_of_le (Int.lt_of_le_of_lt h1 h3) h2

set_option maxHeartbeats 1000000 in
theorem npow_two (n : Nat) (w : World) (hn : n ≤ 12000) :
    Calls Tryz.prog 114 #[.int .i64 2, .int .i64 n] w fun e w' => ∃ g k cap z, e = .returned (.tuple #[.slice (some ⟨g, 0, none⟩) k cap, .int .i64 0]) ∧ k ≤ 2001 ∧ Num w' (some ⟨g, 0, none⟩) k cap z ∧ val z k = 2 ^ n ∧ sizeL z k = k ∧ Below w.heap.size w w' := by
  have hN1 := num_one w 1 (by decide)
  have hs : sizeL (oneW 1) 1 = 1 := by simp [sizeL, oneW]
  have hsh := nshl_any _ 1 1 (oneW 1) n _ (by omega) hN1 (by omega) (by rw [hs]; omega)
  rw [val_one1, Int.one_mul, Int.toNat_natCast] at hsh
  have HB := below1 w (.cells #[.int .u64 1] 22)
  have hn' : (n : Int) ≤ 12000 := by omega
  clear hN1 hs
  go_enter Tryz.func114, Tryz.ntmps114
  go_wp2_with (go_at_call 143; refine hsh.mono ?_; rintro e w' ⟨g, k, cap, z, rfl, hk, hN, hv, hs, hB⟩)
  go_ret2
  exact ⟨g, k, cap, z, rfl, hk, hN, hv, hs, HB.trans (hB.mono HB.size)⟩

set_option maxHeartbeats 2000000 in
theorem npow_any (b : Int) (n : Nat) (w : World) (hb : b = 5 ∨ b = 10) (hn : n ≤ 12000) :
    Calls Tryz.prog 114 #[.int .i64 b, .int .i64 n] w fun e w' => ∃ g k cap z, e = .returned (.tuple #[.slice (some ⟨g, 0, none⟩) k cap, .int .i64 0]) ∧ k ≤ 2001 ∧ Num w' (some ⟨g, 0, none⟩) k cap z ∧ val z k = b ^ n ∧ sizeL z k = k ∧ Below w.heap.size w w' := by
  have hb0 : 0 ≤ b ∧ b ≤ 10 := by omega
  have hbc : b = 5 ∨ b = 10 := hb
  have hb2 : (b == 2) = false := by simp; omega
  have hN1 := num_one w 1 (by decide)
  have hBB := below1 w (.cells #[.int .u64 1] 22)
  have hn' : (n : Int) ≤ 12000 := by omega
  have hlen := Tryz.bits_Len n (w.alloc (.cells #[.int .u64 1] 22)) (by omega) (by omega)
  rw [Int.toNat_natCast] at hlen
  obtain ⟨L, hL⟩ : ∃ L, Lib.bitLen n = L := ⟨_, rfl⟩
  have hL64 : L ≤ 64 := by rw [← hL]; exact bitLen64 n
  have HLn : Hid (n / 2 ^ L = 0) := by
    show _ = _
    by_cases h0 : n = 0
    · subst h0; simp
    · have := bitLen_spec n (by omega) (by omega)
      rw [hL] at this
      exact Nat.div_eq_of_lt this.2.2.2
  rw [hL] at hlen
  clear hL
  have HS1 : Hid (sizeL (oneW 1) 1 = 1) := by show _ = _; simp [sizeL, oneW]
  have hne : (b != 2) = true := by simp; omega
  have hpick : (b != 5) = true ∧ (b != 10) = false ∨ (b != 5) = false := by rcases hb with rfl | rfl <;> decide
  have hps : ∀ e, e ≤ 12000 → b ^ e < 18446744073709551616 ^ 632 := fun e he => pow_small hb0.1 hb0.2 he
  have HPS : Hid (∀ e, e ≤ 12000 → b ^ e < 18446744073709551616 ^ 632) := hps
  clear hps hb
  rcases hpick with ⟨h5, h10⟩ | h5
  all_goals
    go_enter Tryz.func114, Tryz.ntmps114
    go_wp2_with (go_at_call 144; refine hlen.mono ?_; rintro e w' ⟨rfl, rfl⟩)
    generalize w.alloc (.cells #[.int .u64 1] 22) = wA at *
    go_loopw [6, 7, 40, 51] (fun pv iv u40 u51 wr => ∃ (k kk g p : Nat) (z : Nat → Int), k ≤ L ∧ iv = .int .i64 ((k : Int) - 1) ∧ pv = .slice (some ⟨g, 0, none⟩) kk p ∧ kk ≤ 632 ∧ Num wr (some ⟨g, 0, none⟩) kk p z ∧ sizeL z kk = kk ∧ Hid (val z kk = b ^ (n / 2 ^ k)) ∧ Below w.heap.size w wr) (fun _ iv _ _ _ => (intOf iv + 1).toNat)
    case atStart => exact ⟨L, 1, w.heap.size, 1, oneW 1, Nat.le_refl _, by go_num, rfl, by omega, hN1, HS1.out, by show _ = _; rw [val_one1, HLn.out, Int.pow_zero], hBB⟩
    case round =>
      clear hN1 hBB hlen
      obtain ⟨k, kk, g, p, z, hk, rfl, rfl, hkk, hN, hs, hv, hB⟩ := hrel
      by_cases h0 : k = 0
      · subst h0
        have HV : Hid (val z kk = b ^ n) := by show _ = _; have := hv.out; simpa using this
        have HN : Hid (Num wr (some ⟨g, 0, none⟩) kk p z) := hN
        have HS : Hid (sizeL z kk = kk) := hs
        clear hN hv hs
        go_wp2
        go_ret2
        exact ⟨g, kk, p, z, rfl, by omega, HN.out, HV.out, HS.out, hB⟩
      · obtain ⟨j, rfl⟩ : ∃ j, k = j + 1 := ⟨k - 1, by omega⟩
        have ej : ((j + 1 : Nat) : Int) - 1 = j := by omega
        rw [ej]
        obtain ⟨e, he⟩ : ∃ e, n / 2 ^ j = e := ⟨_, rfl⟩
        have hcast : (n : Int) / 2 ^ j = (e : Int) := by rw [← he, Int.natCast_ediv, powCast]
        have hen : e ≤ n := by rw [← he]; exact Nat.div_le_self _ _
        have hand := Go.Proofs.and_one e (by omega)
        have hhalf : n / 2 ^ (j + 1) = e / 2 := by rw [Nat.pow_succ, ← Nat.div_div_eq_div_mul, he]
        have m1 := nmul_any (some ⟨g, 0, none⟩) (some ⟨g, 0, none⟩) kk p kk p z z wr (by omega) (by omega) hN hN (by omega)
        have HV1 : Hid (val z kk * val z kk = b ^ (2 * (e / 2))) := by
          show _ = _
          rw [hv.out, hhalf, ← Int.pow_add]; congr 1; omega
        have HJ : Hid (j ≤ L) := by show _ ≤ _; omega
        have HE : Hid (n / 2 ^ j = e) := he
        clear ej he hhalf hN hs hv
        by_cases hodd : e % 2 = 1
        · rw [hodd] at hand
          go_wp2_with (go_at_call 115; refine m1.mono ?_; rintro e' w1 ⟨g1, k1, p1, z1, rfl, hk1, hN1, hv1, hs1, hb1⟩; clear m1)
          rw [HV1.out] at hv1
          have hk1b : k1 ≤ 632 := size_bound hN1.2.2.1 hs1 (by rw [hv1]; exact HPS.out _ (by omega))
          have hB1 := hB.trans (hb1.mono hB.size)
          have hNb := num_one w1 b (by omega)
          have hbb := below1 w1 (.cells #[.int .u64 b] 22)
          have hsb := sizeL_le (oneW b) 1
          have m2 := nmul_any (some ⟨g1, 0, none⟩) (some ⟨w1.heap.size, 0, none⟩) k1 p1 1 1 z1 (oneW b) (w1.alloc (.cells #[.int .u64 b] 22)) (by omega) (by omega) (hN1.next hbb) hNb (by omega)
          have HBB : Hid (Below w.heap.size w (w1.alloc (.cells #[.int .u64 b] 22))) := hB1.trans (hbb.mono hB1.size)
          clear hN1 hNb hbb
          go_wp2_with (go_at_call 115; refine m2.mono ?_; rintro e' w2 ⟨g2, k2, p2, z2, rfl, hk2, hN2, hv2, hs2, hb2⟩; clear m2)
          have hv3 : val z2 k2 = b ^ e := by
            rw [hv2, hv1, val_one1, ← Int.pow_succ]; congr 1; omega
          have hk2b : k2 ≤ 632 := size_bound hN2.2.2.1 hs2 (by rw [hv3]; exact HPS.out _ (by omega))
          have hB2 := HBB.out.trans (hb2.mono HBB.out.size)
          have HN2 : Hid (Num w2 (some ⟨g2, 0, none⟩) k2 p2 z2) := hN2
          clear hN2
          go_roundw
          case rel => exact ⟨j, k2, g2, p2, z2, HJ.out, by go_num, rfl, hk2b, HN2.out, hs2, by show _ = _; rw [HE.out, hv3], hB2⟩
          case measure => simp [intOf]
        · have he0 : e % 2 = 0 := by omega
          rw [he0] at hand
          go_wp2_with (go_at_call 115; refine m1.mono ?_; rintro e' w1 ⟨g1, k1, p1, z1, rfl, hk1, hN1, hv1, hs1, hb1⟩; clear m1)
          have hv3 : val z1 k1 = b ^ e := by
            rw [hv1, HV1.out]; congr 1; omega
          have hk1b : k1 ≤ 632 := size_bound hN1.2.2.1 hs1 (by rw [hv3]; exact HPS.out _ (by omega))
          have hB1 := hB.trans (hb1.mono hB.size)
          have HN1 : Hid (Num w1 (some ⟨g1, 0, none⟩) k1 p1 z1) := hN1
          clear hN1
          go_roundw
          case rel => exact ⟨j, k1, g1, p1, z1, HJ.out, by go_num, rfl, hk1b, HN1.out, hs1, by show _ = _; rw [HE.out, hv3], hB1⟩
          case measure => simp [intOf]
end Go.Proofs.YtoobncgmcnmgjaaGreatDoor

namespace Go.Proofs.YtoobncgmcnmgjaaGreatDoor
open Go.RowKit

/-- byte i of a text -/
def sb (s : ByteArray) (i : Nat) : Int := if h : i < s.size then ((s[i]'h).toNat : Int) else 0
theorem sb_lt {s : ByteArray} {i : Nat} (h : i < s.size) : ((s[i]'h).toNat : Int) = sb s i := by unfold sb; rw [dif_pos h]
theorem sb_bd (s : ByteArray) (i : Nat) : 0 ≤ sb s i ∧ sb s i ≤ 255 := by
  unfold sb; split
  · rename_i h; have := (s[i]'h).toNat_lt; omega
  · omega
/-- are the first k bytes digits? -/
def digB (s : ByteArray) : Nat → Bool
  | 0 => true
  | k + 1 => digB s k && decide (48 ≤ sb s k ∧ sb s k ≤ 57)
def isDigB (s : ByteArray) : Bool := digB s s.size && decide (0 < s.size)
theorem digB_false {s : ByteArray} : ∀ (n : Nat) {k : Nat}, k < n → ¬ (48 ≤ sb s k ∧ sb s k ≤ 57) → digB s n = false
  | 0, k, h, _ => by omega
  | n + 1, k, h, hb => by
    unfold digB
    by_cases e : k = n
    · subst e; simp [hb]
    · rw [digB_false n (by omega) hb]; rfl

set_option maxHeartbeats 1000000 in
theorem allDigits_any (s : ByteArray) (w : World) (hs : s.size < 4294967296) :
    Calls Tryz.prog 173 #[.string s] w fun e w' => e = .returned (.bool (isDigB s)) ∧ w = w' := by
  go_enter Tryz.func173, Tryz.ntmps173
  go_wp2
  go_loop [3, 6] (fun u3 i => ∃ k : Nat, k ≤ s.size ∧ i = .int .i64 k ∧ digB s k = true) (fun _ i => s.size - (intOf i).toNat)
  case atStart => exact ⟨0, Nat.zero_le _, rfl, rfl⟩
  case round =>
    obtain ⟨k, hk, rfl, hd⟩ := hrel
    by_cases hlt : k < s.size
    · have hki : (k : Int) < s.size := by omega
      have hsb := sb_lt hlt
      have hbd := sb_bd s k
      by_cases h1 : sb s k < 48
      · have HF : Hid (isDigB s = false) := by show _ = _; unfold isDigB; rw [digB_false s.size hlt (by omega)]; rfl
        go_wp2
        go_ret
        exact ⟨by rw [HF.out]; rfl, rfl⟩
      · by_cases h2 : 57 < sb s k
        · have HF : Hid (isDigB s = false) := by show _ = _; unfold isDigB; rw [digB_false s.size hlt (by omega)]; rfl
          go_wp2
          go_ret
          exact ⟨by rw [HF.out]; rfl, rfl⟩
        · have HD : Hid (digB s (k + 1) = true) := by show _ = _; unfold digB; rw [hd]; simp; omega
          clear hd
          go_wp2
          go_round
          case rel => exact ⟨k + 1, by omega, by go_num, HD.out⟩
          case measure => simp [intOf]; omega
    · obtain rfl : k = s.size := by omega
      have HF : Hid (isDigB s = decide (0 < s.size)) := by show _ = _; unfold isDigB; rw [hd]; simp
      clear hd
      go_wp2
      go_ret
      exact ⟨by rw [HF.out]; rfl, rfl⟩
end Go.Proofs.YtoobncgmcnmgjaaGreatDoor

namespace Go.Proofs.YtoobncgmcnmgjaaGreatDoor
open Go.RowKit

/-- the number that the first k bytes write -/
def numV (s : ByteArray) : Nat → Int
  | 0 => 0
  | k + 1 => numV s k * 10 + (sb s k - 48)
theorem digB_at {s : ByteArray} : ∀ (n : Nat), digB s n = true → ∀ k, k < n → 48 ≤ sb s k ∧ sb s k ≤ 57
  | 0, _, k, h => by omega
  | n + 1, hd, k, h => by
    unfold digB at hd
    simp at hd
    by_cases e : k = n
    · subst e; exact hd.2
    · exact digB_at n hd.1 k (by omega)
theorem numV_bd {s : ByteArray} : ∀ (n : Nat), digB s n = true → 0 ≤ numV s n ∧ numV s n < 10 ^ n
  | 0, _ => by simp [numV]
  | n + 1, hd => by
    have h1 := digB_at (n + 1) hd n (by omega)
    have h2 := numV_bd n (by unfold digB at hd; simp at hd; exact hd.1)
    simp only [numV]
    rw [Int.pow_succ]
    omega
theorem p10_le {a b : Nat} (h : a ≤ b) : (10 : Int) ^ a ≤ 10 ^ b := by
  have : (10 : Nat) ^ a ≤ 10 ^ b := Nat.pow_le_pow_right (by decide) h
  exact_mod_cast this
theorem wl_set (z : Nat → Int) (n j : Nat) (l : Int) : (wl z n).set j (.int .u64 l) = wl (fun i => if i = j then l else z i) n := by
  apply List.ext_getElem?
  intro i
  unfold wl
  rw [List.getElem?_set]
  by_cases hi : i < n
  · by_cases e : j = i
    · subst e; simp [hi]
    · simp [hi, e, Ne.symm e]
  · by_cases e : j = i
    · subst e; simp [hi]
    · simp [hi, e]
theorem wl_congr {x y : Nat → Int} (n : Nat) (h : ∀ i, i < n → x i = y i) : wl x n = wl y n := by
  unfold wl
  exact List.map_congr_left fun i hi => by rw [h i (by simpa using hi)]
theorem owns_form {w : World} {base n c : Nat} {ao : Option Addr} {xs : List Value} (h : w.ownsRow base 22 1 (.slice ao n c) n xs) : ∀ q, (Value.slice ao n c).ownBlock = some q → base ≤ q := fun q hq => (h.lt q hq).1
theorem owns_some {w : World} {base n c : Nat} {ao : Option Addr} {xs : List Value} (h : w.ownsRow base 22 1 (.slice ao n c) n xs) (hn : 0 < n) : ∃ g, ao = some ⟨g, 0, none⟩ ∧ base ≤ g := by
  obtain ⟨g, cap, e, hb, _⟩ := h.form hn
  cases e
  exact ⟨g, rfl, hb⟩
theorem wl_at (z : Nat → Int) (n j : Nat) (h : j < n) : (wl z n)[j]? = some (.int .u64 (z j)) := by unfold wl; simp [h]

/-- a number in a row of one's own -/
def Row (base : Nat) (ao : Option Addr) (n c : Nat) (x : Nat → Int) (w : World) : Prop :=
  w.ownsRow base 22 1 (.slice ao n c) n (wl x n) ∧ Words x ∧ (∀ i, n ≤ i → x i = 0) ∧ sizeL x n = n ∧ base ≤ w.heap.size

theorem apn_trim {x z : Nat → Int} {n : Nat} {S b : Int} (hx : Words x) (hz : Words z) (ht : sizeL x n = n) (hS : 1 ≤ S) (hb : 0 ≤ b) (hv : val z n = val x n * S + b) : sizeL z n = n := by
  cases n with
  | zero => rfl
  | succ m =>
    by_cases e : z m = 0
    · exfalso
      have h1 : val z m < val x (m + 1) := val_longer (x := z) hz hx (Nat.lt_succ_self m) ht
      have h2 : val z (m + 1) = val z m := by simp [val, e]
      have h3 := (val_bd hx (m + 1)).1
      have h4 : val x (m + 1) * 1 ≤ val x (m + 1) * S := Int.mul_le_mul_of_nonneg_left hS h3
      omega
    · simp [sizeL, e]

set_option maxRecDepth 20000 in
set_option maxHeartbeats 2000000 in
theorem appendPart_any (base : Nat) (a : Option Addr) (n c : Nat) (x : Nat → Int) (s : ByteArray) (w : World) (hn : n < 100000) (hs : s.size ≤ 19) (hd : digB s s.size = true) (h : Row base a n c x w) :
    Calls Tryz.prog 174 #[.slice a n c, .string s] w fun e w' => ∃ ao k cap z, e = .returned (.slice ao k cap) ∧ k ≤ n + 1 ∧ Row base ao k cap z w' ∧ val z k = val x n * 10 ^ s.size + numV s s.size ∧ Below base w w' := by
  obtain ⟨hown, hx, hx0, hxt, hbase⟩ := h
  have hdig := digB_at s.size hd
  have hnv := numV_bd s.size hd
  have hS19 : (10 : Int) ^ s.size ≤ 10 ^ 19 := p10_le hs
  have HX : Hid (Words x) := hx
  have HX0 : Hid (∀ i, n ≤ i → x i = 0) := hx0
  have HXT : Hid (sizeL x n = n) := hxt
  have HNV : Hid (0 ≤ numV s s.size ∧ numV s s.size < 10 ^ s.size) := hnv
  have HS19 : Hid ((10 : Int) ^ s.size ≤ 10 ^ 19) := hS19
  have HOWN : Hid (w.ownsRow base 22 1 (.slice a n c) n (wl x n)) := hown
  have HD : Hid (digB s s.size = true) := hd
  clear hx hx0 hxt hnv hS19 hown hd
  go_enter Tryz.func174, Tryz.ntmps174
  go_wp2
  go_loop [5, 6, 7, 12] (fun sc be u7 i => ∃ (k : Nat) (S b : Int), k ≤ s.size ∧ i = .int .i64 k ∧ sc = .int .u64 S ∧ be = .int .u64 b ∧ Hid (S = 10 ^ k ∧ b = numV s k) ∧ 0 ≤ b ∧ b < S ∧ S ≤ 10000000000000000000) (fun _ _ _ i => s.size - (intOf i).toNat)
  case atStart => exact ⟨0, 1, 0, Nat.zero_le _, rfl, rfl, rfl, ⟨by simp, rfl⟩, by decide, by decide, by decide⟩
  case round =>
    obtain ⟨k, S, b, hk, rfl, rfl, rfl, hSb, hb0, hbS, hS⟩ := hrel
    by_cases hlt : k < s.size
    · have hki : (k : Int) < s.size := by omega
      have hsb := sb_lt hlt
      have hbd := hdig k hlt
      have hS2 : S ≤ 1000000000000000000 := by
        have := p10_le (show k ≤ 18 by omega)
        rw [← hSb.out.1] at this
        exact this
      have HSB : Hid (S * 10 = 10 ^ (k + 1) ∧ b * 10 + (sb s k - 48) = numV s (k + 1)) := by
        show _ ∧ _
        obtain ⟨e1, e2⟩ := hSb.out
        exact ⟨by rw [e1, Int.pow_succ], by rw [e2]; rfl⟩
      clear hdig hSb
      go_wp2
      go_round
      case rel => exact ⟨k + 1, S * 10, b * 10 + (sb s k - 48), by omega, by go_num, by go_num, by go_num, HSB.out, by omega, by omega, by omega⟩
      case measure => simp [intOf]; omega
    · obtain rfl : k = s.size := by omega
      clear hdig hlt
      clear HNV HS19 HD
      go_wp2
      go_loopw [6, 8, 9, 28, 33] (fun be u8 u9 i u33 wr => ∃ (j : Nat) (C : Int) (z : Nat → Int), j ≤ n ∧ i = .int .i64 j ∧ be = .int .u64 C ∧ (0 ≤ C ∧ C ≤ 18446744073709551615) ∧ wr.ownsRow base 22 1 (.slice a n c) n (wl z n) ∧ Words z ∧ Hid (val z n + C * 18446744073709551616 ^ j = val x j * S + b + (val x n - val x j)) ∧ (∀ i, j ≤ i → z i = x i) ∧ Below base w wr) (fun _ _ _ i _ _ => n - (intOf i).toNat)
      case atStart => exact ⟨0, b, x, Nat.zero_le _, rfl, rfl, by omega, HOWN.out, HX.out, by show _ = _; simp [val]; omega, fun _ _ => rfl, Below.refl _ _⟩
      case round =>
        obtain ⟨j, C, z, hj, rfl, rfl, hCb, hO, hzw, hv, hzx, hU⟩ := hrel
        by_cases hlt : j < n
        · have hji : (j : Int) < n := by omega
          obtain ⟨g, rfl, hbg⟩ := owns_some hO (by omega)
          have hcj := (hO.cellAt j (by omega)).trans (wl_at z n j hlt)
          have hfj := hO.frozenAt j
          have hst := fun l => (hO.stored j (.int .u64 l))
          have hma := fun w => mulAdd_any (z j) S 0 C w (hzw j) (by omega) (by decide) hCb
          have HST : Hid (∀ l, (wr.setCell ⟨g, j, none⟩ (.int .u64 l)).ownsRow base 22 1 (.slice (some ⟨g, 0, none⟩) n c) n ((wl z n).set j (.int .u64 l)) ∧ wr.grownBy (wr.setCell ⟨g, j, none⟩ (.int .u64 l)) (some g)) := hst
          have HU : Hid (Below base w wr) := hU
          have HZW : Hid (Words z) := hzw
          have HZX : Hid (∀ i, j ≤ i → z i = x i) := hzx
          clear hO hU hzw hzx hst
          go_wp2_with (go_at_call 177; refine (hma _).mono ?_; rintro e w1 ⟨l, hi, rfl, hlh, hlb, hhb, rfl⟩)
          go_roundw
          case rel =>
            refine ⟨j + 1, hi, fun i => if i = j then l else z i, by omega, by go_num, rfl, hhb, ?_, upd_words HZW.out hlb, ?_, ?_, HU.out.grown (HST.out l).2 (Nat.le_trans hbase HU.out.size) (fun q hq => by cases hq; exact hbg)⟩
            · rw [← wl_set]; exact (HST.out l).1
            · show _ = _
              rw [val_set z j l n (by omega)]
              have e1 := hv.out
              have e3 := HZX.out j (Nat.le_refl _)
              rw [e3] at hlh ⊢
              simp only [val]
              rw [Int.pow_succ]
              generalize (18446744073709551616 : Int) ^ j = P at *
              have e2 : l * P + hi * (P * 18446744073709551616) = (x j * S + 0 + C) * P := by rw [← hlh]; grind
              grind
            · intro i hi2
              exact (if_neg (show ¬ i = j by omega)).trans (HZX.out i (by omega))
          case measure => simp [intOf]; omega
        · obtain rfl : j = n := by omega
          have hv' : val z j + C * 18446744073709551616 ^ j = val x j * S + b := by have := hv.out; omega
          have hz0 : ∀ i, j ≤ i → z i = 0 := fun i hi => (hzx i hi).trans (HX0.out i hi)
          by_cases hC : C = 0
          · subst hC
            have hv2 : val z j = val x j * S + b := by rw [← hv']; simp
            have HR : Hid (Row base a j c z wr) := ⟨hO, hzw, hz0, apn_trim HX.out hzw HXT.out (by omega) hb0 hv2, Nat.le_trans hbase hU.size⟩
            have HV : Hid (val z j = val x j * S + b) := hv2
            have HU : Hid (Below base w wr) := hU
            clear hO hU hzw hzx hz0 hv hv' hv2
            go_wp2
            go_ret
            exact ⟨a, j, c, z, rfl, by omega, HR.out, by rw [HV.out, hSb.out.1, ← hSb.out.2], HU.out⟩
          · have hC0 : 0 < C := by omega
            obtain ⟨i0, hi, hz00, hz1, hz2⟩ := info_parts Tryz.info22
            have HOWN2 : (wr.alloc (.cells #[.int .u64 C] 22)).ownsRow base 22 1 (.slice a j c) j (wl z j) := hO.alloc _
            have HNEWS : ∀ (q : Nat) (u : Value), [Value.int .u64 C][q]? = some u → (wr.alloc (.cells #[.int .u64 C] 22)).cell? ((⟨wr.heap.size, 0, none⟩ : Addr).add q) = some u := by
              intro q u hq
              match q, hq with
              | 0, hq => simp at hq; subst hq; simp [Addr.add]
            have HONE : ∀ u ∈ [Value.int .u64 C], u.oneCell' = true := by
              intro u hu; simp at hu; subst hu; rfl
            have hbs := Nat.le_trans hbase hU.size
            have HOF : Hid (∀ q, (Value.slice a j c).ownBlock = some q → base ≤ q) := owns_form hO
            have HU : Hid (Below base w wr) := hU
            have HZW : Hid (Words z) := hzw
            have HZ0 : Hid (∀ i, j ≤ i → z i = 0) := hz0
            have HV : Hid (val z j + C * 18446744073709551616 ^ j = val x j * S + b) := hv'
            clear hO hU hzw hzx hz0 hv hv'
            go_wp2_with (first | (at_builtin; refine wpList_append_lies _ rfl (.tmp 46) (.tmp 48) 39 rfl base 22 i0 (.int .u64 0) 1 8 Tryz.underlying39 hi hz00 hz1 hz2 rfl (by decide) (.slice a j c) j (wl z j) rfl HOWN2 ⟨wr.heap.size, 0, none⟩ 1 1 [Value.int .u64 C] rfl rfl HNEWS HONE (by omega) (by unfold maxLen; omega) (by omega) (by simp; omega) (wr.heap.size + 1) (by simp) ?_; intro g cap w1 hown1 hgrow hat hlt1; clear HOWN2 HNEWS HONE))
            have HB1 : Below base wr w1 := ((Below.refl _ wr).alloc hbs _).grown hgrow (by simp; omega) HOF.out
            have e1 : wl z j ++ [Value.int .u64 C] = wl (fun i => if i = j then C else z i) (j + 1) := by
              rw [← wl_succ, if_pos rfl, wl_congr (y := fun i => if i = j then C else z i) j fun i hi => (if_neg (show ¬ i = j by omega)).symm]
            rw [e1] at hown1
            have HR : Hid (Row base (some ⟨g, 0, none⟩) (j + 1) cap (fun i => if i = j then C else z i) w1) := by
              refine ⟨hown1, upd_words HZW.out hCb, fun i hi => (if_neg (show ¬ i = j by omega)).trans (HZ0.out i (by omega)), ?_, Nat.le_trans hbs HB1.size⟩
              simp [sizeL]; omega
            have HV2 : Hid (val (fun i => if i = j then C else z i) (j + 1) = val x j * S + b) := by
              show _ = _
              rw [← HV.out]
              simp only [val, if_pos]
              rw [val_congr (y := z) j fun i hi => if_neg (show ¬ i = j by omega)]
            have HB2 : Hid (Below base w w1) := HU.out.trans HB1
            clear hown1 hgrow HB1 e1
            go_wp2
            go_ret
            exact ⟨_, j + 1, cap, _, rfl, by omega, HR.out, by rw [HV2.out, hSb.out.1, ← hSb.out.2], HB2.out⟩
end Go.Proofs.YtoobncgmcnmgjaaGreatDoor

namespace Go.Proofs.YtoobncgmcnmgjaaGreatDoor
open Go.RowKit

theorem digB_of {s : ByteArray} : ∀ (n : Nat), (∀ k, k < n → 48 ≤ sb s k ∧ sb s k ≤ 57) → digB s n = true
  | 0, _ => rfl
  | n + 1, h => by
    unfold digB
    rw [digB_of n fun k hk => h k (by omega)]
    simp; exact h n (by omega)
theorem numV_app {s u : ByteArray} (p : Nat) : ∀ L, (∀ i, i < L → sb u i = sb s (p + i)) → numV s (p + L) = numV s p * 10 ^ L + numV u L
  | 0, _ => by simp [numV]
  | L + 1, h => by
    have e := numV_app p L fun i hi => h i (by omega)
    rw [← Nat.add_assoc]
    simp only [numV]
    rw [e, h L (by omega), Int.pow_succ]
    grind
theorem ext_size {u : ByteArray} {a b : Nat} (hb : b ≤ u.size) : (u.extract a b).size = b - a := by
  rw [ByteArray.size_extract]; omega
theorem ext_sb {u : ByteArray} {a b i : Nat} (hb : b ≤ u.size) (hi : a + i < b) : sb (u.extract a b) i = sb u (a + i) := by
  unfold sb
  rw [dif_pos (show i < (u.extract a b).size by rw [ext_size hb]; omega), dif_pos (show a + i < u.size by omega)]
  simp [ByteArray.getElem_extract]

set_option maxHeartbeats 1000000 in
theorem nread_ok (s : ByteArray) (w : World) (hd : isDigB s = true) (hl : s.size ≤ 12000) :
    Calls Tryz.prog 142 #[.string s] w fun e w' => ∃ o k cap z, e = .returned (.tuple #[.slice o k cap, .int .i64 0]) ∧ k ≤ 12000 ∧ Num w' o k cap z ∧ val z k = numV s s.size ∧ sizeL z k = k ∧ Below w.heap.size w w' := by
  have ha := allDigits_any s w (by omega)
  rw [hd] at ha
  have hl' : (s.size : Int) ≤ 12000 := by omega
  have hdig : ∀ k, k < s.size → 48 ≤ sb s k ∧ sb s k ≤ 57 := by
    unfold isDigB at hd; simp at hd; exact digB_at s.size hd.1
  have HDG : Hid (∀ k, k < s.size → 48 ≤ sb s k ∧ sb s k ≤ 57) := hdig
  clear hd hdig
  go_enter Tryz.func142, Tryz.ntmps142
  go_wp2_with (go_at_call 173; refine ha.mono ?_; rintro e w' ⟨rfl, rfl⟩)
  clear ha
  go_loopw [0, 4, 5] (fun t0 t4 u5 wr => ∃ (p n c : Nat) (u : ByteArray) (ao : Option Addr) (z : Nat → Int), p ≤ s.size ∧ t0 = .string u ∧ t4 = .slice ao n c ∧ n ≤ p ∧ u.size = s.size - p ∧ (∀ i, i < u.size → sb u i = sb s (p + i)) ∧ Row w.heap.size ao n c z wr ∧ val z n = numV s p ∧ Below w.heap.size w wr) (fun t0 _ _ _ => match t0 with | .string u => u.size | _ => 0)
  case atStart => exact ⟨0, 0, 0, s, none, fun _ => 0, Nat.zero_le _, rfl, rfl, Nat.le_refl _, rfl, fun i _ => by rw [Nat.zero_add], ⟨World.ownsRow_nil _ _ _ _, fun _ => (by decide : (0 : Int) ≤ 0 ∧ (0 : Int) ≤ 18446744073709551615), fun _ _ => rfl, rfl, Nat.le_refl _⟩, rfl, Below.refl _ _⟩
  case round =>
    obtain ⟨p, n, c, u, ao, z, hp, rfl, rfl, hnp, hus, hub, hR, hv, hB⟩ := hrel
    by_cases h0 : u.size = 0
    · have e1 : p = s.size := by omega
      have hu0 : (u.size : Int) = 0 := by omega
      have HN : Hid (Num wr ao n c z) := num_of_owns' hR.2.1 hR.2.2.1 hR.1
      have HV : Hid (val z n = numV s s.size) := by show _ = _; rw [hv, e1]
      have HT : Hid (sizeL z n = n) := hR.2.2.2.1
      have HB : Hid (Below w.heap.size w wr) := hB
      clear hR hv hB hub
      go_wp2
      go_ret2
      exact ⟨ao, n, c, z, rfl, by omega, HN.out, HV.out, HT.out, HB.out⟩
    · have hu0 : (0 : Int) < u.size := by omega
      obtain ⟨L, hL⟩ : ∃ L : Nat, (if u.size ≤ 19 then u.size else 19) = L := ⟨_, rfl⟩
      have hL1 : 0 < L ∧ L ≤ 19 ∧ L ≤ u.size := by split at hL <;> omega
      have hmin : min (u.size : Int) 19 = L := by split at hL <;> omega
      have hLu : (L : Int) ≤ u.size := by omega
      have es : (u.extract 0 L).size = L := by rw [ext_size hL1.2.2]; omega
      have es2 : (u.extract L u.size).size = u.size - L := ext_size (Nat.le_refl _)
      have eb : ∀ i, i < L → sb (u.extract 0 L) i = sb s (p + i) := fun i hi => by rw [ext_sb hL1.2.2 (by omega), Nat.zero_add, hub i (by omega)]
      have eb2 : Hid (∀ i, i < (u.extract L u.size).size → sb (u.extract L u.size) i = sb s (p + L + i)) := fun i hi => by
        rw [es2] at hi
        rw [ext_sb (Nat.le_refl _) (by omega), hub (L + i) (by omega), Nat.add_assoc]
      have hap := appendPart_any w.heap.size ao n c z (u.extract 0 L) wr (by omega) (by omega) (by rw [es]; exact digB_of L fun k hk => by rw [eb k hk]; exact HDG.out (p + k) (by omega)) hR
      rw [es] at hap
      have HV : Hid (val z n * 10 ^ L + numV (u.extract 0 L) L = numV s (p + L)) := by show _ = _; rw [numV_app p L eb, hv]
      have HB : Hid (Below w.heap.size w wr) := hB
      have HE2 : Hid ((u.extract L u.size).size = s.size - (p + L)) := by show _ = _; rw [es2]; omega
      have HE3 : Hid ((u.extract L u.size).size < u.size) := by show _ < _; rw [es2]; omega
      have hpl : p + L ≤ s.size := by omega
      have hnk : n + 1 ≤ p + L := by omega
      clear hR hv hB hub es es2 eb hL hus
      go_wp2_with (go_at_call 174; refine hap.mono ?_; rintro e w1 ⟨o1, k1, p1, z1, rfl, hk1, hR1, hv1, hB1⟩; clear hap)
      go_roundw
      case rel => exact ⟨p + L, k1, p1, _, o1, z1, hpl, rfl, rfl, by omega, HE2.out, eb2.out, hR1, by rw [hv1, HV.out], HB.out.trans hB1⟩
      case measure => exact HE3.out
end Go.Proofs.YtoobncgmcnmgjaaGreatDoor

namespace Go.Proofs.YtoobncgmcnmgjaaGreatDoor
open Go.RowKit

set_option maxHeartbeats 1000000 in
theorem radd_tr (a a' : Option Addr) (n c n' c' : Nat) (x y : Nat → Int) (w : World) (hn : n < 4294967290) (hn' : n' < 4294967290) (h : Num w a n c x) (h' : Num w a' n' c' y) :
    Calls Tryz.prog 18 #[.slice a n c, .slice a' n' c'] w fun e w' => ∃ g k cap, e = .returned (.slice (some ⟨g, 0, none⟩) k cap) ∧ k ≤ max n n' + 1 ∧ Num w' (some ⟨g, 0, none⟩) k cap (sumW x y) ∧ Below w.heap.size w w' ∧ sizeL (sumW x y) k = k := by
  have hx := h.2.2.1
  have hy := h'.2.2.1
  have zx := h.2.2.2.1
  have zy := h'.2.2.2.1
  obtain ⟨M, hM⟩ : ∃ M, max n n' + 1 = M := ⟨_, rfl⟩
  have hMi : max (n : Int) n' + 1 = (M : Int) := by omega
  have hMb : M < 4294967292 := by omega
  have hmk := fun w => make_any (max (n : Int) n' + 1) M hMi (by omega) w
  have hfin : ∀ (ss : Array Value), ss.size = M → (∀ j h, ss[j]'h = Value.int .u64 (sumW x y j)) → Num (w.alloc (.cells ss 22)) (some ⟨w.heap.size, 0, none⟩) M M (sumW x y) := fun ss h1 h2 => num_of_block (by omega) (sumW_words x y) (fun i hi => sumW_zero (n := max n n') hx hy (fun i hi => zx i (by omega)) (fun i hi => zy i (by omega)) i (by omega)) h1 (fun j hj => by rw [h2 j hj])
  have hw1 := fun (i : Nat) (ss : Array Value) => word_any a n c i x (w.alloc (.cells ss 22)) (h.next (below1 w _))
  have hw2 := fun (i : Nat) (ss : Array Value) => word_any a' n' c' i y (w.alloc (.cells ss 22)) (h'.next (below1 w _))
  have HM : Hid (max n n' + 1 = M) := hM
  have HZ : Hid ((arrOf (fun _ => 0) M).size = M ∧ ∀ j h, (arrOf (fun _ => 0) M)[j]'h = Value.int .u64 0) := ⟨arrOf_size _ _, fun j h => arrOf_get _ _ _ _⟩
  clear h h' zx zy hM hMi
  generalize arrOf (fun _ => 0) M = zz at *
  go_enter Tryz.func18, Tryz.ntmps18
  go_wp2
  go_loopw [6, 7, 17, 20] (fun c u7 i u20 wr => ∃ (k : Nat) (ss : Array Value), k ≤ M ∧ i = .int .i64 k ∧ c = .int .u64 (carryW x y k) ∧ ss.size = M ∧ (∀ j h, ss[j]'h = Value.int .u64 (if j < k then sumW x y j else 0)) ∧ wr = w.alloc (.cells ss 22)) (fun _ _ i _ _ => M - (intOf i).toNat)
  case atStart => exact ⟨0, zz, Nat.zero_le _, rfl, rfl, HZ.out.1, fun j h => by rw [HZ.out.2 j h]; simp, rfl⟩
  case round =>
    obtain ⟨k, ss, hk, rfl, rfl, hsz, hss, rfl⟩ := hrel
    have hcar := carryW_01 hx hy k
    by_cases h8 : k < M
    · have h8i : (k : Int) < M := by omega
      have h8s : k < ss.size := by omega
      have bx := hx k
      have b_y := hy k
      have hsk : ss[k]? = some (.int .u64 0) := by rw [Array.getElem?_eq_getElem h8s, hss k h8s, if_neg (by omega)]
      have hadd := fun w => add64 (x k) (y k) (carryW x y k) bx.1 b_y.1 hcar.1 hcar.2 w
      have hwa := hw1 k ss
      have hwb := hw2 k ss
      have HR : Hid (∀ (i : Nat) (h : i < (ss.setIfInBounds k (.int .u64 (sumW x y k))).size), (ss.setIfInBounds k (.int .u64 (sumW x y k)))[i]'h = Value.int .u64 (if i < k + 1 then sumW x y i else 0)) := set_next hss
      clear hss hw1 hw2 hfin hmk hx hy
      go_wp2_with (first | (go_at_call_of 51 (Value.slice a n c); refine hwa.mono ?_; rintro e w' ⟨rfl, rfl⟩) | (go_at_call_of 51 (Value.slice a' n' c'); refine hwb.mono ?_; rintro e w' ⟨rfl, rfl⟩))
      go_roundw
      case rel => exact ⟨k + 1, ss.setIfInBounds k (.int .u64 (sumW x y k)), by omega, by go_num, rfl, by simp [hsz], HR.out, rfl⟩
      case measure => simp [intOf]; omega
    · obtain rfl : k = M := by omega
      have hss' : ∀ j h, ss[j]'h = Value.int .u64 (sumW x y j) := by
        intro j h; rw [hss j h, if_pos (by omega)]
      have hT := trim_any _ _ _ _ _ (by omega) (hfin ss hsz hss')
      have hle := sizeL_le (sumW x y) k
      clear hss hss' hw1 hw2 hfin hmk hx hy
      go_wp2_with (go_at_call 49; refine hT.mono ?_; rintro e w1 ⟨g, cap, rfl, hN, hB⟩)
      go_ret
      exact ⟨g, _, cap, rfl, Nat.le_trans hle (Nat.le_of_eq HM.out.symm), hN, (below1 w _).trans (hB.mono (by simp)), sizeL_sizeL _ _⟩

theorem radd_vt (a a' : Option Addr) (n c n' c' : Nat) (x y : Nat → Int) (w : World) (hn : n < 4000000000) (hn' : n' < 4000000000) (h : Num w a n c x) (h' : Num w a' n' c' y) :
    Calls Tryz.prog 18 #[.slice a n c, .slice a' n' c'] w fun e w' => ∃ g k cap z, e = .returned (.slice (some ⟨g, 0, none⟩) k cap) ∧ k ≤ max n n' + 1 ∧ Num w' (some ⟨g, 0, none⟩) k cap z ∧ val z k = val x n + val y n' ∧ Below w.heap.size w w' ∧ sizeL z k = k := by
  refine (radd_tr a a' n c n' c' x y w (by omega) (by omega) h h').mono fun e w' ⟨g, k, cap, e1, hk, hN, hB, ht⟩ => ⟨g, k, cap, _, e1, hk, hN, ?_, hB, ht⟩
  have e := sum_val (x := x) (y := y) (max n n' + 1)
  rw [sum_end h.2.2.1 h'.2.2.1 h.2.2.2.1 h'.2.2.2.1 (by omega) (by omega), val_more h.2.2.2.1 _ (by omega), val_more h'.2.2.2.1 _ (by omega), val_more hN.2.2.2.1 _ hk] at e
  omega
end Go.Proofs.YtoobncgmcnmgjaaGreatDoor

namespace Go.Proofs.YtoobncgmcnmgjaaGreatDoor
open Go.RowKit

theorem num_empty (w : World) : Num (w.alloc (.cells #[] 22)) (some ⟨w.heap.size, 0, none⟩) 0 0 (fun _ => 0) :=
  ⟨Nat.le_refl _, by unfold maxLen; omega, fun _ => (by decide : (0 : Int) ≤ 0 ∧ (0 : Int) ≤ 18446744073709551615), fun _ _ => rfl, Or.inr ⟨_, 0, rfl, by simp, fun i hi => by omega⟩⟩
set_option maxRecDepth 20000 in
set_option maxHeartbeats 2000000 in
theorem number_any (s : ByteArray) (w : World) (hd : isDigB s = true) (hl : s.size ≤ 12000) :
    Calls Tryz.prog 19 #[.string s] w fun e w' => ∃ g k cap z, e = .returned (.slice (some ⟨g, 0, none⟩) k cap) ∧ k ≤ 36000 ∧ Num w' (some ⟨g, 0, none⟩) k cap z ∧ val z k = numV s s.size ∧ Below w.heap.size w w' ∧ sizeL z k = k := by
  have hl' : (s.size : Int) ≤ 12000 := by omega
  have hdig : ∀ k, k < s.size → 48 ≤ sb s k ∧ sb s k ≤ 57 := by
    unfold isDigB at hd; simp at hd; exact digB_at s.size hd.1
  have HDG : Hid (∀ k, k < s.size → 48 ≤ sb s k ∧ sb s k ≤ 57) := hdig
  have HN0 := num_empty w
  have HB0 := below1 w (.cells #[] 22)
  clear hd hdig
  go_enter Tryz.func19, Tryz.ntmps19
  go_wp2
  generalize w.alloc (.cells #[] 22) = wA at *
  go_loopw [3, 4, 5, 6] (fun t3 t4 u5 u6 wr => ∃ (p n c g : Nat) (z : Nat → Int), p ≤ s.size ∧ t3 = .slice (some ⟨g, 0, none⟩) n c ∧ t4 = .int .i64 p ∧ n ≤ 3 * p ∧ Num wr (some ⟨g, 0, none⟩) n c z ∧ val z n = numV s p ∧ Hid (sizeL z n = n) ∧ Below w.heap.size w wr) (fun _ i _ _ _ => s.size - (intOf i).toNat)
  case atStart => exact ⟨0, 0, 0, _, fun _ => 0, Nat.zero_le _, rfl, rfl, Nat.le_refl _, HN0, rfl, (show sizeL _ 0 = 0 from rfl), HB0⟩
  case round =>
    clear HN0 HB0
    obtain ⟨p, n, c, g, z, hp, rfl, rfl, hnp, hN, hv, hts, hB⟩ := hrel
    by_cases hlt : p < s.size
    · have hpi : (p : Int) < s.size := by omega
      have HN : Hid (Num wr (some ⟨g, 0, none⟩) n c z) := hN
      have HV : Hid (val z n = numV s p) := hv
      have HB : Hid (Below w.heap.size w wr) := hB
      clear hN hv hB
      go_wp2
      go_loop [4, 5, 6] (fun t4 t5 t6 => ∃ (q : Nat) (S b : Int), p + q ≤ s.size ∧ q ≤ 18 ∧ t4 = .int .i64 ((p + q : Nat) : Int) ∧ t5 = .int .u64 b ∧ t6 = .int .u64 S ∧ Hid (S = 10 ^ q ∧ numV s (p + q) = numV s p * S + b) ∧ 0 ≤ b ∧ b < S) (fun i _ _ => s.size - (intOf i).toNat)
      case atStart => exact ⟨0, 1, 0, by omega, by omega, rfl, rfl, rfl, ⟨by simp, by simp⟩, by decide, by decide⟩
      case round =>
        obtain ⟨q, S, b, hpq, hq, rfl, rfl, rfl, hSb, hb0, hbS⟩ := hrel
        have hS18 : S ≤ 1000000000000000000 := by
          have := p10_le hq
          rw [← hSb.out.1] at this
          exact this
        by_cases hgo : p + q < s.size ∧ q < 18
        · obtain ⟨hgo1, hgo2⟩ := hgo
          have hki : ((p + q : Nat) : Int) < s.size := by omega
          have hS17 : S ≤ 100000000000000000 := by
            have := p10_le (show q ≤ 17 by omega)
            rw [← hSb.out.1] at this
            exact this
          have hsb := sb_lt hgo1
          have hbd := HDG.out (p + q) hgo1
          have HSB : Hid (10 * S = 10 ^ (q + 1) ∧ numV s (p + (q + 1)) = numV s p * (10 * S) + (10 * b + (sb s (p + q) - 48))) := by
            show _ ∧ _
            obtain ⟨e1, e2⟩ := hSb.out
            refine ⟨by rw [e1, Int.pow_succ]; omega, ?_⟩
            rw [← Nat.add_assoc]
            simp only [numV]
            rw [e2]; grind
          have HPQ : Hid ((p + q : Nat) + 1 = p + (q + 1)) := rfl
          clear hSb
          generalize p + q = r at *
          go_wp2
          go_round
          case rel => exact ⟨q + 1, 10 * S, 10 * b + (sb s r - 48), by have := HPQ.out; omega, by omega, by rw [← HPQ.out]; go_num, by go_num, by go_num, HSB.out, by omega, by omega⟩
          case measure => simp [intOf]; omega
        · have hstop : ((p + q : Nat) : Int) < s.size → S = 1000000000000000000 := fun h => by
            have : q = 18 := by omega
            rw [hSb.out.1, this]; rfl
          have hq0 : 0 < q := by omega
          have hN1 := num_one wr S (by omega)
          have hT := times_raw g 0 n c wr.heap.size 0 1 1 z (oneW S) (wr.alloc (.cells #[.int .u64 S] 22)) (by omega) (by omega) (HN.out.next (below1 wr _)) hN1
          have HB1 : Hid (Below w.heap.size w (wr.alloc (.cells #[.int .u64 S] 22))) := HB.out.trans ((below1 wr _).mono HB.out.size)
          have HSV : Hid (numV s (p + q) = val z n * S + b) := by show _ = _; rw [hSb.out.2, HV.out]
          have HQ : Hid (0 < q ∧ q ≤ 18) := ⟨hq0, hq⟩
          have hpr : p < p + q := by omega
          have hnr : n + 3 ≤ 3 * (p + q) := by omega
          have hA := fun (w1 : World) (g1 k1 c1 : Nat) (z1 : Nat → Int) (hk1 : k1 ≤ n + 1 + 1) (h1 : Num w1 (some ⟨g1, 0, none⟩) k1 c1 z1) => radd_vt (some ⟨g1, 0, none⟩) (some ⟨w1.heap.size, 0, none⟩) k1 c1 1 1 z1 (oneW b) (w1.alloc (.cells #[.int .u64 b] 22)) (by omega) (by omega) (h1.next (below1 w1 _)) (num_one w1 b (by omega))
          clear hSb hgo hN1 hq hq0
          generalize p + q = r at *
          by_cases hrs : r < s.size
          · have hri : (r : Int) < s.size := by omega
            have hS := hstop hri
            subst hS
            go_wp2_with (first | (go_at_call 32; refine hT.mono ?_; rintro e w1 ⟨g1, k1, c1, z1, rfl, hk1, hN1, hv1, hB1⟩; clear hT; have hA1 := hA w1 g1 k1 c1 z1 (by omega) hN1; clear hA) | (go_at_call 18; refine hA1.mono ?_; rintro e w2 ⟨g2, k2, c2, z2, rfl, hk2, hN2, hv2, hB2, ht2⟩; clear hA1; have HT2 : Hid (sizeL z2 k2 = k2) := ht2; clear ht2))
            go_roundw
            case rel =>
              refine ⟨r, k2, c2, g2, z2, hpq, rfl, rfl, by omega, hN2, ?_, HT2, ?_⟩
              · rw [hv2, HSV.out, val_one _ 1 (by omega), ← val_more hN1.2.2.2.1 (n + 1 + 1) hk1, hv1, val_one _ 1 (by omega)]
              · have b1 := HB1.out.trans (hB1.mono HB1.out.size)
                have b2 := b1.trans ((below1 w1 (.cells #[.int .u64 b] 22)).mono b1.size)
                exact b2.trans (hB2.mono b2.size)
            case measure => simp [intOf]; omega
          · obtain rfl : r = s.size := by omega
            clear hstop
            go_wp2_with (first | (go_at_call 32; refine hT.mono ?_; rintro e w1 ⟨g1, k1, c1, z1, rfl, hk1, hN1, hv1, hB1⟩; clear hT; have hA1 := hA w1 g1 k1 c1 z1 (by omega) hN1; clear hA) | (go_at_call 18; refine hA1.mono ?_; rintro e w2 ⟨g2, k2, c2, z2, rfl, hk2, hN2, hv2, hB2, ht2⟩; clear hA1; have HT2 : Hid (sizeL z2 k2 = k2) := ht2; clear ht2))
            go_roundw
            case rel =>
              refine ⟨s.size, k2, c2, g2, z2, Nat.le_refl _, rfl, rfl, by omega, hN2, ?_, HT2, ?_⟩
              · rw [hv2, HSV.out, val_one _ 1 (by omega), ← val_more hN1.2.2.2.1 (n + 1 + 1) hk1, hv1, val_one _ 1 (by omega)]
              · have b1 := HB1.out.trans (hB1.mono HB1.out.size)
                have b2 := b1.trans ((below1 w1 (.cells #[.int .u64 b] 22)).mono b1.size)
                exact b2.trans (hB2.mono b2.size)
            case measure => simp [intOf]; omega
    · obtain rfl : p = s.size := by omega
      have HN : Hid (Num wr (some ⟨g, 0, none⟩) n c z) := hN
      have HV : Hid (val z n = numV s s.size) := hv
      have HB : Hid (Below w.heap.size w wr) := hB
      clear hN hv hB
      go_wp2
      go_ret
      exact ⟨g, n, c, z, rfl, by omega, HN.out, HV.out, HB.out, hts.out⟩
end Go.Proofs.YtoobncgmcnmgjaaGreatDoor
