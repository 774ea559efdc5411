/-
  Texts that the proof leans on, joined: Fm, Fp, Shr, Fq, Fs.
-/
import Derived.Test.YtogfiipmebgnjaaGreatDoorJ37
import Derived.Test.YtogfiipmebgnjaaGreatDoorJ38
import Derived.Test.YtogfiipmebgnjaaGreatDoorJ1
import Derived.Shelf.Strings.Trim
import Derived.Shelf.Strings.Repeat
import Derived.Test.YtogfiipmebgnjaaGreatDoorProg
import Derived.Test.YtogfiipmebgnjaaGreatDoorJ34
set_option linter.unusedVariables false
set_option linter.unusedSectionVars false
set_option linter.unusedSimpArgs false
namespace Go.Proofs.YtogfiipmebgnjaaGreatDoor
open Go.RowKit

theorem five_31 {m q : Nat} (hm : m ≤ 31 * q) : 5 ^ m ≤ 2 ^ (72 * q) := by
  have a1 : 5 ^ m ≤ 5 ^ (31 * q) := Nat.pow_le_pow_right (by decide) hm
  have a2 : (5 : Nat) ^ (31 * q) ≤ 2 ^ (72 * q) := by
    rw [Nat.pow_mul, Nat.pow_mul 2]
    exact Nat.pow_le_pow_left (by decide) _
  exact Nat.le_trans a1 a2
theorem ten_28 {m q : Nat} (hm : m ≤ 93 * q) : 2 ^ m ≤ 10 ^ (28 * q) := by
  have a1 : 2 ^ m ≤ 2 ^ (93 * q) := Nat.pow_le_pow_right (by decide) hm
  have a2 : (2 : Nat) ^ (93 * q) ≤ 10 ^ (28 * q) := by
    rw [Nat.pow_mul, Nat.pow_mul 10]
    exact Nat.pow_le_pow_left (by decide) _
  exact Nat.le_trans a1 a2
theorem ten_59 : ∀ r, r < 59 → 10 ^ r ≤ 2 ^ (r * 3322 / 1000 + 1) := by decide
/-- the digits that are guessed are never too many -/
theorem sz_low {m c : Nat} (hc : c * 100000 ≤ m * 30103) (hm : m ≤ 52000) : 10 ^ c ≤ 10 * 2 ^ m := by
  obtain ⟨q, r, hr, hq⟩ : ∃ q r, r < 59 ∧ c = 59 * q + r := ⟨c / 59, c % 59, Nat.mod_lt _ (by decide), (Nat.div_add_mod c 59).symm⟩
  have h1 : 10 ^ c = (10 ^ 59) ^ q * 10 ^ r := by rw [hq, Nat.pow_add, Nat.pow_mul]
  have h2 : ((10 : Nat) ^ 59) ^ q ≤ 2 ^ (196 * q) := by rw [Nat.pow_mul]; exact Nat.pow_le_pow_left (by decide) _
  have h3 := ten_59 r hr
  have h4 : 196 * q + (r * 3322 / 1000 + 1) ≤ m + 3 := by omega
  calc 10 ^ c = (10 ^ 59) ^ q * 10 ^ r := h1
    _ ≤ 2 ^ (196 * q) * 2 ^ (r * 3322 / 1000 + 1) := Nat.mul_le_mul h2 h3
    _ = 2 ^ (196 * q + (r * 3322 / 1000 + 1)) := (Nat.pow_add _ _ _).symm
    _ ≤ 2 ^ (m + 3) := Nat.pow_le_pow_right (by decide) h4
    _ = 2 ^ m * 8 := by rw [Nat.pow_add]
    _ ≤ 10 * 2 ^ m := by omega
/-- a number of a format, as a natural one, is not longer than this -/
theorem ex_short {k : Nat} {x : Int} (hk : k < 2 ^ 256) (hx : -16990 ≤ x ∧ x ≤ 16990) : bl (exX k x) ≤ 39785 := by
  have hbk : bl k ≤ 256 := bl_le.2 hk
  unfold exX
  split
  · have b1 := bl_mul k (2 ^ x.toNat)
    have b2 := two_bl x.toNat
    omega
  · have b1 := bl_mul k (5 ^ (-x).toNat)
    obtain ⟨q, hq⟩ : ∃ q : Nat, q = 549 := ⟨_, rfl⟩
    have b2 : bl (5 ^ (-x).toNat) ≤ 72 * q + 1 := bl_le.2 (Nat.lt_of_le_of_lt (five_31 (m := (-x).toNat) (q := q) (by omega)) (Nat.pow_lt_pow_succ (by decide)))
    omega
/-- as many digits as it has -/
theorem dcW_bd {X : Nat} (h0 : X ≠ 0) : 1 ≤ (dcW X).length ∧ 10 ^ ((dcW X).length - 1) ≤ X ∧ X < 10 ^ (dcW X).length := by
  obtain ⟨d1, d2⟩ := dcW_facts X
  have hne := dcW_ne h0
  have hlt := (dV_lt (gdD_all d1)).1
  rcases d1 with h | ⟨h, hh⟩
  · exact absurd h hne
  have hge := dV_ge (isd_all h) hh hne
  rw [d2] at hlt hge
  refine ⟨?_, hge, hlt⟩
  rcases Nat.eq_zero_or_pos (dcW X).length with h | h
  · exact absurd (List.eq_nil_of_length_eq_zero h) hne
  · exact h
theorem dcW_most {X : Nat} (h0 : X ≠ 0) (hb : bl X ≤ 39785) : (dcW X).length ≤ 11984 := by
  obtain ⟨h1, h2, h3⟩ := dcW_bd h0
  have h4 : X < 2 ^ bl X := bl_le.1 (Nat.le_refl _)
  obtain ⟨q, hq⟩ : ∃ q : Nat, q = 428 := ⟨_, rfl⟩
  have h5 := ten_28 (m := bl X) (q := q) (by omega)
  have h6 : 10 ^ ((dcW X).length - 1) < 10 ^ (28 * q) := Nat.lt_of_le_of_lt h2 (Nat.lt_of_lt_of_le h4 h5)
  have := (Nat.pow_lt_pow_iff_right (by decide : 1 < 10)).1 h6
  omega
/-- the guessed digits, against those that it has -/
theorem sz_guess {X : Nat} (h0 : X ≠ 0) (hb : bl X ≤ 39785) : (bl X - 1) * 30103 / 100000 ≤ (dcW X).length := by
  obtain ⟨h1, h2, h3⟩ := dcW_bd h0
  have h4 : 2 ^ (bl X - 1) ≤ X := by
    have : bl X ≠ 0 := fun e => h0 (bl_zero.1 e)
    exact bl_ge.1 (by omega)
  have h5 := sz_low (m := bl X - 1) (c := (bl X - 1) * 30103 / 100000) (Nat.div_mul_le_self _ _) (by omega)
  have h6 : 10 ^ ((bl X - 1) * 30103 / 100000) < 10 ^ ((dcW X).length + 1) := by
    rw [Nat.pow_succ]
    omega
  have := (Nat.pow_lt_pow_iff_right (by decide : 1 < 10)).1 h6
  omega
/-- fractions that are alike are rounded alike -/
theorem wh_cross (d : Int) (s : Bool) {A B N U : Nat} (hB : 0 < B) (hU : 0 < U) (h : N * B = U * A) : whC d s A B = whC d s N U ∧ (A % B = 0 ↔ N % U = 0) := by
  have sc : ∀ (A B c : Nat), 0 < c → whC d s (A * c) (B * c) = whC d s A B ∧ (A * c % (B * c) = 0 ↔ A % B = 0) := fun A B c hc => by
    have e1 : A * c / (B * c) = A / B := Nat.mul_div_mul_right _ _ hc
    have e2 : A * c % (B * c) = A % B * c := Nat.mul_mod_mul_right _ _ _
    refine ⟨?_, ?_⟩
    · unfold whC
      rw [e1, e2, fa_sc d s _ _ _ c hc]
    · rw [e2]
      refine ⟨fun h => ?_, fun h => by rw [h, Nat.zero_mul]⟩
      rcases Nat.mul_eq_zero.1 h with h | h
      · exact h
      · omega
  have s1 := sc A B U hU
  have s2 := sc N U B hB
  rw [show A * U = N * B by rw [h, Nat.mul_comm], show B * U = U * B from Nat.mul_comm _ _] at s1
  exact ⟨s1.1.symm.trans s2.1, s1.2.symm.trans s2.2⟩
/-- digits cut off, or noughts set behind -/
def cuN (k : Nat) (x : Int) (m : Nat) : Nat := exX k x * 10 ^ (-((dcW (exX k x)).length - (m : Int))).toNat
def cuU (k : Nat) (x : Int) (m : Nat) : Nat := 10 ^ ((dcW (exX k x)).length - (m : Int)).toNat
def cuE (k : Nat) (x : Int) : Int := exA x + (dcW (exX k x)).length - 1
theorem cuU_pos (k : Nat) (x : Int) (m : Nat) : 0 < cuU k x m := Nat.pow_pos (by decide)
theorem cu_top {k : Nat} (hk : k ≠ 0) (x : Int) : tnP k x (cuE k x) ∧ ¬ tnP k x (cuE k x + 1) := by
  obtain ⟨h1, h2, h3⟩ := dcW_bd (ex_ne hk x)
  exact fx_top (ex_val k x) h1 h2 h3
theorem cu_cross (k : Nat) (x : Int) (m : Nat) : cuN k x m * fxB x (cuE k x - m + 1) = cuU k x m * fxA k x (cuE k x - m + 1) := by
  have hv := ex_val k x
  unfold cuN cuU cuE
  generalize exX k x = X at *
  generalize exA x = e at *
  generalize (dcW X).length = L at *
  rcases Nat.le_total m L with h | h
  · have s := fx_shift k x (e + L - 1 - m + 1) (L - m)
    rw [show e + (L : Int) - 1 - m + 1 - ((L - m : Nat) : Int) = e by omega, hv] at s
    rw [show (-((L : Int) - m)).toNat = 0 by omega, Nat.pow_zero, Nat.mul_one, show ((L : Int) - m).toNat = L - m by omega]
    refine Nat.eq_of_mul_eq_mul_right (fxB_pos x e) ?_
    rw [← s]
    grind
  · have s := fx_more hv (m - L)
    rw [show e - ((m - L : Nat) : Int) = e + (L : Int) - 1 - m + 1 by omega] at s
    rw [show (-((L : Int) - m)).toNat = m - L by omega, show ((L : Int) - m).toNat = 0 by omega, Nat.pow_zero, Nat.one_mul, s]
theorem cu_whole (d : Int) (s : Bool) (k : Nat) (x : Int) (m : Nat) : fxC d s k x (cuE k x) m = whC d s (cuN k x m) (cuU k x m) ∧ fxI k x (cuE k x) m = !decide (cuN k x m % cuU k x m = 0) := by
  obtain ⟨h1, h2⟩ := wh_cross d s (fxB_pos x (cuE k x - m + 1)) (cuU_pos k x m) (cu_cross k x m)
  refine ⟨h1, ?_⟩
  unfold fxI
  by_cases h : cuN k x m % cuU k x m = 0
  · rw [decide_eq_true h, decide_eq_true (h2.2 h)]
  · rw [decide_eq_false h, decide_eq_false (fun e => h (h2.1 e))]
end Go.Proofs.YtogfiipmebgnjaaGreatDoor

set_option maxRecDepth 20000
namespace Go.Proofs.YtogfiipmebgnjaaGreatDoor
open Go.RowKit

attribute [local irreducible] W4 Nz Nt NT
set_option maxHeartbeats 2000000 in
theorem size_w {X L c0 : Nat} {v : Value} {w : World} (b : Int) (hb : 1 ≤ b ∧ b ≤ 100000) (hc0 : (b - 1) * 30103 / 100000 = (c0 : Int)) (hcL : c0 ≤ L) (hL : L ≤ 12000)
    (c66 : ∀ W, Below w.heap.size w W → Calls Tryz.prog 66 #[v] W fun e w' => e = .returned (.int .i64 b) ∧ W = w')
    (c61 : ∀ W, Calls Tryz.prog 61 #[.int .i64 (c0 : Int)] W fun r w' => ∃ v, r = .returned v ∧ NT 2001 (10 ^ c0) v w' ∧ Below W.heap.size W w')
    (c106 : ∀ W u j, j ≤ L → Below w.heap.size w W → NT 2001 (10 ^ j) u W → Calls Tryz.prog 106 #[u, v] W fun e w' => ∃ c, e = .returned (.int .i64 c) ∧ (c ≤ 0 ↔ j < L) ∧ Below W.heap.size W w')
    (c62 : ∀ W u t j, j < L → NT 2001 (10 ^ j) u W → NT 1 10 t W → Calls Tryz.prog 62 #[u, t] W fun r w' => ∃ q, r = .returned (.tuple #[q, .int .i64 0]) ∧ NT 2001 (10 ^ (j + 1)) q w' ∧ Below W.heap.size W w') :
    Calls Tryz.prog 60 #[v] w fun r w' => r = .returned (.int .i64 (L : Int)) ∧ Below w.heap.size w w' := by
  have hb1 : 0 ≤ (b - 1) * 30103 := by omega
  have hb2 : (b - 1) * 30103 ≤ 3010300000 := by omega
  have ht : ((b - 1) * 30103).tdiv 100000 = (c0 : Int) := by rw [Int.tdiv_eq_ediv_of_nonneg hb1]; exact hc0
  have hcb : (c0 : Int) ≤ 12000 := by omega
  have HL : Hid (c0 ≤ L ∧ L ≤ 12000) := ⟨hcL, hL⟩
  clear hcL hL
  go_enter Tryz.func60, Tryz.ntmps60
  go_wp2_with (first
    | (go_at_call 66; refine (c66 _ bgo).mono ?_; rintro e w1 ⟨rfl, rfl⟩)
    | (go_at_call 61; refine (c61 _).mono ?_; rintro r w2 ⟨v2, rfl, hv2, hb2⟩))
  clear c66 c61 ht
  go_loopw [3, 4, 12, 13, 14, 15, 16, 17, 18, 19, 20, 21, 22, 23] (fun t3 t4 _ _ _ _ _ _ _ _ _ _ _ _ wr => ∃ (j : Nat), j ≤ L ∧ t3 = .int .i64 (j : Int) ∧ NT 2001 (10 ^ j) t4 wr ∧ Below w.heap.size w wr) (fun t3 _ _ _ _ _ _ _ _ _ _ _ _ _ _ => L - (intOf t3).toNat)
  case atStart => exact ⟨c0, HL.out.1, rfl, hv2, hb2⟩
  case round =>
    obtain ⟨j, hj, rfl, hv, hB⟩ := hrel
    have hjb : (j : Int) ≤ 12000 := by have := HL.out.2; omega
    by_cases h4 : j < L
    · go_wp2_with (first
        | (go_at_call 106; refine (c106 _ _ j hj hB hv).mono ?_; rintro e w5 ⟨c5, rfl, hc5, hb5⟩; replace hc5 := hc5.2 h4; have hB5 := bnx hB hb5; replace hv := hv.next hb5)
        | (go_at_call 62; refine (c62 _ _ _ j h4 (hv.next (below1 _ _)) (nt_un1 (by simp) rfl (by decide) (by decide))).mono ?_; rintro e w6 ⟨v6, rfl, hv6, hb6⟩; have hB6 := bnx (bnx hB5 (below1 _ _)) hb6))
      go_roundw
      case rel => exact ⟨j + 1, h4, by go_num, hv6, hB6⟩
      case measure => simp [intOf]; omega
    · have hjL : j = L := by omega
      subst hjL
      go_wp2_with (go_at_call 106; refine (c106 _ _ j hj hB hv).mono ?_; rintro e w5 ⟨c5, rfl, hc5, hb5⟩; replace hc5 : ¬ c5 ≤ 0 := fun h => absurd (hc5.1 h) (by omega); have hB5 := bnx hB hb5)
      go_ret
      exact ⟨rfl, hB5⟩
/-- how many digits a number has -/
theorem size_v {X : Nat} {v : Value} {w : World} (h0 : X ≠ 0) (hb : bl X ≤ 39785) (h : NT 2001 X v w) : Calls Tryz.prog 60 #[v] w fun r w' => r = .returned (.int .i64 ((dcW X).length : Int)) ∧ Below w.heap.size w w' := by
  obtain ⟨h1, h2, h3⟩ := dcW_bd h0
  have hmost := dcW_most h0 hb
  have hg := sz_guess h0 hb
  have hbp : bl X ≠ 0 := fun e => h0 (bl_zero.1 e)
  have hbt : ∀ j, j ≤ 12000 → bl (10 ^ j) ≤ 4 * j + 1 := fun j hj => bl_le.2 (by
    have a1 : 10 ^ j ≤ (2 ^ 4) ^ j := Nat.pow_le_pow_left (by decide) _
    rw [← Nat.pow_mul] at a1
    exact Nat.lt_of_le_of_lt a1 (Nat.pow_lt_pow_succ (by decide)))
  refine size_w (X := X) (c0 := (bl X - 1) * 30103 / 100000) (bl X : Int) (by omega) (by omega) hg (by omega) (fun W hW => nlen_v (by decide) (h.nt.next hW)) (fun W => ten_v _ W (by omega)) (fun W u j hj hW hu => ?_) (fun W u t j hj hu ht => ?_)
  · refine (ncmp_v (by decide) (by decide) hu.nt (h.nt.next hW)).mono fun e w' ⟨e1, e2⟩ => ⟨_, e1, ?_, e2⟩
    rcases Nat.lt_or_ge j (dcW X).length with hl | hl
    · have : 10 ^ j ≤ X := Nat.le_trans (Nat.pow_le_pow_right (by decide) (by omega)) h2
      refine ⟨fun _ => hl, fun _ => ?_⟩
      rcases sgn_ways ((10 ^ j : Nat) : Int) (X : Int) with ⟨a, e⟩ | ⟨a, e⟩ | ⟨a, e⟩ <;> omega
    · have ej : j = (dcW X).length := by omega
      rw [← ej] at h3
      refine ⟨fun hc => ?_, fun hc => absurd hc (by omega)⟩
      rcases sgn_ways ((10 ^ j : Nat) : Int) (X : Int) with ⟨a, e⟩ | ⟨a, e⟩ | ⟨a, e⟩ <;> omega
  · have b1 := hbt j (by omega)
    have b2 : bl 10 ≤ 4 := bl_small (by decide)
    have := nmul_w (by decide) (by decide) hu.nt ht.nt (show bl (10 ^ j) + bl 10 ≤ 127000 by omega)
    rw [← Nat.pow_succ] at this
    exact this
end Go.Proofs.YtogfiipmebgnjaaGreatDoor

namespace Go.Proofs
open Go.Shelf Go.RowKit
def Tryz.lays162_ren : Go.Shelf.Ren := ⟨fun | 162 => 35 | 232 => 84 | 227 => 85 | 234 => 86 | 236 => 87 | 228 => 124 | 271 => 125 | 151 => 126 | 120 => 144 | 197 => 145 | 152 => 146 | 260 => 159 | 137 => 160 | 119 => 161 | 224 => 162 | 225 => 163 | 217 => 169 | 266 => 172 | n => n, fun | 9 => 9 | 4 => 4 | 3 => 3 | 5 => 5 | 117 => 121 | 116 => 120 | 0 => 0 | 124 => 124 | 21 => 21 | 105 => 164 | 46 => 108 | 119 => 201 | 139 => 204 | 138 => 203 | n => n, fun | 3 => 5 | 4 => 6 | n => n⟩
theorem Tryz.lays162 : Go.Proofs.Lays.n162 Tryz.prog Tryz.lays162_ren := {
  mixed := by kernel_rfl
  f119 := Tryz.func161.trans (congrArg some (by kernel_rfl))
  f120 := Tryz.func144.trans (congrArg some (by kernel_rfl))
  f137 := Tryz.func160.trans (congrArg some (by kernel_rfl))
  f151 := Tryz.func126.trans (congrArg some (by kernel_rfl))
  f152 := Tryz.func146.trans (congrArg some (by kernel_rfl))
  f162 := Tryz.func35.trans (congrArg some (by kernel_rfl))
  f197 := Tryz.func145.trans (congrArg some (by kernel_rfl))
  f217 := Tryz.func169.trans (congrArg some (by kernel_rfl))
  f224 := Tryz.func162.trans (congrArg some (by kernel_rfl))
  f225 := Tryz.func163.trans (congrArg some (by kernel_rfl))
  f227 := Tryz.func85.trans (congrArg some (by kernel_rfl))
  f228 := Tryz.func124.trans (congrArg some (by kernel_rfl))
  f232 := Tryz.func84.trans (congrArg some (by kernel_rfl))
  f234 := Tryz.func86.trans (congrArg some (by kernel_rfl))
  f236 := Tryz.func87.trans (congrArg some (by kernel_rfl))
  f260 := Tryz.func159.trans (congrArg some (by kernel_rfl))
  f266 := Tryz.func172.trans (congrArg some (by kernel_rfl))
  f271 := Tryz.func125.trans (congrArg some (by kernel_rfl))
  t0 := Tryz.underlying0
  a0 := Tryz.isAgg0
  z0 := Tryz.sizeOf0
  v0 := Tryz.zeroValue0
  t3 := Tryz.underlying3
  a3 := Tryz.isAgg3
  z3 := Tryz.sizeOf3
  v3 := Tryz.zeroValue3
  t4 := Tryz.underlying4
  a4 := Tryz.isAgg4
  z4 := Tryz.sizeOf4
  v4 := Tryz.zeroValue4
  t5 := Tryz.underlying5
  a5 := Tryz.isAgg5
  z5 := Tryz.sizeOf5
  v5 := Tryz.zeroValue5
  t9 := Tryz.underlying9
  a9 := Tryz.isAgg9
  z9 := Tryz.sizeOf9
  v9 := Tryz.zeroValue9
  t21 := Tryz.underlying21
  a21 := Tryz.isAgg21
  z21 := Tryz.sizeOf21
  v21 := Tryz.zeroValue21
  t46 := Tryz.underlying108
  a46 := Tryz.isAgg108
  z46 := Tryz.sizeOf108
  v46 := Tryz.zeroValue108
  t105 := Tryz.underlying164
  a105 := Tryz.isAgg164
  z105 := Tryz.sizeOf164
  v105 := Tryz.zeroValue164
  t116 := Tryz.underlying120
  a116 := Tryz.isAgg120
  z116 := Tryz.sizeOf120
  t117 := Tryz.underlying121
  a117 := Tryz.isAgg121
  z117 := Tryz.sizeOf121
  v117 := Tryz.zeroValue121
  t119 := Tryz.underlying201
  a119 := Tryz.isAgg201
  z119 := Tryz.sizeOf201
  t124 := Tryz.underlying124
  a124 := Tryz.isAgg124
  z124 := Tryz.sizeOf124
  v124 := Tryz.zeroValue124
  t138 := Tryz.underlying203
  a138 := Tryz.isAgg203
  z138 := Tryz.sizeOf203
  v138 := Tryz.zeroValue203
  t139 := Tryz.underlying204
  a139 := Tryz.isAgg204
  z139 := Tryz.sizeOf204
  v139 := Tryz.zeroValue204
  g3 := by kernel_rfl
  g4 := by kernel_rfl }
theorem Tryz.strings_TrimRight_one (s : ByteArray) (c : UInt8) (hc : c.toNat < 128) (w : World) (hs : s.size ≤ 9223372036854775807) :
    Calls Tryz.prog 35 #[.string s, .string ⟨#[c]⟩] w fun e w' => e = .returned (.string ⟨(Lib.trimRightB s.data.toList c).toArray⟩) ∧ w' = w := Any.strings_TrimRight_one Tryz.lays162 s c hc w hs
def Tryz.lays105_ren : Go.Shelf.Ren := ⟨fun | 105 => 59 | 212 => 100 | 99 => 101 | 165 => 102 | 166 => 103 | 170 => 104 | 169 => 105 | 263 => 130 | 264 => 46 | 206 => 131 | 240 => 132 | 241 => 133 | 276 => 151 | 277 => 152 | n => n, fun | 9 => 9 | 3 => 3 | 4 => 4 | 20 => 20 | 0 => 0 | 46 => 108 | 109 => 135 | 5 => 5 | 72 => 140 | 76 => 144 | 51 => 171 | 146 => 172 | 53 => 22 | 148 => 80 | 70 => 138 | 37 => 110 | 75 => 143 | 127 => 174 | 164 => 188 | 80 => 147 | n => n, fun | n => n⟩
theorem Tryz.lays105 : Go.Proofs.Lays.n105 Tryz.prog Tryz.lays105_ren := {
  mixed := by kernel_rfl
  f99 := Tryz.func101.trans (congrArg some (by kernel_rfl))
  f105 := Tryz.func59.trans (congrArg some (by kernel_rfl))
  f165 := Tryz.func102.trans (congrArg some (by kernel_rfl))
  f166 := Tryz.func103.trans (congrArg some (by kernel_rfl))
  f169 := Tryz.func105.trans (congrArg some (by kernel_rfl))
  f170 := Tryz.func104.trans (congrArg some (by kernel_rfl))
  f206 := Tryz.func131.trans (congrArg some (by kernel_rfl))
  f212 := Tryz.func100.trans (congrArg some (by kernel_rfl))
  f240 := Tryz.func132.trans (congrArg some (by kernel_rfl))
  f241 := Tryz.func133.trans (congrArg some (by kernel_rfl))
  f263 := Tryz.func130.trans (congrArg some (by kernel_rfl))
  f264 := Tryz.func46.trans (congrArg some (by kernel_rfl))
  f276 := Tryz.func151.trans (congrArg some (by kernel_rfl))
  f277 := Tryz.func152.trans (congrArg some (by kernel_rfl))
  t0 := Tryz.underlying0
  a0 := Tryz.isAgg0
  z0 := Tryz.sizeOf0
  v0 := Tryz.zeroValue0
  t3 := Tryz.underlying3
  a3 := Tryz.isAgg3
  z3 := Tryz.sizeOf3
  v3 := Tryz.zeroValue3
  t4 := Tryz.underlying4
  a4 := Tryz.isAgg4
  z4 := Tryz.sizeOf4
  v4 := Tryz.zeroValue4
  t5 := Tryz.underlying5
  a5 := Tryz.isAgg5
  z5 := Tryz.sizeOf5
  v5 := Tryz.zeroValue5
  t9 := Tryz.underlying9
  a9 := Tryz.isAgg9
  z9 := Tryz.sizeOf9
  v9 := Tryz.zeroValue9
  t20 := Tryz.underlying20
  a20 := Tryz.isAgg20
  z20 := Tryz.sizeOf20
  v20 := Tryz.zeroValue20
  t37 := Tryz.underlying110
  a37 := Tryz.isAgg110
  z37 := Tryz.sizeOf110
  v37 := Tryz.zeroValue110
  t46 := Tryz.underlying108
  a46 := Tryz.isAgg108
  z46 := Tryz.sizeOf108
  v46 := Tryz.zeroValue108
  t51 := Tryz.underlying171
  a51 := Tryz.isAgg171
  z51 := Tryz.sizeOf171
  v51 := Tryz.zeroValue171
  t53 := Tryz.underlying22
  a53 := Tryz.isAgg22
  z53 := Tryz.sizeOf22
  v53 := Tryz.zeroValue22
  t70 := Tryz.underlying138
  a70 := Tryz.isAgg138
  z70 := Tryz.sizeOf138
  v70 := Tryz.zeroValue138
  t72 := Tryz.underlying140
  a72 := Tryz.isAgg140
  z72 := Tryz.sizeOf140
  v72 := Tryz.zeroValue140
  t75 := Tryz.underlying143
  a75 := Tryz.isAgg143
  z75 := Tryz.sizeOf143
  v75 := Tryz.zeroValue143
  t76 := Tryz.underlying144
  a76 := Tryz.isAgg144
  z76 := Tryz.sizeOf144
  v76 := Tryz.zeroValue144
  t109 := Tryz.underlying135
  a109 := Tryz.isAgg135
  z109 := Tryz.sizeOf135
  v109 := Tryz.zeroValue135
  t127 := Tryz.underlying174
  a127 := Tryz.isAgg174
  z127 := Tryz.sizeOf174
  v127 := Tryz.zeroValue174
  t146 := Tryz.underlying172
  a146 := Tryz.isAgg172
  z146 := Tryz.sizeOf172
  v146 := Tryz.zeroValue172
  t148 := Tryz.underlying80
  a148 := Tryz.isAgg80
  z148 := Tryz.sizeOf80
  v148 := Tryz.zeroValue80
  t164 := Tryz.underlying188
  a164 := Tryz.isAgg188
  z164 := Tryz.sizeOf188
  v164 := Tryz.zeroValue188 }
theorem Tryz.Builder_Extra_105 : Builder.Extra Tryz.prog Tryz.lays105_ren := {
  sizeBuilder := by kernel_rfl
  liesBuilder := by kernel_rfl
  t5 := Tryz.underlying5
  a5 := Tryz.isAgg5
  z5 := Tryz.sizeOf5
  v5 := Tryz.zeroValue5
  infoByte := by kernel_rfl
  cellsByte := by kernel_rfl
  sizeByte := by kernel_rfl
  neB5 := by decide }
theorem Tryz.strings_Repeat (s : ByteArray) (c : Nat) (w : World) (hc : c ≤ 9223372036854775807) (hlen : s.size * c ≤ 140737488355328) :
    Calls Tryz.prog 59 #[.string s, .int .i64 c] w fun e w' => e = .returned (.string ⟨(Lib.repeatL s.data.toList c).toArray⟩) ∧ Below w.heap.size w w' := Any.strings_Repeat Tryz.lays105 Tryz.Builder_Extra_105 s c w hc hlen
end Go.Proofs

namespace Go.Proofs.YtogfiipmebgnjaaGreatDoor
open Go.RowKit

/-- nat.Digits, of any number that is not too long -/
theorem ndig_nW {K X : Nat} {v : Value} {w : World} (hK : K < 100000) (hX : bl X ≤ 128000) (h0 : X ≠ 0) (h : Nt K X v w) : Calls Tryz.prog 34 #[v] w fun r w' => r = .returned (.tuple #[.string (B (dcW X)), .int .i64 0]) ∧ Below w.heap.size w w' := by
  obtain ⟨a, n, c, z, rfl, hn, hN, hv⟩ := h
  have hs : sizeL z n ≤ 2000 := (size_bl hN.2.2.1 hv).2 hX
  unfold dcW
  rw [if_neg h0]
  have hX0 : (0 : Int) < X := by omega
  have hL : (X : Int) < 10 ^ bl X := by
    have h1 := (bl_bd h0).2.1
    have h2 := Nat.pow_le_pow_left (show 2 ≤ 10 by decide) (bl X)
    have h3 : X < 10 ^ bl X := by omega
    exact_mod_cast h3
  refine (ndigits_any a n c z w (by omega) hN hs).mono fun r w' ⟨L, hL', he, hB⟩ => ⟨?_, hB⟩
  rw [hv] at hL' he
  rw [he, decL_more (Int.le_of_lt hX0) hL' hL, ← decL_rev hX0 hL]
  show _ = Ending.returned (.tuple #[.string (B (dcD X (bl X))), .int .i64 0])
  unfold dcD
  rw [B_of]
/-- the lowest word of a number that isn't 0 -/
theorem nz_low {K V : Nat} {v : Value} {w : World} (h : Nz K V v w) (h0 : V ≠ 0) : ∃ b off k cap z0, v = .slice (some ⟨b, off, none⟩) k cap ∧ (0 : Int) < (k : Int) ∧ b < w.heap.size ∧ w.cell? ⟨b, off, none⟩ = some (.int .u64 z0) ∧ (0 ≤ z0 ∧ z0 ≤ 18446744073709551615) ∧ (bits BinOp.and IntKind.u64 z0 1 == 1) = decide (V % 2 = 1) := by
  obtain ⟨a, k, cap, z, rfl, hk, hN, hv, hs⟩ := h
  have hk0 : 0 < k := by
    rcases Nat.eq_zero_or_pos k with h | h
    · subst h
      have e : val z 0 = 0 := rfl
      omega
    · exact h
  have hz := hN.2.2.1
  have hz0 := hz 0
  obtain ⟨n1, n2, n3, n4, n5⟩ := hN
  rcases n5 with ⟨_, n6⟩ | ⟨b, off, rfl, n7, n8⟩
  · omega
  · have hc0 := n8 0 hk0
    rw [Nat.add_zero] at hc0
    refine ⟨b, off, k, cap, z 0, rfl, by omega, n7, hc0, hz0, ?_⟩
    rw [show (1 : Int) = 2 ^ 1 - 1 by decide, and_mask hz0 (by decide)]
    obtain ⟨k', rfl⟩ : ∃ k', k = 1 + k' := ⟨k - 1, by omega⟩
    have hs := val_split z 1 k'
    rw [hv] at hs
    have h10 : val z 1 = z 0 := by show val z 0 + z 0 * 18446744073709551616 ^ 0 = z 0; simp [val]
    rw [h10, Int.pow_one] at hs
    rcases Nat.mod_two_eq_zero_or_one V with e | e
    · rw [decide_eq_false (by omega)]
      rw [beq_eq_false_iff_ne]; omega
    · rw [decide_eq_true e]
      rw [beq_iff_eq]; omega
theorem repL_48 : ∀ m, Lib.repeatL [48] m = List.replicate m (48 : UInt8)
  | 0 => rfl
  | m + 1 => by rw [List.replicate_succ, ← repL_48 m]; rfl
theorem rep48_B (m : Nat) (hm : m ≤ 100000) (w : World) : Calls Tryz.prog 59 #[.string ⟨#[48]⟩, .int .i64 (m : Int)] w fun r w' => r = .returned (.string (B (List.replicate m 48))) ∧ Below w.heap.size w w' := by
  refine (Tryz.strings_Repeat ⟨#[48]⟩ m w (by omega) (by show 1 * m ≤ _; omega)).mono fun r w' ⟨h1, h2⟩ => ⟨?_, h2⟩
  rw [h1]
  show Ending.returned (Value.string ⟨(Lib.repeatL [48] m).toArray⟩) = _
  rw [repL_48]
  rfl
attribute [local irreducible] W4 Nz Nt NT
section
variable (d : Int) (m : Nat) (c : Int) (s g : Bool) (x : Int) (k : Nat) (w : World) (hm : 1 ≤ m ∧ m ≤ 800)
include hm
set_option maxHeartbeats 2000000 in
theorem sig_0 (c32 : ∀ W, Calls Tryz.prog 32 #[DV c s g x k] W fun r w' => r = .returned (.bool true) ∧ Below W.heap.size W w') :
    Calls Tryz.prog 25 #[.int .i64 d, .int .i64 (m : Int), DV c s g x k] w fun r w' => r = .returned (.tuple #[.string (B (List.replicate m 48)), .int .i64 0, .bool true]) ∧ Below w.heap.size w w' := by
  have c59 := fun W => rep48_B m (by omega) W
  have hsm := cell_set_map
  unfold DV at *
  go_enter Tryz.func25, Tryz.ntmps25
  go_wp2_with (first
    | (go_at_call 32; refine (c32 _).mono ?_; rintro r w1 ⟨rfl, hb1⟩; obtain ⟨hc1, hf1⟩ := bcell hb1; have hz1_0 : w.heap.size < w1.heap.size := lt_below hb1 ltg; have hl1_0 := Nat.le_of_lt hz1_0; have hA1 := bnext (w0 := w) bgo hb1; have hs1 := hA1.size; clear hb1)
    | (go_at_call 59; refine (c59 _).mono ?_; rintro r w2 ⟨rfl, hb2⟩; obtain ⟨hc2, hf2⟩ := bcell hb2; have hz2_0 : w.heap.size < w2.heap.size := lt_below hb2 ltg; have hl2_0 := Nat.le_of_lt hz2_0; have hA2 := bnext (w0 := w) bgo hb2; have hs2 := hA2.size; clear hb2))
  exact bodyPost_ret (v := .tuple #[.string (B (List.replicate m 48)), .int .i64 0, .bool true]) (by simp only [results, Tryz.results25]; go_simp) rfl ⟨rfl, bgo⟩
variable (X N U Sc Q R C : Nat) (L E : Int) (D D' : List UInt8) (hL : 1 ≤ L ∧ L ≤ 12000) (hE : -17000 ≤ E ∧ E ≤ 17000) (hQ0 : Q ≠ 0)
  (hD : D.length ≤ 1000) (hDm : m ≤ D.length) (hD' : (B D).extract 0 m = B D')
  (c32 : ∀ W, Calls Tryz.prog 32 #[DV c s g x k] W fun r w' => r = .returned (.bool false) ∧ Below W.heap.size W w')
  (c33 : ∀ W, Calls Tryz.prog 33 #[DV c s g x k] W fun r w' => ∃ v, r = .returned (.tuple #[v, .int .i64 E]) ∧ NT 2001 X v w' ∧ Below W.heap.size W w')
  (c60 : ∀ W v, NT 2001 X v W → Calls Tryz.prog 60 #[v] W fun r w' => r = .returned (.int .i64 L) ∧ Below W.heap.size W w')
  (c61 : ∀ W, Calls Tryz.prog 61 #[.int .i64 (max (L - m) 0)] W fun r w' => ∃ v, r = .returned v ∧ NT 2001 U v w' ∧ Below W.heap.size W w')
  (c61' : ∀ W, Calls Tryz.prog 61 #[.int .i64 (max (-(L - m)) 0)] W fun r w' => ∃ v, r = .returned v ∧ NT 2001 Sc v w' ∧ Below W.heap.size W w')
  (c62 : ∀ W v v', NT 2001 X v W → NT 2001 Sc v' W → Calls Tryz.prog 62 #[v, v'] W fun r w' => ∃ q, r = .returned (.tuple #[q, .int .i64 0]) ∧ NT 2001 N q w' ∧ Below W.heap.size W w')
  (c63 : ∀ W v v', NT 2001 N v W → NT 2001 U v' W → Calls Tryz.prog 63 #[v, v'] W fun e w' => ∃ q r, e = .returned (.tuple #[q, r, .int .i64 0]) ∧ Nz 2001 Q q w' ∧ Nz 2001 R r w' ∧ Below W.heap.size W w')
  (c65 : ∀ W q v, Nt 2001 Q q W → Nt 1 1 v W → Calls Tryz.prog 65 #[q, v] W fun e w' => ∃ r, e = .returned r ∧ Nz 2003 (Q + 1) r w' ∧ Below W.heap.size W w')
  (c34 : ∀ W v, Nt 2003 C v W → Calls Tryz.prog 34 #[v] W fun r w' => r = .returned (.tuple #[.string (B D), .int .i64 0]) ∧ Below W.heap.size W w')
  (c66 : ∀ W vr, Nt 2001 R vr W → Calls Tryz.prog 66 #[vr] W fun e w' => e = .returned (.int .i64 (bl R : Int)) ∧ Below W.heap.size W w')
include hL hE hQ0 hD hDm hD' c32 c33 c60 c61 c61' c62 c63 c65 c34 c66
set_option maxHeartbeats 4000000 in
theorem sig_n (hC : C = Q) (c64 : ∀ W vr vu, Nt 2001 R vr W → Nt 2001 U vu W → Calls Tryz.prog 64 #[.int .i64 d, .bool s, .bool (decide (Q % 2 = 1)), vr, vu] W fun e w' => e = .returned (.bool false) ∧ Below W.heap.size W w') :
    Calls Tryz.prog 25 #[.int .i64 d, .int .i64 (m : Int), DV c s g x k] w fun r w' => r = .returned (.tuple #[.string (B D'), .int .i64 (E + (L - m) + D.length - 1), .bool ((bl R : Int) == 0)]) ∧ Below w.heap.size w w' := by
  subst hC
  have hsm := cell_set_map
  have hz : (B D).size = D.length := B_size D
  unfold DV at *
  go_enter Tryz.func25, Tryz.ntmps25
  go_upto_region 8 with (first
    | (go_at_call 32; refine (c32 _).mono ?_; rintro r w1 ⟨rfl, hb1⟩; obtain ⟨hc1, hf1⟩ := bcell hb1; have hz1_0 : w.heap.size < w1.heap.size := lt_below hb1 ltg; have hl1_0 := Nat.le_of_lt hz1_0; have hA1 := bnext (w0 := w) bgo hb1; have hs1 := hA1.size; clear hb1)
    | (go_at_call 33; refine (c33 _).mono ?_; rintro r w2 ⟨v2, rfl, hv2, hb2⟩; obtain ⟨hc2, hf2⟩ := bcell hb2; have hz2_0 : w.heap.size < w2.heap.size := lt_below hb2 ltg; have hl2_0 := Nat.le_of_lt hz2_0; have hA2 := bnext (w0 := w) bgo hb2; have hs2 := hA2.size; clear hb2)
    | (go_at_call 60; refine (c60 _ _ hv2).mono ?_; rintro r w3 ⟨rfl, hb3⟩; have hv3 := hv2.next hb3; obtain ⟨hc3, hf3⟩ := bcell hb3; have hz3_0 : w.heap.size < w3.heap.size := lt_below hb3 ltg; have hl3_0 := Nat.le_of_lt hz3_0; have hA3 := bnext (w0 := w) bgo hb3; have hs3 := hA3.size; clear hb3)
    | (have hh := hv4; go_at_call 61; refine (c61' _).mono ?_; rintro r w5 ⟨v5, rfl, hv5, hb5⟩; have hu5 := hv4.next hb5; have hx5 := hx4.next hb5; obtain ⟨hc5, hf5⟩ := bcell hb5; have hz5_0 : w.heap.size < w5.heap.size := lt_below hb5 ltg; have hl5_0 := Nat.le_of_lt hz5_0; have hA5 := bnext (w0 := w) bgo hb5; have hs5 := hA5.size; clear hb5)
    | (go_at_call 61; refine (c61 _).mono ?_; rintro r w4 ⟨v4, rfl, hv4, hb4⟩; have hx4 := hv3.next hb4; obtain ⟨hc4, hf4⟩ := bcell hb4; have hz4_0 : w.heap.size < w4.heap.size := lt_below hb4 ltg; have hl4_0 := Nat.le_of_lt hz4_0; have hA4 := bnext (w0 := w) bgo hb4; have hs4 := hA4.size; clear hb4)
    | (go_at_call 62; refine (c62 _ _ _ hx5 hv5).mono ?_; rintro r w6 ⟨v6, rfl, hv6, hb6⟩; have hu6 := hu5.next hb6; obtain ⟨hc6, hf6⟩ := bcell hb6; have hz6_0 : w.heap.size < w6.heap.size := lt_below hb6 ltg; have hl6_0 := Nat.le_of_lt hz6_0; have hA6 := bnext (w0 := w) bgo hb6; have hs6 := hA6.size; clear hb6)
    | (go_at_call 63; refine (c63 _ _ _ hv6 hu6).mono ?_; rintro r w7 ⟨q7, r7, rfl, hq7, hr7, hb7⟩; have hu7 := hu6.next hb7; obtain ⟨hc7, hf7⟩ := bcell hb7; have hz7_0 : w.heap.size < w7.heap.size := lt_below hb7 ltg; have hl7_0 := Nat.le_of_lt hz7_0; have hA7 := bnext (w0 := w) bgo hb7; have hs7 := hA7.size; clear hb7))
  clear c32 c33 c60 c61 c61' c62 c63
  obtain ⟨bq, oq, kq, cq, z0, eq7, hkq, hbq, hcq, hz0, hodd⟩ := nz_low hq7 hQ0
  have k1 : w7.cell? ⟨w.heap.size, 1, none⟩ = some (.bool s) := by go_simp
  subst eq7
  refine wp_whole (by kernel_rfl) (by kernel_rfl) fun hne hcell => ?_
  repeat go_big_quiet_step (fail)
  go_big_quiet_step ((go_at_call 64; exact calls_wd _ bk_next (c64 _ _ _ (hr7.nt.next (Wd.h _)) (hu7.nt.next (Wd.h _)))))
  refine wpQuiet_nil fun w8 hb8 => ?_
  have hr8 := hr7.next hb8
  have hq8 := hq7.next hb8
  clear c64 c65 hodd hkq hbq hcq hz0 hne hcell
  generalize Value.slice (some ⟨bq, oq, none⟩) kq cq = vq at *
  obtain ⟨hc8, hf8⟩ := bcell hb8; have hz8_0 : w.heap.size < w8.heap.size := lt_below hb8 ltg; have hl8_0 := Nat.le_of_lt hz8_0; have hA8 := bnext (w0 := w) bgo hb8; have hs8 := hA8.size; clear hb8
  go_upto_region 12 with (go_at_call 34; refine (c34 _ _ (hq8.nt.more (by decide))).mono ?_; rintro r w9 ⟨rfl, hb9⟩; have hr9 := hr8.next hb9; obtain ⟨hc9, hf9⟩ := bcell hb9; have hz9_0 : w.heap.size < w9.heap.size := lt_below hb9 ltg; have hl9_0 := Nat.le_of_lt hz9_0; have hA9 := bnext (w0 := w) bgo hb9; have hs9 := hA9.size; clear hb9)
  refine wp_tail 9 (by kernel_rfl) (by kernel_rfl) (by kernel_rfl) (fun _ _ d _ _ h => by cases d <;> exact h) fun hne hcell => ?_
  simp only [List.take_succ_cons, List.take_zero, List.drop_succ_cons, List.drop_zero]
  repeat go_big_quiet_step (fail)
  go_big_quiet_step ((go_at_call 66; exact calls_wd _ bk_next (c66 _ _ (hr9.nt.next (Wd.h _)))))
  repeat go_big_quiet_step (fail)
  refine wpQuiet_nil fun w10 hb10 => ?_
  obtain ⟨hc10, hf10⟩ := bcell hb10; have hz10_0 : w.heap.size < w10.heap.size := lt_below hb10 ltg; have hl10_0 := Nat.le_of_lt hz10_0; have hA10 := bnext (w0 := w) bgo hb10; have hs10 := hA10.size; clear hb10
  go_wp2
  exact bodyPost_ret (v := .tuple #[.string (B D'), .int .i64 (E + (L - m) + D.length - 1), .bool ((bl R : Int) == 0)]) (by simp only [results, Tryz.results25]; go_simp) rfl ⟨rfl, bgo⟩
set_option maxHeartbeats 4000000 in
theorem sig_y (hC : C = Q + 1) (c64 : ∀ W vr vu, Nt 2001 R vr W → Nt 2001 U vu W → Calls Tryz.prog 64 #[.int .i64 d, .bool s, .bool (decide (Q % 2 = 1)), vr, vu] W fun e w' => e = .returned (.bool true) ∧ Below W.heap.size W w') :
    Calls Tryz.prog 25 #[.int .i64 d, .int .i64 (m : Int), DV c s g x k] w fun r w' => r = .returned (.tuple #[.string (B D'), .int .i64 (E + (L - m) + D.length - 1), .bool ((bl R : Int) == 0)]) ∧ Below w.heap.size w w' := by
  subst hC
  have hsm := cell_set_map
  have hz : (B D).size = D.length := B_size D
  unfold DV at *
  go_enter Tryz.func25, Tryz.ntmps25
  go_upto_region 8 with (first
    | (go_at_call 32; refine (c32 _).mono ?_; rintro r w1 ⟨rfl, hb1⟩; obtain ⟨hc1, hf1⟩ := bcell hb1; have hz1_0 : w.heap.size < w1.heap.size := lt_below hb1 ltg; have hl1_0 := Nat.le_of_lt hz1_0; have hA1 := bnext (w0 := w) bgo hb1; have hs1 := hA1.size; clear hb1)
    | (go_at_call 33; refine (c33 _).mono ?_; rintro r w2 ⟨v2, rfl, hv2, hb2⟩; obtain ⟨hc2, hf2⟩ := bcell hb2; have hz2_0 : w.heap.size < w2.heap.size := lt_below hb2 ltg; have hl2_0 := Nat.le_of_lt hz2_0; have hA2 := bnext (w0 := w) bgo hb2; have hs2 := hA2.size; clear hb2)
    | (go_at_call 60; refine (c60 _ _ hv2).mono ?_; rintro r w3 ⟨rfl, hb3⟩; have hv3 := hv2.next hb3; obtain ⟨hc3, hf3⟩ := bcell hb3; have hz3_0 : w.heap.size < w3.heap.size := lt_below hb3 ltg; have hl3_0 := Nat.le_of_lt hz3_0; have hA3 := bnext (w0 := w) bgo hb3; have hs3 := hA3.size; clear hb3)
    | (have hh := hv4; go_at_call 61; refine (c61' _).mono ?_; rintro r w5 ⟨v5, rfl, hv5, hb5⟩; have hu5 := hv4.next hb5; have hx5 := hx4.next hb5; obtain ⟨hc5, hf5⟩ := bcell hb5; have hz5_0 : w.heap.size < w5.heap.size := lt_below hb5 ltg; have hl5_0 := Nat.le_of_lt hz5_0; have hA5 := bnext (w0 := w) bgo hb5; have hs5 := hA5.size; clear hb5)
    | (go_at_call 61; refine (c61 _).mono ?_; rintro r w4 ⟨v4, rfl, hv4, hb4⟩; have hx4 := hv3.next hb4; obtain ⟨hc4, hf4⟩ := bcell hb4; have hz4_0 : w.heap.size < w4.heap.size := lt_below hb4 ltg; have hl4_0 := Nat.le_of_lt hz4_0; have hA4 := bnext (w0 := w) bgo hb4; have hs4 := hA4.size; clear hb4)
    | (go_at_call 62; refine (c62 _ _ _ hx5 hv5).mono ?_; rintro r w6 ⟨v6, rfl, hv6, hb6⟩; have hu6 := hu5.next hb6; obtain ⟨hc6, hf6⟩ := bcell hb6; have hz6_0 : w.heap.size < w6.heap.size := lt_below hb6 ltg; have hl6_0 := Nat.le_of_lt hz6_0; have hA6 := bnext (w0 := w) bgo hb6; have hs6 := hA6.size; clear hb6)
    | (go_at_call 63; refine (c63 _ _ _ hv6 hu6).mono ?_; rintro r w7 ⟨q7, r7, rfl, hq7, hr7, hb7⟩; have hu7 := hu6.next hb7; obtain ⟨hc7, hf7⟩ := bcell hb7; have hz7_0 : w.heap.size < w7.heap.size := lt_below hb7 ltg; have hl7_0 := Nat.le_of_lt hz7_0; have hA7 := bnext (w0 := w) bgo hb7; have hs7 := hA7.size; clear hb7))
  clear c32 c33 c60 c61 c61' c62 c63
  obtain ⟨bq, oq, kq, cq, z0, eq7, hkq, hbq, hcq, hz0, hodd⟩ := nz_low hq7 hQ0
  have k1 : w7.cell? ⟨w.heap.size, 1, none⟩ = some (.bool s) := by go_simp
  subst eq7
  refine wp_whole (by kernel_rfl) (by kernel_rfl) fun hne hcell => ?_
  repeat go_big_quiet_step (fail)
  go_big_quiet_step ((go_at_call 64; exact calls_wd _ bk_next (c64 _ _ _ (hr7.nt.next (Wd.h _)) (hu7.nt.next (Wd.h _)))))
  refine wpQuiet_nil fun w8 hb8 => ?_
  have hr8 := hr7.next hb8
  have hq8 := hq7.next hb8
  clear c64 hodd hkq hbq hcq hz0 hne hcell
  generalize Value.slice (some ⟨bq, oq, none⟩) kq cq = vq at *
  obtain ⟨hc8, hf8⟩ := bcell hb8; have hz8_0 : w.heap.size < w8.heap.size := lt_below hb8 ltg; have hl8_0 := Nat.le_of_lt hz8_0; have hA8 := bnext (w0 := w) bgo hb8; have hs8 := hA8.size; clear hb8
  go_upto_region 12 with (first
    | (go_at_call 65; refine (c65 _ _ _ (hq8.nt.next (below1 _ _)) (nt_one (by simp) rfl (by decide))).mono ?_; rintro e w9 ⟨v9, rfl, hv9, hb9⟩; have hr9 := (hr8.next (below1 _ _)).next hb9; obtain ⟨hc9, hf9⟩ := bcell hb9; have hz9_0 : w.heap.size < w9.heap.size := lt_below hb9 ltg; have hl9_0 := Nat.le_of_lt hz9_0; have hA9 := bnext (w0 := w) bgo hb9; have hs9 := hA9.size; clear hb9)
    | (go_at_call 34; refine (c34 _ _ hv9.nt).mono ?_; rintro r w11 ⟨rfl, hb11⟩; replace hr9 := hr9.next hb11; obtain ⟨hc11, hf11⟩ := bcell hb11; have hz11_0 : w.heap.size < w11.heap.size := lt_below hb11 ltg; have hl11_0 := Nat.le_of_lt hz11_0; have hA11 := bnext (w0 := w) bgo hb11; have hs11 := hA11.size; clear hb11))
  refine wp_tail 9 (by kernel_rfl) (by kernel_rfl) (by kernel_rfl) (fun _ _ d _ _ h => by cases d <;> exact h) fun hne hcell => ?_
  simp only [List.take_succ_cons, List.take_zero, List.drop_succ_cons, List.drop_zero]
  repeat go_big_quiet_step (fail)
  go_big_quiet_step ((go_at_call 66; exact calls_wd _ bk_next (c66 _ _ (hr9.nt.next (Wd.h _)))))
  repeat go_big_quiet_step (fail)
  refine wpQuiet_nil fun w10 hb10 => ?_
  obtain ⟨hc10, hf10⟩ := bcell hb10; have hz10_0 : w.heap.size < w10.heap.size := lt_below hb10 ltg; have hl10_0 := Nat.le_of_lt hz10_0; have hA10 := bnext (w0 := w) bgo hb10; have hs10 := hA10.size; clear hb10
  go_wp2
  exact bodyPost_ret (v := .tuple #[.string (B D'), .int .i64 (E + (L - m) + D.length - 1), .bool ((bl R : Int) == 0)]) (by simp only [results, Tryz.results25]; go_simp) rfl ⟨rfl, bgo⟩
end
end Go.Proofs.YtogfiipmebgnjaaGreatDoor

namespace Go.Proofs.YtogfiipmebgnjaaGreatDoor
open Go.RowKit

theorem bl_dec (R : Nat) : (((bl R : Nat) : Int) == 0) = decide (R = 0) := by
  by_cases hz : R = 0
  · rw [hz]; rfl
  · rw [decide_eq_false hz, beq_eq_false_iff_ne]
    have := mt bl_zero.1 hz
    omega
/-- so many digits, and the exponent of the first one's place -/
theorem sig_v (d : Int) (m : Nat) (c : Int) (s g : Bool) (x : Int) (k : Nat) (w : World) (hm : 1 ≤ m ∧ m ≤ 800) (hk0 : k ≠ 0) (hk : k < 2 ^ 256) (hx : -16990 ≤ x ∧ x ≤ 16990) :
    Calls Tryz.prog 25 #[.int .i64 d, .int .i64 (m : Int), DV c s g x k] w fun r w' => r = .returned (.tuple #[.string (B (fxD m (fxC d s k x (cuE k x) m))), .int .i64 (fxX m (fxC d s k x (cuE k x) m) (cuE k x - m + 1) + m - 1), .bool (!fxI k x (cuE k x) m)]) ∧ Below w.heap.size w w' := by
  have hX0 := ex_ne hk0 x
  have hXb := ex_short hk hx
  obtain ⟨l1, l2, l3⟩ := dcW_bd hX0
  have lm := dcW_most hX0 hXb
  obtain ⟨t0, t1⟩ := cu_top hk0 x
  obtain ⟨f1, f2⟩ := fx_digits d s t0 t1 hm.1 (a := cuE k x - m + 1) rfl
  obtain ⟨x1, x2, x3⟩ := fx_text hm.1 f1 f2 (cuE k x - m + 1)
  obtain ⟨e1, e2⟩ := cu_whole d s k x m
  change 10 ^ (m - 1) ≤ fxC d s k x (cuE k x) m at f1
  change fxC d s k x (cuE k x) m ≤ 10 ^ m at f2
  change gdD (fxD m (fxC d s k x (cuE k x) m)) at x1
  change (fxD m (fxC d s k x (cuE k x) m)).length = m at x2
  have hU0 := cuU_pos k x m
  have p10b : ∀ j : Nat, bl (10 ^ j) ≤ 4 * j + 1 := fun j => bl_le.2 (by
    have a1 : 10 ^ j ≤ (2 ^ 4) ^ j := Nat.pow_le_pow_left (by decide) _
    rw [← Nat.pow_mul] at a1
    exact Nat.lt_of_le_of_lt a1 (Nat.pow_lt_pow_succ (by decide)))
  have bU : bl (cuU k x m) ≤ 48000 := by
    have := p10b ((dcW (exX k x)).length - (m : Int)).toNat
    unfold cuU
    omega
  have bS := p10b (-((dcW (exX k x)).length - (m : Int))).toNat
  have bN : bl (cuN k x m) ≤ 43000 := by
    have := bl_mul (exX k x) (10 ^ (-((dcW (exX k x)).length - (m : Int))).toNat)
    unfold cuN
    omega
  have hlen : (dcW (fxC d s k x (cuE k x) m)).length = m ∨ (dcW (fxC d s k x (cuE k x) m)).length = m + 1 := by
    rcases Nat.lt_or_ge (fxC d s k x (cuE k x) m) (10 ^ m) with h | h
    · exact Or.inl (dcW_len hm.1 f1 h)
    · right
      rw [show fxC d s k x (cuE k x) m = 10 ^ m by omega, dcW_pow]
      simp
  have hC0 : fxC d s k x (cuE k x) m ≠ 0 := by
    have : 0 < 10 ^ (m - 1) := Nat.pow_pos (by decide)
    omega
  have hbC : bl (fxC d s k x (cuE k x) m) ≤ 4000 := by
    have a1 := p10b m
    have a2 : fxC d s k x (cuE k x) m < 2 ^ (4 * m + 1) := Nat.lt_of_le_of_lt f2 (bl_le.1 a1)
    have := bl_le.2 a2
    omega
  have hQ0 : cuN k x m / cuU k x m ≠ 0 := by
    intro h0
    have hd := wh_near d s (cuN k x m) (cuU k x m)
    rw [← e1, h0] at hd
    obtain ⟨b1, b2⟩ := fx_bounds t0 t1 hm.1 (a := cuE k x - m + 1) rfl
    have hc := cu_cross k x m
    have hlt : cuN k x m < cuU k x m := by
      rcases Nat.lt_or_ge (cuN k x m) (cuU k x m) with h | h
      · exact h
      · have := Nat.div_pos h hU0
        omega
    have hB := fxB_pos x (cuE k x - m + 1)
    have h5 : fxB x (cuE k x - m + 1) ≤ fxA k x (cuE k x - m + 1) := Nat.le_trans (Nat.le_mul_of_pos_left _ (Nat.pow_pos (by decide))) b1
    have h6 : cuU k x m * fxB x (cuE k x - m + 1) ≤ cuU k x m * fxA k x (cuE k x - m + 1) := Nat.mul_le_mul_left _ h5
    rw [← hc] at h6
    have h7 := Nat.le_of_mul_le_mul_right h6 hB
    omega
  have c32 : ∀ W, Calls Tryz.prog 32 #[DV c s g x k] W fun r w' => r = .returned (.bool false) ∧ Below W.heap.size W w' := fun W => by
    have := fnone_v c s g x k W hk
    rw [decide_eq_false hk0] at this
    exact this
  have c61 : ∀ (z : Int), z ≤ 12000 → ∀ W, Calls Tryz.prog 61 #[.int .i64 (max z 0)] W fun r w' => ∃ v, r = .returned v ∧ NT 2001 (10 ^ z.toNat) v w' ∧ Below W.heap.size W w' := fun z hz W => by
    have := ten_v z.toNat W (by omega)
    rw [show ((z.toNat : Nat) : Int) = max z 0 by omega] at this
    exact this
  have hplace : exA x + (((dcW (exX k x)).length : Int) - m) + (dcW (fxC d s k x (cuE k x) m)).length - 1 = fxX m (fxC d s k x (cuE k x) m) (cuE k x - m + 1) + m - 1 := by
    unfold fxX cuE
    rcases hlen with h | h
    · rw [show (dcW (fxC d s k x (exA x + (dcW (exX k x)).length - 1) m)).length = m from h, if_neg (by omega)]
      omega
    · rw [show (dcW (fxC d s k x (exA x + (dcW (exX k x)).length - 1) m)).length = m + 1 from h, if_pos (by omega)]
      omega
  have hex : (((bl (cuN k x m % cuU k x m) : Nat) : Int) == 0) = !fxI k x (cuE k x) m := by
    rw [bl_dec, e2, Bool.not_not]
  have hExt : (B (dcW (fxC d s k x (cuE k x) m))).extract 0 m = B (fxD m (fxC d s k x (cuE k x) m)) := by
    rw [B_ext, List.drop_zero]
    rfl
  have hxA : -17000 ≤ exA x ∧ exA x ≤ 17000 := by unfold exA; split <;> omega
  rw [← hplace, ← hex]
  have c62 : ∀ W v v', NT 2001 (exX k x) v W → NT 2001 (10 ^ (-((dcW (exX k x)).length - (m : Int))).toNat) v' W → Calls Tryz.prog 62 #[v, v'] W fun r w' => ∃ q, r = .returned (.tuple #[q, .int .i64 0]) ∧ NT 2001 (cuN k x m) q w' ∧ Below W.heap.size W w' := fun W v v' h h' => nmul_w (by decide) (by decide) h.nt h'.nt (by omega)
  have c63 : ∀ W v v', NT 2001 (cuN k x m) v W → NT 2001 (cuU k x m) v' W → Calls Tryz.prog 63 #[v, v'] W fun e w' => ∃ q r, e = .returned (.tuple #[q, r, .int .i64 0]) ∧ Nz 2001 (cuN k x m / cuU k x m) q w' ∧ Nz 2001 (cuN k x m % cuU k x m) r w' ∧ Below W.heap.size W w' := fun W v v' h h' => ndiv_v (by decide) (by decide) h.nt h'.nt (by omega) (by omega) (by omega)
  have c64 : ∀ W vr vu, Nt 2001 (cuN k x m % cuU k x m) vr W → Nt 2001 (cuU k x m) vu W → Calls Tryz.prog 64 #[.int .i64 d, .bool s, .bool (decide (cuN k x m / cuU k x m % 2 = 1)), vr, vu] W fun e w' => e = .returned (.bool (faB d s (decide (cuN k x m / cuU k x m % 2 = 1)) (cuN k x m % cuU k x m) (cuU k x m))) ∧ Below W.heap.size W w' := fun W vr vu h h' => farther_v d s _ (by decide) (by decide) h h'
  have c34 : ∀ W v, Nt 2003 (fxC d s k x (cuE k x) m) v W → Calls Tryz.prog 34 #[v] W fun r w' => r = .returned (.tuple #[.string (B (dcW (fxC d s k x (cuE k x) m))), .int .i64 0]) ∧ Below W.heap.size W w' := fun W v h => ndig_nW (by decide) (by omega) hC0 h
  have c66 : ∀ W vr, Nt 2001 (cuN k x m % cuU k x m) vr W → Calls Tryz.prog 66 #[vr] W fun e w' => e = .returned (.int .i64 (bl (cuN k x m % cuU k x m) : Int)) ∧ Below W.heap.size W w' := fun W vr h => (nlen_v (by decide) h).mono fun e w' ⟨h1, h2⟩ => ⟨h1, h2 ▸ Below.refl _ _⟩
  unfold whC at e1
  cases hf : faB d s (decide (cuN k x m / cuU k x m % 2 = 1)) (cuN k x m % cuU k x m) (cuU k x m) with
  | false =>
    rw [hf] at c64 e1
    exact sig_n d m c s g x k w hm (exX k x) (cuN k x m) (cuU k x m) _ (cuN k x m / cuU k x m) (cuN k x m % cuU k x m) (fxC d s k x (cuE k x) m) ((dcW (exX k x)).length : Int) (exA x) (dcW (fxC d s k x (cuE k x) m)) _ (by omega) hxA hQ0 (by omega) (by omega) hExt c32 (fun W => whole_v c s g x k W hk (by omega)) (fun W v h => size_v hX0 hXb h) (c61 _ (by omega)) (c61 _ (by omega)) c62 c63 (fun W q v h h' => nadd_v (by decide) (by decide) h h') c34 c66 e1 c64
  | true =>
    rw [hf] at c64 e1
    exact sig_y d m c s g x k w hm (exX k x) (cuN k x m) (cuU k x m) _ (cuN k x m / cuU k x m) (cuN k x m % cuU k x m) (fxC d s k x (cuE k x) m) ((dcW (exX k x)).length : Int) (exA x) (dcW (fxC d s k x (cuE k x) m)) _ (by omega) hxA hQ0 (by omega) (by omega) hExt c32 (fun W => whole_v c s g x k W hk (by omega)) (fun W v h => size_v hX0 hXb h) (c61 _ (by omega)) (c61 _ (by omega)) c62 c63 (fun W q v h h' => nadd_v (by decide) (by decide) h h') c34 c66 e1 c64
end Go.Proofs.YtogfiipmebgnjaaGreatDoor
