/-
  Texts that the proof leans on.
-/
import Derived.Shelf.Strings.Trim
import Derived.Shelf.Small.Utf8
import Derived.Shelf.Small.Bits
import Derived.Shelf.Small.Strs
import Derived.Shelf.Small.Wraps
import Derived.Shelf.Strconv.Itoa0
import Derived.Shelf.Strconv.Itoa1
import Derived.Shelf.LaysM
import Derived.Shelf.Strconv.Itoa2
import Derived.Shelf.Strconv.Itoa3
import Derived.Shelf.Strconv.Clone
import Derived.Shelf.Strings.Search1
import Derived.Shelf.Strconv.AppendUint10
import Derived.Shelf.Strconv.AppendInt10
import Derived.Shelf.Strconv.AppendIntPublic10
import Derived.Shelf.Strings.Prefix
import Derived.Shelf.Strings.Runes
import Derived.Shelf.Strings.AsciiSet
import Derived.Shelf.Bits.Mul64
import Derived.Shelf.Unicode.DecodeSlow
import Derived.Test.YtgknbdehlmlipaaGreatDoorProg
import Derived.Test.YtgknbdehlmlipaaGreatDoorRows
import Derived.WalkKit
import Derived.WalkSpells
import Derived.WalkLawsBesides
set_option linter.unusedVariables false
set_option linter.unusedSectionVars false
set_option linter.unusedSimpArgs false
set_option maxRecDepth 20000
namespace Go.Proofs
open Go.Shelf
def Tryz.lays125_ren : Go.Shelf.Ren := ⟨fun | 125 => 132 | 128 => 161 | 129 => 58 | n => n, fun | 46 => 81 | 3 => 3 | 51 => 173 | 53 => 22 | 4 => 4 | 5 => 5 | 9 => 9 | n => n, fun | n => n⟩
theorem Tryz.lays125 : Go.Proofs.Lays.n125 Tryz.prog Tryz.lays125_ren := {
  mixed := by kernel_rfl
  f125 := Tryz.func132.trans (congrArg some (by kernel_rfl))
  f128 := Tryz.func161.trans (congrArg some (by kernel_rfl))
  f129 := Tryz.func58.trans (congrArg some (by kernel_rfl))
  t3 := Tryz.underlying3
  a3 := Tryz.isAgg3
  z3 := Tryz.sizeOf3
  v3 := Tryz.zeroValue3
  t4 := Tryz.underlying4
  a4 := Tryz.isAgg4
  z4 := Tryz.sizeOf4
  v4 := Tryz.zeroValue4
  t5 := Tryz.underlying5
  a5 := Tryz.isAgg5
  z5 := Tryz.sizeOf5
  v5 := Tryz.zeroValue5
  t9 := Tryz.underlying9
  a9 := Tryz.isAgg9
  z9 := Tryz.sizeOf9
  v9 := Tryz.zeroValue9
  t46 := Tryz.underlying81
  a46 := Tryz.isAgg81
  z46 := Tryz.sizeOf81
  v46 := Tryz.zeroValue81
  t51 := Tryz.underlying173
  a51 := Tryz.isAgg173
  z51 := Tryz.sizeOf173
  v51 := Tryz.zeroValue173
  t53 := Tryz.underlying22
  a53 := Tryz.isAgg22
  z53 := Tryz.sizeOf22
  v53 := Tryz.zeroValue22 }
/-- bits.Len: "Len returns the minimum number of bits required to represent x; the result is 0 for x == 0.": IT RETURNS 'Lib.bitLen x'; the world is as it was. (A uint has 64 bits in the model.) ITS CALLEE bits.Len64 IS MET BY ITS OWN CONTRACT OFF THE SHELF (lay that first). (LAID: no walk: one application.) -/
theorem Tryz.bits_Len (x : Int) (w : World) (h0 : 0 ≤ x) (h1 : x ≤ 18446744073709551615) :
    Calls Tryz.prog 132 #[.int .u64 x] w fun e w' => e = .returned (.int .i64 (Lib.bitLen x.toNat)) ∧ w' = w := Any.bits_Len Tryz.lays125 x w h0 h1
def Tryz.lays134_ren : Go.Shelf.Ren := ⟨fun | 134 => 151 | 129 => 58 | n => n, fun | 53 => 22 | 3 => 3 | 4 => 4 | 46 => 81 | 5 => 5 | 9 => 9 | n => n, fun | n => n⟩
theorem Tryz.lays134 : Go.Proofs.Lays.n134 Tryz.prog Tryz.lays134_ren := {
  mixed := by kernel_rfl
  f129 := Tryz.func58.trans (congrArg some (by kernel_rfl))
  f134 := Tryz.func151.trans (congrArg some (by kernel_rfl))
  t3 := Tryz.underlying3
  a3 := Tryz.isAgg3
  z3 := Tryz.sizeOf3
  v3 := Tryz.zeroValue3
  t4 := Tryz.underlying4
  a4 := Tryz.isAgg4
  z4 := Tryz.sizeOf4
  v4 := Tryz.zeroValue4
  t5 := Tryz.underlying5
  a5 := Tryz.isAgg5
  z5 := Tryz.sizeOf5
  v5 := Tryz.zeroValue5
  t9 := Tryz.underlying9
  a9 := Tryz.isAgg9
  z9 := Tryz.sizeOf9
  v9 := Tryz.zeroValue9
  t46 := Tryz.underlying81
  a46 := Tryz.isAgg81
  z46 := Tryz.sizeOf81
  v46 := Tryz.zeroValue81
  t53 := Tryz.underlying22
  a53 := Tryz.isAgg22
  z53 := Tryz.sizeOf22
  v53 := Tryz.zeroValue22 }
/-- bits.LeadingZeros64: "LeadingZeros64 returns the number of leading zero bits in x; the result is 64 for x == 0.": IT RETURNS '64 - Lib.bitLen x'; the world is as it was. ITS CALLEE bits.Len64 IS MET BY ITS OWN CONTRACT OFF THE SHELF (lay that first): entered in place it sends the kernel out of memory. (LAID: no walk: one application.) -/
theorem Tryz.bits_LeadingZeros64 (x : Int) (w : World) (h0 : 0 ≤ x) (h1 : x ≤ 18446744073709551615) :
    Calls Tryz.prog 151 #[.int .u64 x] w fun e w' => e = .returned (.int .i64 (64 - (Lib.bitLen x.toNat : Int))) ∧ w' = w := Any.bits_LeadingZeros64 Tryz.lays134 x w h0 h1
def Tryz.lays129_ren : Go.Shelf.Ren := ⟨fun | 129 => 58 | n => n, fun | 53 => 22 | 3 => 3 | 4 => 4 | 46 => 81 | 5 => 5 | 9 => 9 | n => n, fun | n => n⟩
theorem Tryz.lays129 : Go.Proofs.Lays.n129 Tryz.prog Tryz.lays129_ren := {
  mixed := by kernel_rfl
  f129 := Tryz.func58.trans (congrArg some (by kernel_rfl))
  t3 := Tryz.underlying3
  a3 := Tryz.isAgg3
  z3 := Tryz.sizeOf3
  v3 := Tryz.zeroValue3
  t4 := Tryz.underlying4
  a4 := Tryz.isAgg4
  z4 := Tryz.sizeOf4
  v4 := Tryz.zeroValue4
  t5 := Tryz.underlying5
  a5 := Tryz.isAgg5
  z5 := Tryz.sizeOf5
  v5 := Tryz.zeroValue5
  t9 := Tryz.underlying9
  a9 := Tryz.isAgg9
  z9 := Tryz.sizeOf9
  v9 := Tryz.zeroValue9
  t46 := Tryz.underlying81
  a46 := Tryz.isAgg81
  z46 := Tryz.sizeOf81
  v46 := Tryz.zeroValue81
  t53 := Tryz.underlying22
  a53 := Tryz.isAgg22
  z53 := Tryz.sizeOf22
  v53 := Tryz.zeroValue22 }
/-- bits.Len64: "Len64 returns the minimum number of bits required to represent x; the result is 0 for x == 0.": IT RETURNS 'Lib.bitLen x'; the world is as it was. ('h0', 'h1': x is a uint64.) (LAID: no walk: one application.) -/
theorem Tryz.bits_Len64 (x : Int) (w : World) (h0 : 0 ≤ x) (h1 : x ≤ 18446744073709551615) :
    Calls Tryz.prog 58 #[.int .u64 x] w fun e w' => e = .returned (.int .i64 (Lib.bitLen x.toNat)) ∧ w' = w := Any.bits_Len64 Tryz.lays129 x w h0 h1
def Tryz.lays264_ren : Go.Shelf.Ren := ⟨fun | 264 => 59 | n => n, fun | 53 => 22 | 46 => 81 | n => n, fun | n => n⟩
theorem Tryz.lays264 : Go.Proofs.Lays.n264 Tryz.prog Tryz.lays264_ren := {
  mixed := by kernel_rfl
  f264 := Tryz.func59.trans (congrArg some (by kernel_rfl))
  t46 := Tryz.underlying81
  a46 := Tryz.isAgg81
  z46 := Tryz.sizeOf81
  v46 := Tryz.zeroValue81
  t53 := Tryz.underlying22
  a53 := Tryz.isAgg22
  z53 := Tryz.sizeOf22
  v53 := Tryz.zeroValue22 }
open Go.RowKit Go.Lib in
theorem Tryz.bits_Mul64 (x y : Nat) (hx : x < 18446744073709551616) (hy : y < 18446744073709551616) (w : World) :
    Calls Tryz.prog 59 #[.int .u64 x, .int .u64 y] w fun e w' => e = .returned (.tuple #[.int .u64 ((x * y / 18446744073709551616 : Nat) : Int), .int .u64 ((x * y % 18446744073709551616 : Nat) : Int)]) ∧ w' = w := Any.bits_Mul64 Tryz.lays264 x y hx hy w
end Go.Proofs

namespace Go.Proofs.YtgknbdehlmlipaaGreatDoor
open Go.RowKit
section
/-- how many words without noughts at the end -/
def sizeL (x : Nat → Int) : Nat → Nat
  | 0 => 0
  | n + 1 => if x n = 0 then sizeL x n else n + 1

theorem sizeL_le (x : Nat → Int) (n : Nat) : sizeL x n ≤ n := by
  induction n with
  | zero => simp [sizeL]
  | succ n ih => simp only [sizeL]; split <;> omega

theorem ret_int {k : IntKind} {a b : Int} (h : a = b) : Ending.returned (.int k a) = .returned (.int k b) := by rw [h]

set_option maxHeartbeats 400000 in
theorem size_any (b off n c : Nat) (x : Nat → Int) (w : World) (hn : n < 9223372036854775808) (hc : ∀ i, i < n → w.cell? ⟨b, off + i, none⟩ = some (.int .u64 (x i))) :
    Calls Tryz.prog 57 #[.slice (some ⟨b, off, none⟩) n c] w fun e w' => e = .returned (.int .i64 (sizeL x n)) ∧ w' = w := by
  go_enter Tryz.func57, Tryz.ntmps57
  go_wp2
  go_loop [3] (fun t => ∃ k : Nat, k ≤ n ∧ sizeL x k = sizeL x n ∧ t = .int .i64 k) (fun t => (intOf t).toNat)
  case atStart => exact ⟨n, Nat.le_refl _, rfl, rfl⟩
  case round =>
    obtain ⟨k, hk, hs, rfl⟩ := hrel
    by_cases h0 : k = 0
    · subst h0
      go_wp2
      go_ret
      exact ⟨ret_int (by rw [← hs]; rfl), rfl⟩
    · obtain ⟨j, rfl⟩ : ∃ j, k = j + 1 := ⟨k - 1, by omega⟩
      have hcj := hc j (by omega)
      by_cases hz : x j = 0
      · have HS : Hid (sizeL x j = sizeL x n) := by
          have : sizeL x (j + 1) = sizeL x j := by simp [sizeL, hz]
          exact this.symm.trans hs
        clear hs
        go_wp2
        go_round
        case rel => exact ⟨j, by omega, HS.out, by go_num⟩
        case measure => simp [intOf]
      · have HS : Hid (((j : Int) + 1) = (sizeL x n : Nat)) := by
          have : sizeL x (j + 1) = j + 1 := by simp [sizeL, hz]
          show _ = _
          rw [← hs, this]; omega
        clear hs
        go_wp2
        go_ret
        exact ⟨ret_int (by exact HS.out), rfl⟩

set_option maxHeartbeats 400000 in
theorem size_nil (w : World) :
    Calls Tryz.prog 57 #[.slice none 0 0] w fun e w' => e = .returned (.int .i64 0) ∧ w' = w := by
  go_enter Tryz.func57, Tryz.ntmps57
  go_wp2
  go_loop [3] (fun t => t = .int .i64 0) (fun t => (intOf t).toNat)
  case atStart => rfl
  case round =>
    subst hrel
    go_wp2
    go_ret
    exact ⟨rfl, rfl⟩

/-- how many bits -/
def lenL (x : Nat → Int) (n : Nat) : Int := if sizeL x n = 0 then 0 else 64 * (sizeL x n : Int) - 64 + Lib.bitLen (x (sizeL x n - 1)).toNat

theorem bitLenAux_le : ∀ f x : Nat, Lib.bitLenAux f x ≤ f
  | 0, x => by simp [Lib.bitLenAux]
  | f + 1, x => by
    have := bitLenAux_le f (x / 2)
    simp only [Lib.bitLenAux]; split <;> omega
theorem bitLen64 (x : Nat) : Lib.bitLen x ≤ 64 := bitLenAux_le 64 x

set_option maxHeartbeats 400000 in
theorem len_any (b off n c : Nat) (x : Nat → Int) (w : World) (hn : n < 100000000) (hx : ∀ i, 0 ≤ x i ∧ x i ≤ 18446744073709551615) (hc : ∀ i, i < n → w.cell? ⟨b, off + i, none⟩ = some (.int .u64 (x i))) :
    Calls Tryz.prog 23 #[.slice (some ⟨b, off, none⟩) n c] w fun e w' => e = .returned (.int .i64 (lenL x n)) ∧ w' = w := by
  have hle := sizeL_le x n
  by_cases h0 : sizeL x n = 0
  · have HL : Hid (lenL x n = 0) := by show _ = _; simp [lenL, h0]
    have hs : Calls Tryz.prog 57 #[.slice (some ⟨b, off, none⟩) n c] w fun e w' => e = .returned (.int .i64 0) ∧ w' = w := by
      have := size_any b off n c x w (by omega) hc
      rw [h0] at this; exact this
    clear h0 hc hx
    go_enter Tryz.func23, Tryz.ntmps23
    go_wp2_with (go_at_call 57; refine hs.mono ?_; rintro e w' ⟨rfl, rfl⟩)
    go_ret
    exact ⟨ret_int HL.out.symm, rfl⟩
  · obtain ⟨j, hj⟩ : ∃ j, sizeL x n = j + 1 := ⟨sizeL x n - 1, by omega⟩
    have hs := size_any b off n c x w (by omega) hc
    have HL : Hid (lenL x n = 64 * (j : Int) + Lib.bitLen (x j).toNat) := by show _ = _; simp [lenL, hj]; omega
    rw [hj] at hs
    have hcj := hc j (by omega)
    have hb := hx j
    have hbl := bitLen64 (x j).toNat
    have hj' : j + 1 ≤ n := by omega
    clear h0 hc hx hj hle
    have hcl := Tryz.bits_Len64 (x j) w hb.1 hb.2
    generalize Lib.bitLen (x j).toNat = L at *
    go_enter Tryz.func23, Tryz.ntmps23
    go_wp2_with (first | (go_at_call 57; refine hs.mono ?_; rintro e w' ⟨rfl, rfl⟩) | (go_at_call 58; refine hcl.mono ?_; rintro e w' ⟨rfl, rfl⟩))
    go_ret
    exact ⟨ret_int (by rw [HL.out]; omega), rfl⟩
end
end Go.Proofs.YtgknbdehlmlipaaGreatDoor

namespace Go.Proofs.YtgknbdehlmlipaaGreatDoor

/-- what a step is about: u below Y = d1 * 2^32 + d0, one digit e more -/
structure Dg (u d1 d0 e : Int) : Prop where
  a1 : 2147483648 ≤ d1
  a2 : d1 < 4294967296
  b1 : 0 ≤ d0
  b2 : d0 < 4294967296
  e1 : 0 ≤ e
  e2 : e < 4294967296
  u1 : 0 ≤ u
  u2 : u < d1 * 4294967296 + d0

theorem Dg.pos {u d1 d0 e : Int} (h : Dg u d1 d0 e) : 0 < d1 * 4294967296 + d0 := by have := h.a1; have := h.b1; omega
theorem mulY (q d1 d0 : Int) : q * (d1 * 4294967296 + d0) = (q * d1) * 4294967296 + q * d0 := by rw [Int.mul_add, Int.mul_assoc]
/-- the digit is below 2^32 -/
theorem Dg.lt {u d1 d0 e : Int} (h : Dg u d1 d0 e) : (u * 4294967296 + e) / (d1 * 4294967296 + d0) < 4294967296 := by
  apply Int.ediv_lt_of_lt_mul h.pos
  have := h.u2; have := h.e2; omega
theorem Dg.nonneg {u d1 d0 e : Int} (h : Dg u d1 d0 e) : 0 ≤ (u * 4294967296 + e) / (d1 * 4294967296 + d0) := Int.ediv_nonneg (by have := h.u1; have := h.e1; omega) (by have := h.pos; omega)
/-- the guess is too great -/
theorem Dg.big {u d1 d0 e q r : Int} (h : Dg u d1 d0 e) (hq : q * d1 + r = u) (ht : 4294967296 * r + e < q * d0) : (u * 4294967296 + e) / (d1 * 4294967296 + d0) ≤ q - 1 := by
  have : (u * 4294967296 + e) / (d1 * 4294967296 + d0) < q := by
    apply Int.ediv_lt_of_lt_mul h.pos
    rw [mulY]; omega
  omega
theorem Dg.big' {u d1 d0 e q : Int} (h : Dg u d1 d0 e) (ht : 4294967296 ≤ q) : (u * 4294967296 + e) / (d1 * 4294967296 + d0) ≤ q - 1 := by
  have := h.lt; omega
/-- the guess is right -/
theorem Dg.right {u d1 d0 e q r : Int} (h : Dg u d1 d0 e) (hq : q * d1 + r = u) (hge : (u * 4294967296 + e) / (d1 * 4294967296 + d0) ≤ q) (ht : q * d0 ≤ 4294967296 * r + e) : (u * 4294967296 + e) / (d1 * 4294967296 + d0) = q := by
  have : q ≤ (u * 4294967296 + e) / (d1 * 4294967296 + d0) := by
    apply Int.le_ediv_of_mul_le h.pos
    rw [mulY]; omega
  omega
theorem Dg.right' {u d1 d0 e q r : Int} (h : Dg u d1 d0 e) (hq : q * d1 + r = u) (hge : (u * 4294967296 + e) / (d1 * 4294967296 + d0) ≤ q) (hq2 : q ≤ 4294967296) (hr : 4294967296 ≤ r) : (u * 4294967296 + e) / (d1 * 4294967296 + d0) = q := by
  refine h.right hq hge ?_
  have h0 : 0 ≤ q := Int.le_trans h.nonneg hge
  have h1 : q * d0 ≤ 4294967296 * d0 := Int.mul_le_mul_of_nonneg_right hq2 h.b1
  have := h.b2; have := h.e1
  omega
/-- the first guess -/
theorem Dg.first {u d1 d0 e : Int} (h : Dg u d1 d0 e) : (u / d1) * d1 + u % d1 = u ∧ (u * 4294967296 + e) / (d1 * 4294967296 + d0) ≤ u / d1 ∧ u / d1 ≤ 4294967297 ∧ 0 ≤ u % d1 ∧ u % d1 < 4294967296 := by
  have a1 := h.a1; have a2 := h.a2
  have hd : 0 < d1 := by omega
  have e0 : (u / d1) * d1 + u % d1 = u := Int.mul_comm d1 _ ▸ Int.mul_ediv_add_emod u d1
  have m0 := Int.emod_nonneg u (show d1 ≠ 0 by omega)
  have m1 := Int.emod_lt_of_pos u hd
  refine ⟨e0, ?_, ?_, m0, by omega⟩
  · have : (u * 4294967296 + e) / (d1 * 4294967296 + d0) < u / d1 + 1 := by
      apply Int.ediv_lt_of_lt_mul h.pos
      rw [mulY, Int.add_mul]
      have p0 : 0 ≤ (u / d1 + 1) * d0 := Int.mul_nonneg (by have := Int.ediv_nonneg h.u1 (Int.le_of_lt hd); omega) h.b1
      have := h.e2
      omega
    omega
  · have : u / d1 < 4294967298 := by
      apply Int.ediv_lt_of_lt_mul hd
      have := h.u2; have := h.b2
      omega
    omega
end Go.Proofs.YtgknbdehlmlipaaGreatDoor
