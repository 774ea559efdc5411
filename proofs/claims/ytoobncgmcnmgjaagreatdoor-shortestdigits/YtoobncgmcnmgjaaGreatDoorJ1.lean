/-
  Texts that the proof leans on, joined: Bg, Shelf, Ref, Sa, Arr, Add, Div.
-/
import Derived.Test.YtoobncgmcnmgjaaGreatDoorProg
import Derived.Below
import Derived.WalkKit
import Derived.Shelf.Strings.Trim
import Derived.Shelf.Small.Utf8
import Derived.Shelf.Small.Bits
import Derived.Shelf.Small.Strs
import Derived.Shelf.Small.Wraps
import Derived.Shelf.Strconv.Itoa0
import Derived.Shelf.Strconv.Itoa1
import Derived.Shelf.LaysM
import Derived.Shelf.Strconv.Itoa2
import Derived.Shelf.Strconv.Itoa3
import Derived.Shelf.Strconv.Clone
import Derived.Shelf.Strings.Search1
import Derived.Shelf.Strconv.AppendUint10
import Derived.Shelf.Strconv.AppendInt10
import Derived.Shelf.Strconv.AppendIntPublic10
import Derived.Shelf.Strings.Prefix
import Derived.Shelf.Strings.Runes
import Derived.Shelf.Strings.AsciiSet
import Derived.Shelf.Bits.Mul64
import Derived.Shelf.Unicode.DecodeSlow
import Derived.Test.YtoobncgmcnmgjaaGreatDoorRows
import Derived.WalkSpells
import Derived.WalkLawsBesides
import Derived.Laws.Externs
import Derived.Deep.RegionHeld3
import Derived.Deep.DrawnRows
import Derived.BigQuiet
namespace Go.Proofs.YtoobncgmcnmgjaaGreatDoor
open Go.RowKit
theorem bgo {n : Nat} {a b : World} (h : Below n a b := by (repeat (first | with_reducible assumption | with_reducible exact Below.refl _ _ | with_reducible refine Below.setCell ?_ (by first | omega | (dsimp only; omega) | (simp <;> omega)) _ | with_reducible refine Below.alloc ?_ (by first | omega | (simp <;> omega)) _ | with_reducible refine Below.drew ?_))) : Below n a b := h
theorem ltg {a b : Nat} (h : a < b := by first | with_reducible assumption | (simp; done) | (simp; omega)) : a < b := h
end Go.Proofs.YtoobncgmcnmgjaaGreatDoor

namespace Go.Proofs
open Go.Shelf
def Tryz.lays125_ren : Go.Shelf.Ren := ⟨fun | 125 => 144 | 128 => 176 | 129 => 86 | n => n, fun | 46 => 77 | 3 => 3 | 51 => 45 | 53 => 22 | 4 => 4 | 5 => 5 | 9 => 9 | n => n, fun | n => n⟩
theorem Tryz.lays125 : Go.Proofs.Lays.n125 Tryz.prog Tryz.lays125_ren := {
  mixed := by kernel_rfl
  f125 := Tryz.func144.trans (congrArg some (by kernel_rfl))
  f128 := Tryz.func176.trans (congrArg some (by kernel_rfl))
  f129 := Tryz.func86.trans (congrArg some (by kernel_rfl))
  t3 := Tryz.underlying3
  a3 := Tryz.isAgg3
  z3 := Tryz.sizeOf3
  v3 := Tryz.zeroValue3
  t4 := Tryz.underlying4
  a4 := Tryz.isAgg4
  z4 := Tryz.sizeOf4
  v4 := Tryz.zeroValue4
  t5 := Tryz.underlying5
  a5 := Tryz.isAgg5
  z5 := Tryz.sizeOf5
  v5 := Tryz.zeroValue5
  t9 := Tryz.underlying9
  a9 := Tryz.isAgg9
  z9 := Tryz.sizeOf9
  v9 := Tryz.zeroValue9
  t46 := Tryz.underlying77
  a46 := Tryz.isAgg77
  z46 := Tryz.sizeOf77
  v46 := Tryz.zeroValue77
  t51 := Tryz.underlying45
  a51 := Tryz.isAgg45
  z51 := Tryz.sizeOf45
  v51 := Tryz.zeroValue45
  t53 := Tryz.underlying22
  a53 := Tryz.isAgg22
  z53 := Tryz.sizeOf22
  v53 := Tryz.zeroValue22 }
/-- bits.Len: "Len returns the minimum number of bits required to represent x; the result is 0 for x == 0.": IT RETURNS 'Lib.bitLen x'; the world is as it was. (A uint has 64 bits in the model.) ITS CALLEE bits.Len64 IS MET BY ITS OWN CONTRACT OFF THE SHELF (lay that first). (LAID: no walk: one application.) -/
theorem Tryz.bits_Len (x : Int) (w : World) (h0 : 0 ≤ x) (h1 : x ≤ 18446744073709551615) :
    Calls Tryz.prog 144 #[.int .u64 x] w fun e w' => e = .returned (.int .i64 (Lib.bitLen x.toNat)) ∧ w' = w := Any.bits_Len Tryz.lays125 x w h0 h1
def Tryz.lays134_ren : Go.Shelf.Ren := ⟨fun | 134 => 121 | 129 => 86 | n => n, fun | 53 => 22 | 3 => 3 | 4 => 4 | 46 => 77 | 5 => 5 | 9 => 9 | n => n, fun | n => n⟩
theorem Tryz.lays134 : Go.Proofs.Lays.n134 Tryz.prog Tryz.lays134_ren := {
  mixed := by kernel_rfl
  f129 := Tryz.func86.trans (congrArg some (by kernel_rfl))
  f134 := Tryz.func121.trans (congrArg some (by kernel_rfl))
  t3 := Tryz.underlying3
  a3 := Tryz.isAgg3
  z3 := Tryz.sizeOf3
  v3 := Tryz.zeroValue3
  t4 := Tryz.underlying4
  a4 := Tryz.isAgg4
  z4 := Tryz.sizeOf4
  v4 := Tryz.zeroValue4
  t5 := Tryz.underlying5
  a5 := Tryz.isAgg5
  z5 := Tryz.sizeOf5
  v5 := Tryz.zeroValue5
  t9 := Tryz.underlying9
  a9 := Tryz.isAgg9
  z9 := Tryz.sizeOf9
  v9 := Tryz.zeroValue9
  t46 := Tryz.underlying77
  a46 := Tryz.isAgg77
  z46 := Tryz.sizeOf77
  v46 := Tryz.zeroValue77
  t53 := Tryz.underlying22
  a53 := Tryz.isAgg22
  z53 := Tryz.sizeOf22
  v53 := Tryz.zeroValue22 }
/-- bits.LeadingZeros64: "LeadingZeros64 returns the number of leading zero bits in x; the result is 64 for x == 0.": IT RETURNS '64 - Lib.bitLen x'; the world is as it was. ITS CALLEE bits.Len64 IS MET BY ITS OWN CONTRACT OFF THE SHELF (lay that first): entered in place it sends the kernel out of memory. (LAID: no walk: one application.) -/
theorem Tryz.bits_LeadingZeros64 (x : Int) (w : World) (h0 : 0 ≤ x) (h1 : x ≤ 18446744073709551615) :
    Calls Tryz.prog 121 #[.int .u64 x] w fun e w' => e = .returned (.int .i64 (64 - (Lib.bitLen x.toNat : Int))) ∧ w' = w := Any.bits_LeadingZeros64 Tryz.lays134 x w h0 h1
def Tryz.lays129_ren : Go.Shelf.Ren := ⟨fun | 129 => 86 | n => n, fun | 53 => 22 | 3 => 3 | 4 => 4 | 46 => 77 | 5 => 5 | 9 => 9 | n => n, fun | n => n⟩
theorem Tryz.lays129 : Go.Proofs.Lays.n129 Tryz.prog Tryz.lays129_ren := {
  mixed := by kernel_rfl
  f129 := Tryz.func86.trans (congrArg some (by kernel_rfl))
  t3 := Tryz.underlying3
  a3 := Tryz.isAgg3
  z3 := Tryz.sizeOf3
  v3 := Tryz.zeroValue3
  t4 := Tryz.underlying4
  a4 := Tryz.isAgg4
  z4 := Tryz.sizeOf4
  v4 := Tryz.zeroValue4
  t5 := Tryz.underlying5
  a5 := Tryz.isAgg5
  z5 := Tryz.sizeOf5
  v5 := Tryz.zeroValue5
  t9 := Tryz.underlying9
  a9 := Tryz.isAgg9
  z9 := Tryz.sizeOf9
  v9 := Tryz.zeroValue9
  t46 := Tryz.underlying77
  a46 := Tryz.isAgg77
  z46 := Tryz.sizeOf77
  v46 := Tryz.zeroValue77
  t53 := Tryz.underlying22
  a53 := Tryz.isAgg22
  z53 := Tryz.sizeOf22
  v53 := Tryz.zeroValue22 }
/-- bits.Len64: "Len64 returns the minimum number of bits required to represent x; the result is 0 for x == 0.": IT RETURNS 'Lib.bitLen x'; the world is as it was. ('h0', 'h1': x is a uint64.) (LAID: no walk: one application.) -/
theorem Tryz.bits_Len64 (x : Int) (w : World) (h0 : 0 ≤ x) (h1 : x ≤ 18446744073709551615) :
    Calls Tryz.prog 86 #[.int .u64 x] w fun e w' => e = .returned (.int .i64 (Lib.bitLen x.toNat)) ∧ w' = w := Any.bits_Len64 Tryz.lays129 x w h0 h1
def Tryz.laysM171_ren : Go.Shelf.Ren := ⟨fun | 171 => 53 | 243 => 85 | 246 => 122 | 283 => 155 | 284 => 156 | 285 => 157 | 286 => 158 | 129 => 86 | 317 => 181 | 318 => 182 | 319 => 183 | 320 => 184 | 337 => 193 | 338 => 194 | n => n, fun | 3 => 3 | 9 => 9 | 2 => 2 | 4 => 4 | 171 => 183 | 0 => 0 | 53 => 22 | 37 => 80 | 5 => 5 | 173 => 185 | 212 => 211 | 51 => 45 | 20 => 20 | 213 => 212 | 46 => 77 | 232 => 222 | 233 => 223 | n => n, fun | 17 => 3 | 18 => 4 | 19 => 5 | n => n⟩
theorem Tryz.laysM171 : Go.Proofs.LaysM.n171 Tryz.prog Tryz.laysM171_ren := {
  mixed := by kernel_rfl
  f129 := Tryz.func86.trans (congrArg some (by kernel_rfl))
  f171 := Tryz.func53.trans (congrArg some (by kernel_rfl))
  f243 := Tryz.func85.trans (congrArg some (by kernel_rfl))
  f246 := Tryz.func122.trans (congrArg some (by kernel_rfl))
  f283 := Tryz.func155.trans (congrArg some (by kernel_rfl))
  f284 := Tryz.func156.trans (congrArg some (by kernel_rfl))
  f285 := Tryz.func157.trans (congrArg some (by kernel_rfl))
  f286 := Tryz.func158.trans (congrArg some (by kernel_rfl))
  f317 := Tryz.func181.trans (congrArg some (by kernel_rfl))
  f318 := Tryz.func182.trans (congrArg some (by kernel_rfl))
  f319 := Tryz.func183.trans (congrArg some (by kernel_rfl))
  f320 := Tryz.func184.trans (congrArg some (by kernel_rfl))
  f337 := Tryz.func193.trans (congrArg some (by kernel_rfl))
  f338 := Tryz.func194.trans (congrArg some (by kernel_rfl))
  t0 := Tryz.underlying0
  a0 := Tryz.isAgg0
  z0 := Tryz.sizeOf0
  v0 := Tryz.zeroValue0
  t2 := Tryz.underlying2
  a2 := Tryz.isAgg2
  z2 := Tryz.sizeOf2
  v2 := Tryz.zeroValue2
  t3 := Tryz.underlying3
  a3 := Tryz.isAgg3
  z3 := Tryz.sizeOf3
  v3 := Tryz.zeroValue3
  t4 := Tryz.underlying4
  a4 := Tryz.isAgg4
  z4 := Tryz.sizeOf4
  v4 := Tryz.zeroValue4
  t5 := Tryz.underlying5
  a5 := Tryz.isAgg5
  z5 := Tryz.sizeOf5
  v5 := Tryz.zeroValue5
  t9 := Tryz.underlying9
  a9 := Tryz.isAgg9
  z9 := Tryz.sizeOf9
  v9 := Tryz.zeroValue9
  t20 := Tryz.underlying20
  a20 := Tryz.isAgg20
  z20 := Tryz.sizeOf20
  v20 := Tryz.zeroValue20
  t37 := Tryz.underlying80
  a37 := Tryz.isAgg80
  z37 := Tryz.sizeOf80
  v37 := Tryz.zeroValue80
  t46 := Tryz.underlying77
  a46 := Tryz.isAgg77
  z46 := Tryz.sizeOf77
  v46 := Tryz.zeroValue77
  t51 := Tryz.underlying45
  a51 := Tryz.isAgg45
  z51 := Tryz.sizeOf45
  v51 := Tryz.zeroValue45
  t53 := Tryz.underlying22
  a53 := Tryz.isAgg22
  z53 := Tryz.sizeOf22
  v53 := Tryz.zeroValue22
  t171 := Tryz.underlying183
  a171 := Tryz.isAgg183
  z171 := Tryz.sizeOf183
  v171 := Tryz.zeroValue183
  t173 := Tryz.underlying185
  a173 := Tryz.isAgg185
  z173 := Tryz.sizeOf185
  v173 := Tryz.zeroValue185
  t212 := Tryz.underlying211
  a212 := Tryz.isAgg211
  z212 := Tryz.sizeOf211
  v212 := Tryz.zeroValue211
  t213 := Tryz.underlying212
  a213 := Tryz.isAgg212
  z213 := Tryz.sizeOf212
  t232 := Tryz.underlying222
  a232 := Tryz.isAgg222
  z232 := Tryz.sizeOf222
  v232 := Tryz.zeroValue222
  t233 := Tryz.underlying223
  a233 := Tryz.isAgg223
  z233 := Tryz.sizeOf223
  v233 := Tryz.zeroValue223
  g17 := by kernel_rfl
  g18 := by kernel_rfl
  g19 := by kernel_rfl
  i0 := by kernel_rfl
  i2 := by kernel_rfl
  i3 := by kernel_rfl
  i4 := by kernel_rfl
  i5 := by kernel_rfl
  i9 := by kernel_rfl
  i20 := by kernel_rfl
  i37 := by kernel_rfl
  i46 := by kernel_rfl
  i51 := by kernel_rfl
  i53 := by kernel_rfl
  i171 := by kernel_rfl
  i173 := by kernel_rfl
  i212 := by kernel_rfl
  i232 := by kernel_rfl
  i233 := by kernel_rfl
  m17 := by kernel_rfl
  m18 := by kernel_rfl
  m19 := by kernel_rfl }
open Go.RowKit Go.Sort Go.Lib in
/-- strconv.Itoa: "Itoa is equivalent to FormatInt(int64(i), 10).": i's DECIMAL NUMERAL ('Lib.itoa': a '-' where i is negative, then the digits), FOR EVERY int. The world behind the call: the world before it, new blocks behind the heap (the library's 'var a [24]byte'), draws. (LAID: no walk: one application.) -/
theorem Tryz.strconv_Itoa (n : Int) (h0 : -9223372036854775808 ≤ n) (h1 : n ≤ 9223372036854775807) (w : World) (htab : Lib.TabIs Tryz.prog w "internal/strconv.uint64pow10" .u64 Lib.pow10Tab) :
    Calls Tryz.prog 53 #[.int .i64 n] w fun e w' => e = .returned (.string ⟨(Lib.itoa n).toArray⟩) ∧ ∃ k os, w' = grow (w.drewN k) os := Any.strconv_Itoa Tryz.laysM171 n h0 h1 w htab
def Tryz.lays264_ren : Go.Shelf.Ren := ⟨fun | 264 => 67 | n => n, fun | 53 => 22 | 46 => 77 | n => n, fun | n => n⟩
theorem Tryz.lays264 : Go.Proofs.Lays.n264 Tryz.prog Tryz.lays264_ren := {
  mixed := by kernel_rfl
  f264 := Tryz.func67.trans (congrArg some (by kernel_rfl))
  t46 := Tryz.underlying77
  a46 := Tryz.isAgg77
  z46 := Tryz.sizeOf77
  v46 := Tryz.zeroValue77
  t53 := Tryz.underlying22
  a53 := Tryz.isAgg22
  z53 := Tryz.sizeOf22
  v53 := Tryz.zeroValue22 }
open Go.RowKit Go.Lib in
theorem Tryz.bits_Mul64 (x y : Nat) (hx : x < 18446744073709551616) (hy : y < 18446744073709551616) (w : World) :
    Calls Tryz.prog 67 #[.int .u64 x, .int .u64 y] w fun e w' => e = .returned (.tuple #[.int .u64 ((x * y / 18446744073709551616 : Nat) : Int), .int .u64 ((x * y % 18446744073709551616 : Nat) : Int)]) ∧ w' = w := Any.bits_Mul64 Tryz.lays264 x y hx hy w
end Go.Proofs

set_option maxRecDepth 20000
set_option linter.unusedVariables false
set_option linter.unusedSectionVars false
set_option linter.unusedSimpArgs false
namespace Go.Proofs.YtoobncgmcnmgjaaGreatDoor
open Go.RowKit

/-- how many words without noughts at the end -/
def sizeL (x : Nat → Int) : Nat → Nat
  | 0 => 0
  | n + 1 => if x n = 0 then sizeL x n else n + 1

theorem sizeL_le (x : Nat → Int) (n : Nat) : sizeL x n ≤ n := by
  induction n with
  | zero => simp [sizeL]
  | succ n ih => simp only [sizeL]; split <;> omega

theorem ret_int {k : IntKind} {a b : Int} (h : a = b) : Ending.returned (.int k a) = .returned (.int k b) := by rw [h]

set_option maxHeartbeats 400000 in
theorem size_any (b off n c : Nat) (x : Nat → Int) (w : World) (hn : n < 9223372036854775808) (hc : ∀ i, i < n → w.cell? ⟨b, off + i, none⟩ = some (.int .u64 (x i))) :
    Calls Tryz.prog 68 #[.slice (some ⟨b, off, none⟩) n c] w fun e w' => e = .returned (.int .i64 (sizeL x n)) ∧ w' = w := by
  go_enter Tryz.func68, Tryz.ntmps68
  go_wp2
  go_loop [3] (fun t => ∃ k : Nat, k ≤ n ∧ sizeL x k = sizeL x n ∧ t = .int .i64 k) (fun t => (intOf t).toNat)
  case atStart => exact ⟨n, Nat.le_refl _, rfl, rfl⟩
  case round =>
    obtain ⟨k, hk, hs, rfl⟩ := hrel
    by_cases h0 : k = 0
    · subst h0
      go_wp2
      go_ret
      exact ⟨ret_int (by rw [← hs]; rfl), rfl⟩
    · obtain ⟨j, rfl⟩ : ∃ j, k = j + 1 := ⟨k - 1, by omega⟩
      have hcj := hc j (by omega)
      by_cases hz : x j = 0
      · have HS : Hid (sizeL x j = sizeL x n) := by
          have : sizeL x (j + 1) = sizeL x j := by simp [sizeL, hz]
          exact this.symm.trans hs
        clear hs
        go_wp2
        go_round
        case rel => exact ⟨j, by omega, HS.out, by go_num⟩
        case measure => simp [intOf]
      · have HS : Hid (((j : Int) + 1) = (sizeL x n : Nat)) := by
          have : sizeL x (j + 1) = j + 1 := by simp [sizeL, hz]
          show _ = _
          rw [← hs, this]; omega
        clear hs
        go_wp2
        go_ret
        exact ⟨ret_int (by exact HS.out), rfl⟩

set_option maxHeartbeats 400000 in
theorem size_nil (w : World) :
    Calls Tryz.prog 68 #[.slice none 0 0] w fun e w' => e = .returned (.int .i64 0) ∧ w' = w := by
  go_enter Tryz.func68, Tryz.ntmps68
  go_wp2
  go_loop [3] (fun t => t = .int .i64 0) (fun t => (intOf t).toNat)
  case atStart => rfl
  case round =>
    subst hrel
    go_wp2
    go_ret
    exact ⟨rfl, rfl⟩

/-- how many bits -/
def lenL (x : Nat → Int) (n : Nat) : Int := if sizeL x n = 0 then 0 else 64 * (sizeL x n : Int) - 64 + Lib.bitLen (x (sizeL x n - 1)).toNat

theorem bitLenAux_le : ∀ f x : Nat, Lib.bitLenAux f x ≤ f
  | 0, x => by simp [Lib.bitLenAux]
  | f + 1, x => by
    have := bitLenAux_le f (x / 2)
    simp only [Lib.bitLenAux]; split <;> omega
theorem bitLen64 (x : Nat) : Lib.bitLen x ≤ 64 := bitLenAux_le 64 x

set_option maxHeartbeats 400000 in
theorem len_any (b off n c : Nat) (x : Nat → Int) (w : World) (hn : n < 100000000) (hx : ∀ i, 0 ≤ x i ∧ x i ≤ 18446744073709551615) (hc : ∀ i, i < n → w.cell? ⟨b, off + i, none⟩ = some (.int .u64 (x i))) :
    Calls Tryz.prog 56 #[.slice (some ⟨b, off, none⟩) n c] w fun e w' => e = .returned (.int .i64 (lenL x n)) ∧ w' = w := by
  have hle := sizeL_le x n
  by_cases h0 : sizeL x n = 0
  · have HL : Hid (lenL x n = 0) := by show _ = _; simp [lenL, h0]
    have hs : Calls Tryz.prog 68 #[.slice (some ⟨b, off, none⟩) n c] w fun e w' => e = .returned (.int .i64 0) ∧ w' = w := by
      have := size_any b off n c x w (by omega) hc
      rw [h0] at this; exact this
    clear h0 hc hx
    go_enter Tryz.func56, Tryz.ntmps56
    go_wp2_with (go_at_call 68; refine hs.mono ?_; rintro e w' ⟨rfl, rfl⟩)
    go_ret
    exact ⟨ret_int HL.out.symm, rfl⟩
  · obtain ⟨j, hj⟩ : ∃ j, sizeL x n = j + 1 := ⟨sizeL x n - 1, by omega⟩
    have hs := size_any b off n c x w (by omega) hc
    have HL : Hid (lenL x n = 64 * (j : Int) + Lib.bitLen (x j).toNat) := by show _ = _; simp [lenL, hj]; omega
    rw [hj] at hs
    have hcj := hc j (by omega)
    have hb := hx j
    have hbl := bitLen64 (x j).toNat
    have hj' : j + 1 ≤ n := by omega
    clear h0 hc hx hj hle
    have hcl := Tryz.bits_Len64 (x j) w hb.1 hb.2
    generalize Lib.bitLen (x j).toNat = L at *
    go_enter Tryz.func56, Tryz.ntmps56
    go_wp2_with (first | (go_at_call 68; refine hs.mono ?_; rintro e w' ⟨rfl, rfl⟩) | (go_at_call 86; refine hcl.mono ?_; rintro e w' ⟨rfl, rfl⟩))
    go_ret
    exact ⟨ret_int (by rw [HL.out]; omega), rfl⟩
end Go.Proofs.YtoobncgmcnmgjaaGreatDoor

namespace Go.Proofs.YtoobncgmcnmgjaaGreatDoor
open Go.RowKit

/-- a lies below b, or at it, if the ends count -/
def wiN (c : Bool) (a b : Nat) : Bool := decide (a < b) || (decide (a = b) && c)
theorem wiN_mul {c : Bool} {a b k : Nat} (hk : 0 < k) : wiN c (k * a) (k * b) = wiN c a b := by
  unfold wiN
  have h1 : (k * a < k * b) ↔ a < b := Nat.mul_lt_mul_left hk
  have h2 : (k * a = k * b) ↔ a = b := ⟨fun h => Nat.eq_of_mul_eq_mul_left hk h, fun h => by rw [h]⟩
  simp only [h1, h2]
theorem wiN_cross {c : Bool} {a b a' b' Z Z' : Nat} (hZ : 0 < Z) (hZ' : 0 < Z') (h1 : a * Z' = a' * Z) (h2 : b * Z' = b' * Z) : wiN c a b = wiN c a' b' := by
  rw [← wiN_mul (a := a) (b := b) hZ', ← wiN_mul (a := a') (b := b') hZ, Nat.mul_comm Z' a, Nat.mul_comm Z' b, h1, h2, Nat.mul_comm a', Nat.mul_comm b']
/-- what is left ahead of digit k, over Z -/
def rsN (R Z : Nat) : Nat → Nat
  | 0 => R
  | k + 1 => 10 * (rsN R Z k % Z)
def dgK (R Z k : Nat) : Nat := rsN R Z k / Z
def unK (c : Bool) (R d Z k : Nat) : Bool := wiN c (rsN R Z k % Z) (10 ^ k * d)
def ovK (c : Bool) (R u Z k : Nat) : Bool := wiN c (Z - rsN R Z k % Z) (10 ^ k * u)
def stK (c : Bool) (R d u Z k : Nat) : Bool := unK c R d Z k || ovK c R u Z k
/-- is the upper one of the two numbers about what is left the nearer one -/
def sdK (R Z k : Nat) : Bool := decide (Z < 2 * (rsN R Z k % Z)) || (decide (2 * (rsN R Z k % Z) = Z) && decide (dgK R Z k % 2 = 1))
def upK (c : Bool) (R d u Z k : Nat) : Bool := if unK c R d Z k && ovK c R u Z k then sdK R Z k else ovK c R u Z k
/-- the last digit -/
def laK (c : Bool) (R d u Z k : Nat) : Nat := if upK c R d u Z k then dgK R Z k + 1 else dgK R Z k
def dsN (R Z : Nat) : Nat → List UInt8
  | 0 => []
  | k + 1 => dsN R Z k ++ [UInt8.ofNat (48 + dgK R Z k)]
theorem dsN_len (R Z : Nat) : ∀ k, (dsN R Z k).length = k
  | 0 => rfl
  | k + 1 => by simp [dsN, dsN_len R Z k]
def shT (c : Bool) (R d u Z K : Nat) : List UInt8 := if laK c R d u Z K = 10 then [49] else dsN R Z K ++ [UInt8.ofNat (48 + laK c R d u Z K)]
def shC (c : Bool) (R d u Z K : Nat) : Nat := if laK c R d u Z K = 10 then 1 else 0
theorem dgK_le {R Z : Nat} (hZ : 0 < Z) (hR : R < 10 * Z) (k : Nat) : dgK R Z k ≤ 9 := by
  unfold dgK
  have : rsN R Z k < 10 * Z := by
    cases k with
    | zero => exact hR
    | succ k =>
      show 10 * (rsN R Z k % Z) < 10 * Z
      have := Nat.mod_lt (rsN R Z k) hZ
      omega
  have := (Nat.div_lt_iff_lt_mul hZ).2 this
  omega
theorem laK_le {c : Bool} {R d u Z : Nat} (hZ : 0 < Z) (hR : R < 10 * Z) (k : Nat) : laK c R d u Z k ≤ 10 := by
  have := dgK_le hZ hR k
  unfold laK; split <;> omega
theorem rsN_split (R Z k : Nat) : Z * dgK R Z k + rsN R Z k % Z = rsN R Z k := Nat.div_add_mod _ _
theorem up_ov {c : Bool} {R d u Z k : Nat} (h : upK c R d u Z k = true) : ovK c R u Z k = true := by
  unfold upK at h
  split at h
  · rename_i h1; exact (Bool.and_eq_true_iff.1 h1).2
  · exact h
theorem nup_un {c : Bool} {R d u Z k : Nat} (hs : stK c R d u Z k = true) (h : upK c R d u Z k = false) : unK c R d Z k = true := by
  unfold upK at h
  split at h
  · rename_i h1; exact (Bool.and_eq_true_iff.1 h1).1
  · unfold stK at hs; rw [h] at hs; simpa using hs
section
variable {c : Bool} {R d u Z : Nat} (hZ : 0 < Z)
include hZ
/-- behind a first digit none comes to ten -/
theorem la_lt {K : Nat} (hK : 0 < K) (hR : R < 10 * Z) (hm : ∀ k, k < K → stK c R d u Z k = false) : laK c R d u Z K ≤ 9 := by
  obtain ⟨k, rfl⟩ : ∃ k, K = k + 1 := ⟨K - 1, by omega⟩
  have h9 := dgK_le hZ hR (k + 1)
  unfold laK
  split
  · rename_i hu
    rcases Nat.lt_or_ge (dgK R Z (k + 1)) 9 with h | h
    · omega
    · exfalso
      have e9 : dgK R Z (k + 1) = 9 := by omega
      have ho := up_ov hu
      have hs := rsN_split R Z (k + 1)
      rw [e9] at hs
      have hr : rsN R Z (k + 1) = 10 * (rsN R Z k % Z) := rfl
      have hlt := Nat.mod_lt (rsN R Z k) hZ
      have e : Z - rsN R Z (k + 1) % Z = 10 * (Z - rsN R Z k % Z) := by omega
      have hk := hm k (by omega)
      unfold stK at hk
      have : ovK c R u Z k = true := by
        unfold ovK at ho ⊢
        rw [e, Nat.pow_succ, Nat.mul_comm (10 ^ k) 10, Nat.mul_assoc, wiN_mul (by decide)] at ho
        exact ho
      rw [this] at hk
      simp at hk
  · exact h9
/-- the last digit isn't 0 -/
theorem la_pos {K : Nat} (hR : Z ≤ R) (hs : stK c R d u Z K = true) (hm : ∀ k, k < K → stK c R d u Z k = false) : 1 ≤ laK c R d u Z K := by
  unfold laK
  split
  · omega
  · rename_i hu
    cases K with
    | zero =>
      show 1 ≤ R / Z
      exact (Nat.le_div_iff_mul_le hZ).2 (by omega)
    | succ k =>
      rcases Nat.eq_zero_or_pos (dgK R Z (k + 1)) with h | h
      · exfalso
        have ho := nup_un hs (by simpa using hu)
        have hs := rsN_split R Z (k + 1)
        rw [h] at hs
        have hr : rsN R Z (k + 1) = 10 * (rsN R Z k % Z) := rfl
        have e : rsN R Z (k + 1) % Z = 10 * (rsN R Z k % Z) := by omega
        have hk := hm k (by omega)
        unfold stK at hk
        have : unK c R d Z k = true := by
          unfold unK at ho ⊢
          rw [e, Nat.pow_succ, Nat.mul_comm (10 ^ k) 10, Nat.mul_assoc, wiN_mul (by decide)] at ho
          exact ho
        rw [this] at hk
        simp at hk
      · exact h
theorem un_big {k : Nat} (h : Z ≤ 10 ^ k * d) : stK c R d u Z k = true := by
  unfold stK unK wiN
  have := Nat.mod_lt (rsN R Z k) hZ
  have : rsN R Z k % Z < 10 ^ k * d := by omega
  simp [this]
theorem st_ex (hd : 0 < d) : ∃ K, stK c R d u Z K = true ∧ ∀ k, k < K → stK c R d u Z k = false := by
  have h1 : ∃ K, stK c R d u Z K = true := ⟨Z, un_big hZ (by
    have h1 : Z < 10 ^ Z := Nat.lt_pow_self (by decide)
    have h2 : 10 ^ Z * 1 ≤ 10 ^ Z * d := Nat.mul_le_mul_left _ hd
    omega)⟩
  obtain ⟨K, hK⟩ := h1
  induction K using Nat.strongRecOn with
  | ind K ih =>
    by_cases h : ∃ k, k < K ∧ stK c R d u Z k = true
    · obtain ⟨k, h1, h2⟩ := h
      exact ih k h1 h2
    · refine ⟨K, hK, fun k hk => ?_⟩
      cases hh : stK c R d u Z k
      · rfl
      · exact absurd ⟨k, hk, hh⟩ h
theorem st_un {k : Nat} (h : stK c R d u Z k = false) : 10 ^ k * d ≤ Z ∧ 10 ^ k * u ≤ Z := by
  unfold stK unK ovK wiN at h
  simp at h
  have := Nat.mod_lt (rsN R Z k) hZ
  omega
theorem st_le {K M : Nat} (hM : Z ≤ M * d) (hd : 0 < d) (hm : ∀ k, k < K → stK c R d u Z k = false) (n : Nat) (hn : M < 10 ^ n) : K ≤ n := by
  rcases Nat.lt_or_ge n K with h | h
  · exfalso
    have h1 := (st_un hZ (hm n h)).1
    have h2 : M * d < 10 ^ n * d := Nat.mul_lt_mul_of_pos_right hn hd
    omega
  · exact h
/-- all that is reckoned with is small -/
theorem st_big {K k : Nat} (hm : ∀ k, k < K → stK c R d u Z k = false) (hk : k ≤ K) (hd : d ≤ 10 * Z) (hu : u ≤ 10 * Z) : 10 ^ k * d ≤ 10 * Z ∧ 10 ^ k * u ≤ 10 * Z := by
  cases k with
  | zero => simp; exact ⟨hd, hu⟩
  | succ k =>
    have h := st_un hZ (hm k (by omega))
    rw [Nat.pow_succ, Nat.mul_comm (10 ^ k) 10, Nat.mul_assoc, Nat.mul_assoc]
    omega
end
theorem rsN_lt {R Z : Nat} (hZ : 0 < Z) (hR : R < 10 * Z) (k : Nat) : rsN R Z k < 10 * Z := by
  cases k with
  | zero => exact hR
  | succ k =>
    show 10 * (rsN R Z k % Z) < 10 * Z
    have := Nat.mod_lt (rsN R Z k) hZ
    omega
/-- the same fraction -/
theorem cross_div {R Z R' Z' : Nat} (hZ : 0 < Z) (hZ' : 0 < Z') (h : R * Z' = R' * Z) : R / Z = R' / Z' ∧ (R % Z) * Z' = (R' % Z') * Z := by
  constructor
  · rw [← Nat.mul_div_mul_right R Z hZ', h, Nat.mul_comm Z Z', Nat.mul_div_mul_right _ _ hZ]
  · rw [← Nat.mul_mod_mul_right, h, Nat.mul_comm Z Z', Nat.mul_mod_mul_right]
theorem rsN_cross {R Z R' Z' : Nat} (hZ : 0 < Z) (hZ' : 0 < Z') (h : R * Z' = R' * Z) : ∀ k, rsN R Z k * Z' = rsN R' Z' k * Z
  | 0 => h
  | k + 1 => by
    show 10 * (rsN R Z k % Z) * Z' = 10 * (rsN R' Z' k % Z') * Z
    rw [Nat.mul_assoc, Nat.mul_assoc, (cross_div hZ hZ' (rsN_cross hZ hZ' h k)).2]
theorem cross_all {R Z R' Z' d d' u u' : Nat} (c : Bool) (hZ : 0 < Z) (hZ' : 0 < Z') (h : R * Z' = R' * Z) (hd : d * Z' = d' * Z) (hu : u * Z' = u' * Z) (k : Nat) :
    dgK R Z k = dgK R' Z' k ∧ unK c R d Z k = unK c R' d' Z' k ∧ ovK c R u Z k = ovK c R' u' Z' k ∧ sdK R Z k = sdK R' Z' k := by
  have hr := rsN_cross hZ hZ' h k
  obtain ⟨e1, e2⟩ := cross_div hZ hZ' hr
  have e3 : dgK R Z k = dgK R' Z' k := e1
  have ez : Z * Z' = Z' * Z := Nat.mul_comm _ _
  refine ⟨e3, ?_, ?_, ?_⟩
  · exact wiN_cross hZ hZ' e2 (by rw [Nat.mul_assoc, Nat.mul_assoc, hd])
  · refine wiN_cross hZ hZ' ?_ (by rw [Nat.mul_assoc, Nat.mul_assoc, hu])
    rw [Nat.sub_mul, Nat.sub_mul, e2, ez]
  · unfold sdK
    rw [e3]
    have a1 : Z < 2 * (rsN R Z k % Z) ↔ Z' < 2 * (rsN R' Z' k % Z') := by
      refine (Nat.mul_lt_mul_right hZ').symm.trans ?_
      rw [Nat.mul_assoc, e2, ez, ← Nat.mul_assoc]
      exact Nat.mul_lt_mul_right hZ
    have a2 : 2 * (rsN R Z k % Z) = Z ↔ 2 * (rsN R' Z' k % Z') = Z' := by
      constructor
      · intro h
        refine Nat.eq_of_mul_eq_mul_right hZ ?_
        rw [Nat.mul_assoc, ← e2, ← Nat.mul_assoc, h, ez]
      · intro h
        refine Nat.eq_of_mul_eq_mul_right hZ' ?_
        rw [Nat.mul_assoc, e2, ← Nat.mul_assoc, h, ez]
    simp only [a1, a2]
theorem dsN_cross {R Z R' Z' : Nat} (hd : ∀ k, dgK R Z k = dgK R' Z' k) : ∀ k, dsN R Z k = dsN R' Z' k
  | 0 => rfl
  | k + 1 => by simp only [dsN, dsN_cross hd k, hd k]
/-- digits don't hang on how the fraction is written -/
theorem sh_cross {R Z R' Z' d d' u u' : Nat} (c : Bool) (hZ : 0 < Z) (hZ' : 0 < Z') (h : R * Z' = R' * Z) (hd : d * Z' = d' * Z) (hu : u * Z' = u' * Z) (k : Nat) :
    stK c R d u Z k = stK c R' d' u' Z' k ∧ shT c R d u Z k = shT c R' d' u' Z' k ∧ shC c R d u Z k = shC c R' d' u' Z' k := by
  have ha := fun k => cross_all c hZ hZ' h hd hu k
  obtain ⟨e1, e2, e3, e4⟩ := ha k
  have eu : upK c R d u Z k = upK c R' d' u' Z' k := by unfold upK; rw [e2, e3, e4]
  have el : laK c R d u Z k = laK c R' d' u' Z' k := by unfold laK; rw [eu, e1]
  refine ⟨by unfold stK; rw [e2, e3], ?_, by unfold shC; rw [el]⟩
  unfold shT
  rw [el, dsN_cross (fun k => (ha k).1)]
/-- a power of ten isn't above a fraction c times 2^x -/
def zE (x e : Int) : Nat := 4 * 2 ^ (-x).toNat * 10 ^ e.toNat
def oE (x e : Int) : Nat := 2 ^ x.toNat * 10 ^ (-e).toNat
theorem zE_pos (x e : Int) : 0 < zE x e := Nat.mul_pos (Nat.mul_pos (by decide) (Nat.two_pow_pos _)) (Nat.pow_pos (by decide))
theorem oE_pos (x e : Int) : 0 < oE x e := Nat.mul_pos (Nat.two_pow_pos _) (Nat.pow_pos (by decide))
def tnP (c : Nat) (x e : Int) : Prop := zE x e ≤ 4 * c * oE x e
theorem oz_next (x e : Int) : 10 * zE x e * oE x (e + 1) = zE x (e + 1) * oE x e := by
  unfold zE oE
  by_cases h : 0 ≤ e
  · have e1 : (e + 1).toNat = e.toNat + 1 := by omega
    have e2 : (-e).toNat = 0 := by omega
    have e3 : (-(e + 1)).toNat = 0 := by omega
    rw [e1, e2, e3, Nat.pow_succ]; simp only [Nat.pow_zero, Nat.mul_one]
    generalize 2 ^ (-x).toNat = A; generalize 2 ^ x.toNat = C; generalize 10 ^ e.toNat = D
    grind
  · have e1 : (e + 1).toNat = 0 := by omega
    have e2 : e.toNat = 0 := by omega
    have e3 : (-e).toNat = (-(e + 1)).toNat + 1 := by omega
    rw [e1, e2, e3, Nat.pow_succ]; simp only [Nat.pow_zero, Nat.mul_one]
    generalize 2 ^ (-x).toNat = A; generalize 2 ^ x.toNat = C; generalize 10 ^ (-(e + 1)).toNat = D
    grind
theorem tn_next {c : Nat} {x e : Int} : tnP c x (e + 1) ↔ 10 * zE x e ≤ 4 * c * oE x e := by
  unfold tnP
  have h := oz_next x e
  have p1 := oE_pos x e
  have p2 := oE_pos x (e + 1)
  constructor
  · intro hh
    refine Nat.le_of_mul_le_mul_right ?_ p2
    rw [h]
    have := Nat.mul_le_mul_right (oE x e) hh
    rw [Nat.mul_assoc (4 * c), Nat.mul_comm (oE x e) (oE x (e + 1)), ← Nat.mul_assoc (4 * c)]
    exact this
  · intro hh
    refine Nat.le_of_mul_le_mul_right ?_ p1
    rw [← h]
    have := Nat.mul_le_mul_right (oE x (e + 1)) hh
    rw [Nat.mul_assoc (4 * c), Nat.mul_comm (oE x e) (oE x (e + 1)), ← Nat.mul_assoc (4 * c)] at this
    exact this
theorem tn_down {c : Nat} {x e : Int} (h : tnP c x (e + 1)) : tnP c x e := by
  have := tn_next.1 h
  unfold tnP
  omega
theorem tn_mono {c : Nat} {x : Int} : ∀ (k : Nat) (e : Int), tnP c x (e + k) → tnP c x e
  | 0, e, h => by simpa using h
  | k + 1, e, h => tn_mono k e (tn_down (by rw [show e + (k : Int) + 1 = e + ((k + 1 : Nat) : Int) by omega]; exact h))
theorem tn_le {c : Nat} {x e e' : Int} (h : tnP c x e) (h' : e' ≤ e) : tnP c x e' :=
  tn_mono (e - e').toNat e' (by rw [show e' + ((e - e').toNat : Int) = e by omega]; exact h)
/-- there is one such power alone -/
theorem tn_uniq {c : Nat} {x e e' : Int} (h1 : tnP c x e) (h2 : ¬ tnP c x (e + 1)) (h3 : tnP c x e') (h4 : ¬ tnP c x (e' + 1)) : e = e' := by
  rcases Int.lt_trichotomy e e' with h | h | h
  · exact absurd (tn_le h3 (by omega)) h2
  · exact h
  · exact absurd (tn_le h1 (by omega)) h4
theorem ten_le_two {t p : Nat} (h : 196 * t ≤ 59 * p) : 10 ^ t ≤ 2 ^ p := by
  rcases Nat.lt_or_ge (2 ^ p) (10 ^ t) with h1 | h1
  · exfalso
    have h2 : (2 ^ p) ^ 59 < (10 ^ t) ^ 59 := Nat.pow_lt_pow_left h1 (by decide)
    have h3 : (10 ^ 59) ^ t ≤ (2 ^ 196) ^ t := Nat.pow_le_pow_left (by decide) t
    have h4 : 2 ^ (196 * t) ≤ 2 ^ (59 * p) := Nat.pow_le_pow_right (by decide) h
    have e1 : ((2 : Nat) ^ p) ^ 59 = 2 ^ (59 * p) := by rw [← Nat.pow_mul, Nat.mul_comm]
    have e2 : ((10 : Nat) ^ t) ^ 59 = (10 ^ 59) ^ t := by rw [← Nat.pow_mul, ← Nat.pow_mul, Nat.mul_comm]
    have e3 : ((2 : Nat) ^ 196) ^ t = 2 ^ (196 * t) := by rw [← Nat.pow_mul]
    rw [e1, e2] at h2
    rw [e3] at h3
    omega
  · exact h1
theorem big_ten : (2 : Nat) ^ 100000 ≤ 10 ^ 30103 := by decide +kernel
theorem two_le_ten_n {n m t q : Nat} (hn : n ≠ 0) (hb : (2 : Nat) ^ n ≤ 10 ^ m) (h : m * q ≤ n * t) : 2 ^ q ≤ 10 ^ t := by
  rcases Nat.lt_or_ge (10 ^ t) (2 ^ q) with h1 | h1
  · exfalso
    have h2 : (10 ^ t) ^ n < (2 ^ q) ^ n := Nat.pow_lt_pow_left h1 hn
    have h3 : (2 ^ n) ^ q ≤ (10 ^ m) ^ q := Nat.pow_le_pow_left hb q
    have h4 : 10 ^ (m * q) ≤ 10 ^ (n * t) := Nat.pow_le_pow_right (by decide) h
    have e1 : ((10 : Nat) ^ t) ^ n = 10 ^ (n * t) := by rw [← Nat.pow_mul, Nat.mul_comm]
    have e2 : ((2 : Nat) ^ q) ^ n = (2 ^ n) ^ q := by rw [← Nat.pow_mul, ← Nat.pow_mul, Nat.mul_comm]
    have e3 : ((10 : Nat) ^ m) ^ q = 10 ^ (m * q) := by rw [← Nat.pow_mul]
    rw [e1, e2] at h2
    rw [e3] at h3
    omega
  · exact h1
theorem two_le_ten {t q : Nat} (h : 30103 * q ≤ 100000 * t) : 2 ^ q ≤ 10 ^ t := two_le_ten_n (by decide) big_ten h
/-- the guess is never too high -/
theorem guess_ok {c L : Nat} {x : Int} (hL : 2 ^ L ≤ c) (hb : -20000 ≤ (L : Int) + x ∧ (L : Int) + x ≤ 20000) : tnP c x ((((L : Int) + x) * 30103).tdiv 100000 - 1) := by
  have hq : (((L : Int) + x) * 30103).tdiv 100000 = if 0 ≤ (L : Int) + x then (((L : Int) + x) * 30103) / 100000 else -((-((L : Int) + x) * 30103) / 100000) := by
    split
    · rw [Int.tdiv_eq_ediv_of_nonneg (by omega)]
    · rw [show ((L : Int) + x) * 30103 = -(-((L : Int) + x) * 30103) by omega, Int.neg_tdiv, Int.tdiv_eq_ediv_of_nonneg (by omega)]
  generalize hg : (((L : Int) + x) * 30103).tdiv 100000 - 1 = g at *
  unfold tnP zE oE
  rw [Nat.mul_assoc 4, Nat.mul_assoc 4]
  refine Nat.mul_le_mul_left 4 ?_
  by_cases hg0 : 0 ≤ g
  · have hp : 0 ≤ (L : Int) + x := by
      rcases Int.lt_or_le ((L : Int) + x) 0 with h | h
      · rw [if_neg (by omega)] at hq; omega
      · exact h
    rw [if_pos hp] at hq
    have h1 : 10 ^ g.toNat ≤ 2 ^ ((L : Int) + x).toNat := ten_le_two (by omega)
    rw [show (-g).toNat = 0 by omega, Nat.pow_zero, Nat.mul_one]
    by_cases hx : 0 ≤ x
    · rw [show (-x).toNat = 0 by omega, Nat.pow_zero, Nat.one_mul]
      rw [show ((L : Int) + x).toNat = L + x.toNat by omega, Nat.pow_add] at h1
      exact Nat.le_trans h1 (Nat.mul_le_mul_right _ hL)
    · rw [show x.toNat = 0 by omega, Nat.pow_zero, Nat.mul_one]
      have h2 := Nat.mul_le_mul_left (2 ^ (-x).toNat) h1
      rw [← Nat.pow_add, show (-x).toNat + ((L : Int) + x).toNat = L by omega] at h2
      exact Nat.le_trans h2 hL
  · rw [show g.toNat = 0 by omega, Nat.pow_zero, Nat.mul_one]
    by_cases hp : 0 ≤ (L : Int) + x
    · have h1 : 2 ^ (-x).toNat ≤ c * 2 ^ x.toNat := by
        by_cases hx : 0 ≤ x
        · rw [show (-x).toNat = 0 by omega, Nat.pow_zero]
          have := Nat.two_pow_pos L
          exact Nat.mul_pos (by omega) (Nat.two_pow_pos _)
        · rw [show x.toNat = 0 by omega, Nat.pow_zero, Nat.mul_one]
          exact Nat.le_trans (Nat.pow_le_pow_right (by decide) (by omega)) hL
      rw [← Nat.mul_assoc]
      exact Nat.le_trans h1 (Nat.le_mul_of_pos_right _ (Nat.pow_pos (by decide)))
    · rw [if_neg hp] at hq
      have h1 : 2 ^ (-((L : Int) + x)).toNat ≤ 10 ^ (-g).toNat := two_le_ten (by omega)
      rw [show x.toNat = 0 by omega, Nat.pow_zero, Nat.one_mul]
      rw [show (-x).toNat = L + (-((L : Int) + x)).toNat by omega, Nat.pow_add]
      exact Nat.mul_le_mul hL h1
/-- 2^(x - 2) over 10^p, the twos of both taken together -/
theorem frac_eq (x p : Int) : 5 ^ (-p).toNat * 2 ^ (x - 2 - p).toNat * zE x p = 5 ^ p.toNat * 2 ^ (-(x - 2 - p)).toNat * oE x p := by
  unfold zE oE
  rw [show (10 : Nat) = 5 * 2 from rfl, Nat.mul_pow, Nat.mul_pow, show (4 : Nat) = 2 ^ 2 from rfl]
  have e : (x - 2 - p).toNat + 2 + (-x).toNat + p.toNat = (-(x - 2 - p)).toNat + x.toNat + (-p).toNat := by omega
  have e2 : (2 : Nat) ^ (x - 2 - p).toNat * 2 ^ 2 * 2 ^ (-x).toNat * 2 ^ p.toNat = 2 ^ (-(x - 2 - p)).toNat * 2 ^ x.toNat * 2 ^ (-p).toNat := by
    rw [← Nat.pow_add, ← Nat.pow_add, ← Nat.pow_add, ← Nat.pow_add, ← Nat.pow_add, e]
  generalize (5 : Nat) ^ (-p).toNat = A at *
  generalize (5 : Nat) ^ p.toNat = B at *
  generalize (2 : Nat) ^ (x - 2 - p).toNat = C at *
  generalize (2 : Nat) ^ (-(x - 2 - p)).toNat = D at *
  generalize (2 : Nat) ^ (-x).toNat = E at *
  generalize (2 : Nat) ^ x.toNat = F at *
  generalize (2 : Nat) ^ p.toNat = G at *
  generalize (2 : Nat) ^ (-p).toNat = H at *
  generalize (2 : Nat) ^ 2 = I at *
  calc A * C * (I * E * (B * G)) = A * B * (C * I * E * G) := by grind
    _ = A * B * (D * F * H) := by rw [e2]
    _ = B * D * (F * (A * H)) := by grind
/-- one place further -/
theorem frac_next {q W : Nat} {x p : Int} (h : q * zE x p = W * oE x p) : q * zE x (p + 1) = 10 * W * oE x (p + 1) := by
  have hn := oz_next x p
  have p1 := oE_pos x p
  refine Nat.eq_of_mul_eq_mul_right p1 ?_
  calc q * zE x (p + 1) * oE x p = q * (zE x (p + 1) * oE x p) := by rw [Nat.mul_assoc]
    _ = q * (10 * zE x p * oE x (p + 1)) := by rw [hn]
    _ = 10 * (q * zE x p) * oE x (p + 1) := by grind
    _ = 10 * (W * oE x p) * oE x (p + 1) := by rw [h]
    _ = 10 * W * oE x (p + 1) * oE x p := by grind
/-- the number's first digit stands there -/
theorem frac_tn {q W c : Nat} {x p : Int} (hq : 0 < q) (h : q * zE x p = W * oE x p) (k : Nat) : k * W ≤ 4 * c * q ↔ k * zE x p ≤ 4 * c * oE x p := by
  have p1 := oE_pos x p
  have e1 : k * W * oE x p = k * zE x p * q := by rw [Nat.mul_assoc, ← h]; grind
  have e2 : 4 * c * q * oE x p = 4 * c * oE x p * q := by grind
  constructor
  · intro hh
    refine Nat.le_of_mul_le_mul_right ?_ hq
    rw [← e1, ← e2]
    exact Nat.mul_le_mul_right _ hh
  · intro hh
    refine Nat.le_of_mul_le_mul_right ?_ p1
    rw [e1, e2]
    exact Nat.mul_le_mul_right _ hh
end Go.Proofs.YtoobncgmcnmgjaaGreatDoor

namespace Go.Proofs.YtoobncgmcnmgjaaGreatDoor
open Go.RowKit

def arrOf (f : Nat → Int) (n : Nat) : Array Value := ((List.range n).map fun i => Value.int .u64 (f i)).toArray
@[simp] theorem arrOf_size (f : Nat → Int) (n : Nat) : (arrOf f n).size = n := by simp [arrOf]
theorem arrOf_get (f : Nat → Int) (n i : Nat) (h : i < (arrOf f n).size) : (arrOf f n)[i]'h = .int .u64 (f i) := by simp [arrOf]
theorem arrOf_get? (f : Nat → Int) (n i : Nat) (h : i < n) : (arrOf f n)[i]? = some (.int .u64 (f i)) := by simp [arrOf, h]
theorem arrOf_set (f : Nat → Int) (n k : Nat) (v : Int) : (arrOf f n).setIfInBounds k (.int .u64 v) = arrOf (fun i => if i = k then v else f i) n := by
  apply Array.ext
  · simp
  · intro i h1 h2
    rw [Array.getElem_setIfInBounds]
    simp only [arrOf_get]
    by_cases h : k = i
    · subst h; simp
    · simp [h, Ne.symm h]; exact arrOf_get _ _ _ _
    simpa using h2
theorem arrOf_congr {f g : Nat → Int} {n : Nat} (h : ∀ i, i < n → f i = g i) : arrOf f n = arrOf g n := by
  apply Array.ext
  · simp
  · intro i h1 h2
    simp only [arrOf_get]
    rw [h i (by simpa using h1)]
theorem arrOf_of (cs : Array Value) (n : Nat) (f : Nat → Int) (hs : cs.size = n) (h : ∀ i, i < n → cs[i]? = some (.int .u64 (f i))) : cs = arrOf f n := by
  apply Array.ext
  · simp [hs]
  · intro i h1 h2
    rw [arrOf_get]
    have := h i (by omega)
    rw [Array.getElem?_eq_getElem h1] at this
    exact Option.some.inj this

theorem add64 (x y c : Int) (hx : 0 ≤ x) (hy : 0 ≤ y) (hc0 : 0 ≤ c) (hc : c ≤ 1) (w : World) : (callFunc 52 #[.int .u64 x, .int .u64 y, .int .u64 c]).run Tryz.prog w =
    .ok (.value (.tuple #[.int .u64 ((x + y + c) % 18446744073709551616), .int .u64 ((x + y + c) / 18446744073709551616)])) w := by
  rw [run_callFunc_extern Tryz.func52 (by kernel_rfl) (by kernel_rfl) (by kernel_rfl) (e := add64Entry) (by kernel_rfl), run_add64 x y c hx hy hc0 hc]
  rfl

def sub64E : Array Value → Sem Value := fun args => do
  let (x, y, b) ← Extern.MathBitsCarry.three "Sub64" args
  pure (Extern.MathBitsCarry.pair ((x + Extern.MathBitsCarry.m64 - y - b) % Extern.MathBitsCarry.m64) (if x < y + b then 1 else 0))
theorem run_sub64E (x y b : Nat) (hb : b ≤ 1) (w : World) :
    (sub64E #[.int .u64 x, .int .u64 y, .int .u64 b]).run Tryz.prog w =
      .ok (.tuple #[.int .u64 (((x + 18446744073709551616 - y - b) % 18446744073709551616 : Nat) : Int), .int .u64 ((if x < y + b then 1 else 0 : Nat) : Int)]) w := by
  have : b = 0 ∨ b = 1 := by omega
  rcases this with rfl | rfl <;> rfl
/-- what is borrowed -/
def bor (x y b : Int) : Int := if x < y + b then 1 else 0
theorem sub64 (x y b : Int) (hx : 0 ≤ x) (hy : 0 ≤ y) (hy' : y < 18446744073709551616) (hb0 : 0 ≤ b) (hb : b ≤ 1) (w : World) : (callFunc 70 #[.int .u64 x, .int .u64 y, .int .u64 b]).run Tryz.prog w =
    .ok (.value (.tuple #[.int .u64 ((x - y - b) % 18446744073709551616), .int .u64 (bor x y b)])) w := by
  obtain ⟨x, rfl⟩ := Int.eq_ofNat_of_zero_le hx
  obtain ⟨y, rfl⟩ := Int.eq_ofNat_of_zero_le hy
  obtain ⟨b, rfl⟩ := Int.eq_ofNat_of_zero_le hb0
  have e1 : (((x + 18446744073709551616 - y - b) % 18446744073709551616 : Nat) : Int) = ((x : Int) - y - b) % 18446744073709551616 := by omega
  have e2 : ((if x < y + b then 1 else 0 : Nat) : Int) = bor x y b := by unfold bor; split <;> split <;> omega
  rw [run_callFunc_extern Tryz.func70 (by kernel_rfl) (by kernel_rfl) (by kernel_rfl) (e := sub64E) (by kernel_rfl), run_sub64E x y b (by omega), ← e1, ← e2]
  rfl
end Go.Proofs.YtoobncgmcnmgjaaGreatDoor

namespace Go.Proofs.YtoobncgmcnmgjaaGreatDoor
open Go.RowKit
attribute [local go_sem ↓] Go.wp_at_zero Go.wp_at_succ
theorem setCell_drewN (w : World) (n : Nat) (a : Addr) (v : Value) : (w.drewN n).setCell a v = (w.setCell a v).drewN n := rfl
theorem alloc_drewN (w : World) (n : Nat) (o : Obj) : (w.drewN n).alloc o = (w.alloc o).drewN n := rfl
attribute [local go_sem] setCell_drewN alloc_drewN

/-- the carry into word k, and the sum's words -/
def carryW (x y : Nat → Int) : Nat → Int
  | 0 => 0
  | k + 1 => (x k + y k + carryW x y k) / 18446744073709551616
def sumW (x y : Nat → Int) (k : Nat) : Int := (x k + y k + carryW x y k) % 18446744073709551616

def Words (x : Nat → Int) : Prop := ∀ i, 0 ≤ x i ∧ x i ≤ 18446744073709551615
theorem carryW_01 {x y : Nat → Int} (hx : Words x) (hy : Words y) (k : Nat) : 0 ≤ carryW x y k ∧ carryW x y k ≤ 1 := by
  induction k with
  | zero => simp [carryW]
  | succ k ih => have := hx k; have := hy k; simp only [carryW]; omega
/-- the borrow from word k, and the difference's words -/
def borW (x y : Nat → Int) : Nat → Int
  | 0 => 0
  | k + 1 => bor (x k) (y k) (borW x y k)
def difW (x y : Nat → Int) (k : Nat) : Int := (x k - y k - borW x y k) % 18446744073709551616
theorem bor_01 (x y b : Int) : 0 ≤ bor x y b ∧ bor x y b ≤ 1 := by unfold bor; split <;> omega
theorem borW_01 (x y : Nat → Int) (k : Nat) : 0 ≤ borW x y k ∧ borW x y k ≤ 1 := by
  cases k with
  | zero => simp [borW]
  | succ k => exact bor_01 _ _ _

theorem below_alloc4 (w : World) (o1 o2 o3 o4 : Obj) (m : Nat) : Below w.heap.size w ((((((w.alloc o1).alloc o2).alloc o3).alloc o4).drewN m)) := by
  have h := ((((Below.refl w.heap.size w).alloc (Nat.le_refl _) o1).alloc (by simp) o2).alloc (by simp; omega) o3).alloc (by simp; omega) o4
  exact ⟨h.os, h.tape, h.output, h.size, h.block⟩
theorem below_alloc3 (w : World) (o1 o2 o3 : Obj) (m : Nat) : Below w.heap.size w (((((w.alloc o1).alloc o2).alloc o3).drewN m)) := by
  have h := (((Below.refl w.heap.size w).alloc (Nat.le_refl _) o1).alloc (by simp) o2).alloc (by simp; omega) o3
  exact ⟨h.os, h.tape, h.output, h.size, h.block⟩
theorem set_next {ss : Array Value} {k : Nat} {f : Nat → Int} (hss : ∀ j h, ss[j]'h = Value.int .u64 (if j < k then f j else 0)) (j : Nat) (h : j < (ss.setIfInBounds k (.int .u64 (f k))).size) : (ss.setIfInBounds k (.int .u64 (f k)))[j]'h = Value.int .u64 (if j < k + 1 then f j else 0) := by
  have h' : j < ss.size := by simpa using h
  rw [Array.getElem_setIfInBounds]
  by_cases e : k = j
  · subst e; simp
  · rw [if_neg e, hss j h']
    by_cases e2 : j < k
    · simp [e2, Nat.lt_succ_of_lt e2]
    · simp [e2, show ¬ j < k + 1 by omega]
  exact h'





end Go.Proofs.YtoobncgmcnmgjaaGreatDoor

namespace Go.Proofs.YtoobncgmcnmgjaaGreatDoor
open Go.RowKit
attribute [local go_sem] setCell_drewN alloc_drewN

set_option maxHeartbeats 1000000 in
theorem div64_0 (lo y : Int) (w : World) (hl : 0 ≤ lo ∧ lo ≤ 18446744073709551615) (hy : 0 < y ∧ y ≤ 18446744073709551615) :
    Calls Tryz.prog 83 #[.int .u64 0, .int .u64 lo, .int .u64 y] w fun e w' => e = .returned (.tuple #[.int .u64 (lo / y), .int .u64 (lo % y)]) ∧ ∃ m, w' = w.drewN m := by
  have hy0 : ¬ y = 0 := by omega
  go_enter Tryz.func83, Tryz.ntmps83
  go_wp2
  go_quiet (fail)
  go_wp2
  go_ret2
  exact ⟨rfl, _, rfl⟩

/-- the rest ahead of word n - 1 - j, and the quotient's words -/
def remJ (x : Nat → Int) (d : Int) (n : Nat) : Nat → Int
  | 0 => 0
  | j + 1 => (remJ x d n j * 18446744073709551616 + x (n - 1 - j)) % d
def quoW (x : Nat → Int) (d : Int) (n j : Nat) : Int := (remJ x d n (n - 1 - j) * 18446744073709551616 + x j) / d
theorem remJ_bd (x : Nat → Int) (d : Int) (n j : Nat) (hd : 0 < d) : 0 ≤ remJ x d n j ∧ remJ x d n j < d := by
  cases j with
  | zero => exact ⟨Int.le_refl _, hd⟩
  | succ j => exact ⟨Int.emod_nonneg _ (by omega), Int.emod_lt_of_pos _ hd⟩
theorem bcell {W w1 : World} (hb : Below W.heap.size W w1) : (∀ b o, b < W.heap.size → w1.cell? ⟨b, o, none⟩ = W.cell? ⟨b, o, none⟩) ∧ (∀ b o, b < W.heap.size → w1.frozen? ⟨b, o, none⟩ = W.frozen? ⟨b, o, none⟩) :=
  ⟨fun b o h => hb.cell (p := ⟨b, o, none⟩) h, fun b o h => hb.frozen (p := ⟨b, o, none⟩) h⟩


end Go.Proofs.YtoobncgmcnmgjaaGreatDoor
